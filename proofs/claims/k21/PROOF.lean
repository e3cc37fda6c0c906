import PyProof.Rows.All
import Wide.All
import OpenK.AllK
import Wide.FinOn
import Lean
import PyProof.EqAt
import PyProof.EqKinds
import PyProof.TupleCall
import KE.KTryMore
import KE.KIntText
import KE.RegKTryMore
import PySem.Challenge.RW_samewise_k21_lengths_apart
set_option Elab.async false
set_option linter.all false
set_option maxRecDepth 100000
set_option maxHeartbeats 4000000
namespace L2
open PySem PySem.Spec PyProof.Rows

noncomputable abbrev Key:=Sum Int Str
noncomputable def keyIs:Key→Value→Bool
  | .inl k,v=>Value.isInt k v
  | .inr x,v=>Value.isStrOf x v
noncomputable def keyH (w:World):Key→Int
  | .inl k=>hashInt k
  | .inr x=>hashStr w x
theorem keyIs_shape:∀ {k:Key} {v:Value},keyIs k v=true→(∃ i t,k=Sum.inl i∧v=Value.int i t)∨(∃ x t,k=Sum.inr x∧v=Value.str x t)
  | .inl i,v,h=>by
    obtain ⟨t,e⟩:=Value.isInt_shape (k:=i) (v:=v) h
    exact .inl ⟨i,t,rfl,e⟩
  | .inr x,v,h=>by
    obtain ⟨t,e⟩:=Value.isStrOf_shape (x:=x) (v:=v) h
    exact .inr ⟨x,t,rfl,e⟩
theorem keyIs_int (i:Int) (t:Tok):keyIs (.inl i) (.int i t)=true:=by simp [keyIs,Value.isInt]
theorem keyIs_str (x:Str) (t:Tok):keyIs (.inr x) (.str x t)=true:=by simp [keyIs,Value.isStrOf]
theorem key_ll (a b:Int):decide ((Sum.inl a:Key)=Sum.inl b)=(a == b):=by
  by_cases e:a=b
  · subst e;simp
  · have h:¬ (Sum.inl a:Key)=Sum.inl b:=fun q=>e (Sum.inl.inj q)
    rw [decide_eq_false h]
    exact (beq_eq_false_iff_ne.mpr e).symm
theorem key_rr (a b:Str):decide ((Sum.inr a:Key)=Sum.inr b)=decide (a=b):=by
  by_cases e:a=b
  · subst e;simp
  · have h:¬ (Sum.inr a:Key)=Sum.inr b:=fun q=>e (Sum.inr.inj q)
    rw [decide_eq_false h,decide_eq_false e]
theorem key_lr (a:Int) (b:Str):decide ((Sum.inl a:Key)=Sum.inr b)=false:=decide_eq_false (fun q=>nomatch q)
theorem key_rl (a:Str) (b:Int):decide ((Sum.inr a:Key)=Sum.inl b)=false:=decide_eq_false (fun q=>nomatch q)

noncomputable def mixKind (prog:Program) (w:World):PySem.KeyKind prog w Key where
  is:=keyIs
  hash:=keyH w
  inj:=fun v a b ha hb=>by
    rcases keyIs_shape ha with ⟨i,t,rfl,rfl⟩ | ⟨x,t,rfl,rfl⟩
    · rcases keyIs_shape hb with ⟨j,u,rfl,e⟩ | ⟨y,u,rfl,e⟩
      · injection e with e1 _;rw [e1]
      · exact nomatch e
    · rcases keyIs_shape hb with ⟨j,u,rfl,e⟩ | ⟨y,u,rfl,e⟩
      · exact nomatch e
      · injection e with e1 _;rw [e1]
  byValue:=fun k v h=>by
    rcases keyIs_shape h with ⟨i,t,rfl,rfl⟩ | ⟨x,t,rfl,rfl⟩ <;> rfl
  pyHash:=fun hv h=>by
    rcases keyIs_shape hv with ⟨i,t,rfl,rfl⟩ | ⟨x,t,rfl,rfl⟩
    · exact wpAny_pyHash_int h
    · exact wpAny_pyHash_str h
  eqBool:=fun hu hv h=>by
    rcases keyIs_shape hu with ⟨i,t,rfl,rfl⟩ | ⟨x,t,rfl,rfl⟩
    · rcases keyIs_shape hv with ⟨j,u,rfl,rfl⟩ | ⟨y,u,rfl,rfl⟩
      · rw [key_ll] at h;exact wpAny_eqBool_int h
      · rw [key_lr] at h;exact SeqAt.EqAt.int_str i t y u _ _ _ _ h
    · rcases keyIs_shape hv with ⟨j,u,rfl,rfl⟩ | ⟨y,u,rfl,rfl⟩
      · rw [key_rl] at h;exact SeqAt.EqAt.str_int x t j u _ _ _ _ h
      · rw [key_rr] at h;exact wpAny_eqBool_str h
  «strs» := fun k x t v h=>by
    rcases keyIs_shape h with ⟨i,u,rfl,e⟩ | ⟨y,u,rfl,e⟩
    · exact nomatch e
    · injection e with e1 _
      subst e1
      cases v <;> rfl

theorem mixKind_int (prog:Program) (w:World) (i:Int) (t:Tok):(mixKind prog w).is (.inl i) (.int i t)=true:=keyIs_int i t
theorem mixKind_str (prog:Program) (w:World) (x:Str) (t:Tok):(mixKind prog w).is (.inr x) (.str x t)=true:=keyIs_str x t
end L2

namespace L2
open PySem PySem.Spec PyProof.Rows

inductive V where
  | non | bl (b:Bool) | int (i:Int) | str (x:Str) | byt (b:Array UInt8) | flt (b:UInt64) | ref (a:Addr) | ty (n:String)
  deriving DecidableEq

noncomputable def RelV:V→Value→Prop
  | .non,u=>u=Value.none
  | .bl b,u=>u=Value.bool b
  | .int i,u=>∃ t,u=Value.int i t
  | .str x,u=>∃ t,u=Value.str x t
  | .byt b,u=>∃ t,u=Value.bytes b t
  | .flt b,u=>∃ t,u=Value.float b t
  | .ref a,u=>u=Value.ref a
  | .ty n,u=>u=Value.type n

noncomputable abbrev Vals:List V→List Value→Prop:=Paired RelV
theorem Vals.length {xs:List V} {us:List Value} (r:Vals xs us):xs.length=us.length:=Paired.length r
theorem Vals.get:∀ {xs:List V} {us:List Value} {i:Nat} {x:V},Vals xs us→xs[i]? = some x→∃ u,us[i]? = some u∧RelV x u
  | _,_,_,_,.nil,e=>by simp at e
  | _,_,0,_,.cons r _,e=>by simp at e;subst e;exact ⟨_,rfl,r⟩
  | _,_,i+1,x,.cons _ t,e=>by
    obtain ⟨u,h1,h2⟩:=Vals.get (i:=i) (x:=x) t (by simpa using e)
    exact ⟨u,by simpa using h1,h2⟩
theorem Vals.set {x:V} {u:Value} (r:RelV x u):∀ {xs:List V} {us:List Value} (i:Nat),Vals xs us→Vals (xs.set i x) (us.set i u)
  | _,_,_,.nil => .nil
  | _,_,0,.cons _ t => .cons r t
  | _,_,i+1,.cons q t => .cons q (Vals.set r i t)
theorem Vals.append:∀ {xs ys:List V} {us ws:List Value},Vals xs us→Vals ys ws→Vals (xs ++ ys) (us ++ ws)
  | _,_,_,_,.nil,s=>s
  | _,_,_,_,.cons r t,s => .cons r (Vals.append t s)
theorem Vals.take:∀ {xs:List V} {us:List Value} (n:Nat),Vals xs us→Vals (xs.take n) (us.take n)
  | _,_,0,_ => .nil
  | _,_,_+1,.nil => .nil
  | _,_,n+1,.cons r t => .cons r (Vals.take n t)
theorem Vals.drop:∀ {xs:List V} {us:List Value} (n:Nat),Vals xs us→Vals (xs.drop n) (us.drop n)
  | _,_,0,r=>r
  | _,_,_+1,.nil => .nil
  | _,_,n+1,.cons _ t=>Vals.drop n t

noncomputable def RelO:Option V→Option Value→Prop
  | some v,some u=>RelV v u
  | none,none=>True
  | _,_=>False
noncomputable def KV {κ : Type}:List (κ × V)→List (κ × Value)→Prop:=Paired fun (p : κ × V) (q : κ × Value)=>p.1=q.1∧RelV p.2 q.2

noncomputable def kV:Key→V
  | .inl i => .int i
  | .inr x => .str x

inductive HO where
    | lst (xs:List V)
    | tup (xs:List V)
    | dK (kvs:List (Key × V)) | dT (kvs:List (List Key × V))
    | set (S:Int→Bool) (n:Nat)
    | ins (C dx:Addr) (fs:List (Str × V))
    | own (x:Addr)
    | xd (fs:List (Str × V))
    | met (f x:Addr)
    | rng (lo hi:Int)
    | frz (o:Obj) (u:HO)
    | tbl (ps:Array Value)
    | ext (φ : Heap→Prop)

noncomputable abbrev Hp:=Addr→Option HO
noncomputable def upd (H:Hp) (a:Addr) (o:HO):Hp:=fun b=>if b=a then some o else H b
theorem upd_same {H:Hp} {a:Addr} {o:HO}:upd H a o a=some o:=by unfold upd;rw [if_pos rfl]
theorem upd_ne {H:Hp} {a b:Addr} {o:HO} (h:b≠a):upd H a o b=H b:=by unfold upd;rw [if_neg h]
theorem upd_upd {H:Hp} {a:Addr} {o u:HO}:upd (upd H a o) a u=upd H a u:=by
  funext b;unfold upd;split <;> rfl
theorem ne_of {H:Hp} {a b:Addr} {o u:HO} (h:H a=some o) (h':H b=some u) (d:o≠u):a≠b:=by
  intro e;subst e;rw [h] at h';exact d (Option.some.inj h')
theorem ne_of_none {H:Hp} {a b:Addr} {o:HO} (h:H a=some o) (h':H b=none):a≠b:=by
  intro e;subst e;rw [h] at h';cases h'

noncomputable def IsTupN (h:Heap) (a:Addr) (items:Array Value):Prop := ∃ o,h.get? a=some o∧o.cls = .type "tuple" ∧ ∃ n,o.data = .seq items n∧o.dict=none
theorem IsTupN.tup {h:Heap} {a:Addr} {items:Array Value} (x:IsTupN h a items):IsTup h a items:=let ⟨o,e,c,n,d,_⟩:=x; ⟨o,e,c,n,d⟩
theorem IsTupN.new (h:Heap) (items:Array Value):IsTupN (h.push { cls := .type "tuple",data := .seq items }) h.objs.size items:=⟨_,Heap.get?_push_size _ rfl,rfl,_,rfl,rfl⟩
section
variable (P:Program) (w:World)
noncomputable def ObjOk (H:Hp) (h:Heap) (a:Addr):HO→Prop
  | .lst xs=>xs.length≤sizeLine∧∃ (its:List Value) (n:Nat),Vals xs its∧h.get? a=some { cls := .type "list",data := .seq its.toArray n }
  | .tup xs=>xs.length≤sizeLine∧∃ its:List Value,Vals xs its∧IsTupN h a its.toArray
  | .dK kvs=>kvs.length≤sizeLine∧(a == sysModules)=false∧∃ vs,KV kvs vs∧h.DictOf (mixKind P w) a vs
  | .dT kvs=>kvs.length≤sizeLine∧(a == sysModules)=false∧∃ xs:List (List Key × Addr × Value),
      Paired (fun (p:List Key × V) (q:List Key × Addr × Value)=>p.1=q.1∧H q.2.1=some (.tup (p.1.map kV))∧RelV p.2 q.2.2) kvs xs ∧
      ∃ o es ep,h.get? a=some o∧o.ExactDict∧o.data = .dict es ep∧es.toList=xs.map (entryOfKey (tupleKind (mixKind P w)))∧(xs.map (·.1)).Nodup
  | .set S n=>h.SetOf (intKind P w) a S n
  | .ins C dx fs=>H dx=some (.own a)∧fs.length≤1000∧dx≠a∧h.get? a=some (PySem.W.instObj C dx) ∧
      ∃ mA,h.Ns1 dx mA∧(∀ f,RelO (fs.lookup f) (mA f))∧PySem.Within mA (fs.map (·.1))
  | .own _=>∃ o,h.get? a=some o
  | .xd fs=>∃ mA,h.Ns1 a mA∧∀ f,RelO (fs.lookup f) (mA f)
  | .rng lo hi=>∃ t u v,h.get? a=some { cls := .type "range",data := .fields #[.int lo t,.int hi u,.int 1 v] }
  | .frz o u=>h.get? a=some o∧ObjOk H h a u
  | .tbl ps=>h.get? a=some { cls := .none,data := .fields ps }
  | .met f x=>h.get? a=some (PySem.W.methodObj (.ref f) (.ref x))
  | .ext φ => φ h∧(∃ o,h.get? a=some o)∧∀ h1 h2:Heap, φ h1→(∀ o,h1.get? a=some o→h2.get? a=some o) → φ h2
noncomputable def HOk (H:Hp) (h:Heap):Prop := ∀ a o,H a=some o→ObjOk P w H h a o
end

section
variable {P:Program} {w:World} {H H':Hp} {h h':Heap} {a:Addr} {o:HO}
theorem ObjOk.lt (x:ObjOk P w H h a o):a < h.objs.size:=by
  cases o with
  | lst xs=>obtain ⟨_,_,_,_,e⟩:=x;exact Heap.lt_size e
  | tup xs=>obtain ⟨_,_,_,p⟩:=x;exact p.tup.lt
  | dK kvs=>obtain ⟨_,_,_,_,o,_,_,e,_⟩:=x;exact Heap.lt_size e
  | dT kvs=>obtain ⟨_,_,_,_,o,_,_,e,_⟩:=x;exact Heap.lt_size e
  | set S n=>obtain ⟨o,_,_,_,e,_⟩:=x;exact Heap.lt_size e
  | ins C dx fs=>obtain ⟨_,_,_,e,_⟩:=x;exact Heap.lt_size e
  | own y=>obtain ⟨_,e⟩:=x;exact Heap.lt_size e
  | xd fs=>obtain ⟨_,⟨_,_,_,e,_⟩,_⟩:=x;exact Heap.lt_size e
  | rng lo hi=>obtain ⟨_,_,_,e⟩:=x;exact Heap.lt_size e
  | frz ob u=>obtain ⟨e,_⟩:=x;exact Heap.lt_size e
  | tbl ps=>exact Heap.lt_size (show h.get? a=some _ from x)
  | met f y=>exact Heap.lt_size (show h.get? a=some _ from x)
  | ext φ => obtain ⟨_,⟨_,e⟩,_⟩:=x;exact Heap.lt_size e
theorem Paired.mapP {α β : Type} {F G : α → β → Prop}:∀ {l₁ : List α} {l₂ : List β},Paired F l₁ l₂ → (∀ a b,F a b→G a b)→Paired G l₁ l₂
  | _,_,.nil,_ => .nil
  | _,_,.cons r t,f => .cons (f _ _ r) (Paired.mapP t f)
theorem ObjOk.stay (x:ObjOk P w H h a o) (k:∀ b u,(b=a∨H b=some (.own a))→h.get? b=some u→h'.get? b=some u)
    (ho:∀ b,H b=some (.own a)→H' b=some (.own a)) (ht:∀ b xs,H b=some (.tup xs)→H' b=some (.tup xs)):ObjOk P w H' h' a o:=by
  induction o with
  | lst xs=>obtain ⟨z,its,n,r,e⟩:=x;exact ⟨z,its,n,r,k _ _ (.inl rfl) e⟩
  | tup xs=>obtain ⟨z,its,r,ob,e,c⟩:=x;exact ⟨z,its,r,ob,k _ _ (.inl rfl) e,c⟩
  | dK kvs=>obtain ⟨z,y,vs,r,ob,es,ep,e,c⟩:=x;exact ⟨z,y,vs,r,ob,es,ep,k _ _ (.inl rfl) e,c⟩
  | dT kvs =>
    obtain ⟨z,y,xs,r,ob,es,ep,e,c⟩:=x
    exact ⟨z,y,xs,Paired.mapP r fun p q z=>⟨z.1,ht _ _ z.2.1,z.2.2⟩,ob,es,ep,k _ _ (.inl rfl) e,c⟩
  | set S n=>obtain ⟨ob,es,ep,t,e,c⟩:=x;exact ⟨ob,es,ep,t,k _ _ (.inl rfl) e,c⟩
  | ins C dx fs =>
    obtain ⟨d,z,ne,e,mA,⟨od,es,ep,e2,c⟩,r⟩:=x
    exact ⟨ho _ d,z,ne,k _ _ (.inl rfl) e,mA,⟨od,es,ep,k _ _ (.inr d) e2,c⟩,r⟩
  | own y=>obtain ⟨ob,e⟩:=x;exact ⟨ob,k _ _ (.inl rfl) e⟩
  | xd fs=>obtain ⟨mA,⟨od,es,ep,e,c⟩,r⟩:=x;exact ⟨mA,⟨od,es,ep,k _ _ (.inl rfl) e,c⟩,r⟩
  | rng lo hi=>obtain ⟨t,u,v,e⟩:=x;exact ⟨t,u,v,k _ _ (.inl rfl) e⟩
  | frz ob u ih=>obtain ⟨e,q⟩:=x;exact ⟨k _ _ (.inl rfl) e,ih q⟩
  | tbl ps =>
    have e:h.get? a=some { cls := .none,data := .fields ps }:=x
    show h'.get? a=some { cls := .none,data := .fields ps }
    exact k a _ (.inl rfl) e
  | met f y =>
    have e:h.get? a=some (PySem.W.methodObj (.ref f) (.ref y)):=x
    show h'.get? a=some (PySem.W.methodObj (.ref f) (.ref y))
    exact k a _ (.inl rfl) e
  | ext φ => obtain ⟨p,⟨o,e⟩,st⟩:=x;exact ⟨st _ _ p fun o q=>k _ _ (.inl rfl) q,⟨o,k _ _ (.inl rfl) e⟩,st⟩
theorem HOk.lt (x:HOk P w H h) (e:H a=some o):a < h.objs.size:=(x a o e).lt
theorem HOk.fresh (x:HOk P w H h) (e:h.objs.size≤a):H a=none:=by
  cases q:H a with
  | none=>rfl
  | some u=>exact absurd (Nat.lt_of_lt_of_le (x.lt q) e) (Nat.lt_irrefl _)
theorem HOk.kept (x:HOk P w H h) (k:∀ b u,h.get? b=some u→h'.get? b=some u):HOk P w H h':=fun a o e =>
  (x a o e).stay (fun b u _ q=>k b u q) (fun _ q=>q) fun _ _ q=>q
theorem HOk.laid (x:HOk P w H h) (k:∀ b u,h.get? b=some u→h'.get? b=some u) (hp:h.objs.size≤a) (new:ObjOk P w (upd H a o) h' a o):HOk P w (upd H a o) h':=fun b u e=>by
  have hn:=x.fresh hp
  by_cases hb:b=a
  · subst hb;rw [upd_same] at e;cases e;exact new
  · rw [upd_ne hb] at e
    exact (x b u e).stay (fun c v _ q=>k c v q) (fun c q=>by rw [upd_ne (ne_of_none q hn)];exact q) fun c xs q=>by rw [upd_ne (ne_of_none q hn)];exact q
end

noncomputable def Rd (H:Hp) (a:Addr) (u:HO):Prop:=H a=some u∨∃ o,H a=some (.frz o u)
theorem Rd.ok {P:Program} {w:World} {H:Hp} {h:Heap} {a:Addr} {u:HO} (r:Rd H a u) (x:HOk P w H h):ObjOk P w H h a u:=by
  rcases r with r | ⟨o,r⟩
  · exact x a u r
  · obtain ⟨_,q⟩:=x a _ r
    exact q
noncomputable def Mut:Option HO→Prop
  | some (.lst _)=>True
  | some (.dK _)=>True
  | some (.dT _)=>True
  | some (.set _ _)=>True
  | some (.ins _ _ _)=>True
  | some (.ext _)=>True
  | _=>False
section
variable {P:Program} {w:World} {H:Hp} {h h':Heap} {x e:Addr} {o':HO}
theorem HOk.write (ok:HOk P w H h) (mu:Mut (H x)) (he:e=x∨H e=some (.own x)) (k:∀ b u,b≠e→h.get? b=some u→h'.get? b=some u) (heo:∃ u,h'.get? e=some u)
    (new:ObjOk P w (upd H x o') h' x o'):HOk P w (upd H x o') h':=fun b u q=>by
  have nown:∀ c y,H c=some (.own y)→c≠x:=fun c y r z=>by subst z;rw [r] at mu;exact mu
  have ntup:∀ c xs,H c=some (.tup xs)→c≠x:=fun c xs r z=>by subst z;rw [r] at mu;exact mu
  by_cases hb:b=x
  · subst hb;rw [upd_same] at q;cases q;exact new
  · rw [upd_ne hb] at q
    by_cases hbe:b=e
    · have q':H b=some (.own x):=by
        rcases he with z | z
        · exact absurd (hbe.trans z) hb
        · rw [hbe];exact z
      rw [q] at q';cases q'
      obtain ⟨v,hv⟩:=heo
      exact ⟨v,by rw [hbe];exact hv⟩
    · refine (ok b u q).stay (fun c v hc r=>k c v ?_ r) (fun c r=>by rw [upd_ne (nown c b r)];exact r) fun c xs r=>by rw [upd_ne (ntup c xs r)];exact r
      rcases hc with rfl | hc
      · exact hbe
      · rintro rfl
        rcases he with z | z
        · exact nown c b hc z
        · rw [hc] at z;cases z;exact hb rfl
end

structure Un (fs ex:List Addr) (H H':Hp) (h h':Heap):Prop where
  keep:∀ b o,h.get? b=some o→H b=none→b ∉ fs→b ∉ ex→h'.get? b=some o
  slot:∀ b o,h.get? b=some o→H b=none→b∈fs→b ∉ ex→∃ sl,h'.get? b=some { o with slots:=sl }
  free:∀ b o,h.get? b=some o→H b=none→b ∉ ex→H' b=none
  there:∀ b o,h.get? b=some o→b ∉ ex→∃ o',h'.get? b=some o'
  tups:∀ b xs,H b=some (.tup xs)→H' b=some (.tup xs)
  frzs:∀ b o u,H b=some (.frz o u)→H' b=some (.frz o u)
  tbls:∀ b ps,H b=some (.tbl ps)→∃ more,H' b=some (.tbl (ps ++ more))
section
variable {fs fs' ex ex':List Addr} {H H1 H2:Hp} {h h1 h2 h':Heap} {a x e:Addr} {o:HO}
theorem Un.any (u:Un fs ex H H1 h h1) {b:Addr} {ob:Obj} (q:h.get? b=some ob) (n:H b=none) (hx:b ∉ ex):∃ sl,h1.get? b=some { ob with slots:=sl }:=by
  by_cases hb:b∈fs
  · exact u.slot b ob q n hb hx
  · exact ⟨ob.slots,u.keep b ob q n hb hx⟩
theorem Un.kept (k:∀ b u,h.get? b=some u→h'.get? b=some u):Un fs ex H H h h' :=
  ⟨fun b ob q _ _ _=>k b ob q,fun b ob q _ _ _=>⟨ob.slots,k b ob q⟩,fun _ _ _ n _=>n,fun b ob q _=>⟨ob,k b ob q⟩,fun _ _ q=>q,fun _ _ _ q=>q,fun _ ps q=>⟨#[],by rw [q];simp⟩⟩
theorem Un.refl:Un fs ex H H h h:=Un.kept fun _ _ q=>q
theorem Un.laid (k:∀ b u,h.get? b=some u→h'.get? b=some u) (hp:h.objs.size≤a) (hn:H a=none):Un fs ex H (upd H a o) h h' where
  keep:=fun b u q _ _ _=>k b u q
  slot:=fun b u q _ _ _=>⟨u.slots,k b u q⟩
  free:=fun b u q n _=>by rw [upd_ne (Nat.ne_of_lt (Nat.lt_of_lt_of_le (Heap.lt_size q) hp))];exact n
  there:=fun b u q _=>⟨u,k b u q⟩
  tups:=fun b xs q=>by rw [upd_ne (ne_of_none q hn)];exact q
  frzs:=fun b u xs q=>by rw [upd_ne (ne_of_none q hn)];exact q
  tbls:=fun b ps q=>⟨#[],by rw [upd_ne (ne_of_none q hn),q];simp⟩
theorem Un.write (mu:Mut (H x)) (he:e=x∨H e=some (.own x)) (k:∀ b u,b≠e→h.get? b=some u→h'.get? b=some u) (heo:∃ u,h'.get? e=some u):Un fs ex H (upd H x o) h h':=by
  have hx:∀ b,H b=none→b≠x:=fun b n z=>by subst z;rw [n] at mu;exact mu
  have hb:∀ b,H b=none→b≠e:=fun b n z=>by
    subst z
    rcases he with r | r
    · exact hx b n r
    · rw [n] at r;cases r
  have hm:∀ b u,H b=some u→¬ Mut (some u)→b≠x:=fun b u q nm z=>by subst z;rw [q] at mu;exact nm mu
  refine ⟨fun b u q n _ _=>k b u (hb b n) q,fun b u q n _ _=>⟨u.slots,k b u (hb b n) q⟩,fun b u q n _=>by rw [upd_ne (hx b n)];exact n,fun b u q _ => ?_,
    fun b xs q=>by rw [upd_ne (hm b _ q fun z=>z)];exact q,fun b u xs q=>by rw [upd_ne (hm b _ q fun z=>z)];exact q,fun b ps q=>⟨#[],by rw [upd_ne (hm b _ q fun z=>z),q];simp⟩⟩
  by_cases hbe:b=e
  · subst hbe;exact heo
  · exact ⟨u,k b u hbe q⟩
end

noncomputable def trk (h:Heap) (H:Hp):List Addr:=(List.range h.objs.size).filter fun a=>(H a).isSome
noncomputable def hidT (h:Heap) (H:Hp):Heap:=PySem.W.hideAll h (trk h H)
theorem hidT_size (h:Heap) (H:Hp):(hidT h H).objs.size=h.objs.size:=PySem.W.hideAll_size _ _
theorem hidT_get {h:Heap} {H:Hp} {b:Addr} {o:Obj} (e:h.get? b=some o) (n:H b=none):(hidT h H).get? b=some o :=
  PySem.W.hideAll_get _ e fun hm=>by
    have q:(H b).isSome=true:=(List.mem_filter.mp hm).2
    rw [n] at q;simp at q
theorem of_hidT {h:Heap} {H:Hp} {b:Addr} {o:Obj} (e:(hidT h H).get? b=some o):h.get? b=some o∧H b=none:=by
  have e':h.get? b=some o:=PySem.W.of_hideAll (trk h H) e
  refine ⟨e',?_⟩
  cases q:H b with
  | none=>rfl
  | some x =>
    have hm:b∈trk h H:=List.mem_filter.mpr ⟨List.mem_range.mpr (Heap.lt_size e'),by simp [q]⟩
    have z:(hidT h H).get? b=none:=PySem.W.hideAll_none (trk h H) hm
    rw [z] at e;cases e

end L2

namespace L2
open PySem PySem.Spec PyProof.Rows

structure Mod (K:PySem.W.Frag) (mg:Str→Option Value) (base:Heap):Prop where
  kin:K.In base
  glob:base.Ns mainGlobals mg
  blt:∃ mb,base.Ns builtinsNs mb∧∀ x:Str,x ≠ "__name__" → mb x=bootBuiltins x
  nolimit:base.NoLimit

structure Cx where
  prog:Program
  w:World
  K:PySem.W.Frag
  mg:Str→Option Value
  base:Heap
  A:Around
  N:List Str
  s₀ : Shared
  H₀ : Hp
  env:Env
  outer:List Env
  stack:List Env
  ex:List Addr
  fn:Str→Bool
  calm:Bool
  pn:List (Addr × Obj)
  xe:Value→Shared→Prop
noncomputable def frs (l:List Env):List Addr:=l.filterMap (·.frame)
noncomputable abbrev Cx.fs (X:Cx):List Addr:=frs X.outer

noncomputable def Vis (sc:Scope) (x:Str):Prop:=sc.names.lookup x=some .local∨sc.names.lookup x=some .cell∨sc.names.lookup x=some .free
noncomputable def Loc (sc:Scope) (x:Str):Prop:=sc.names.lookup x=some .local∨sc.names.lookup x=some .cell
noncomputable def Look (env:Env) (h:Heap) (m:Str→Option Value) (x:Str) (u:Value):Prop :=
  (env.kindOf x=some .local∧m x=some u)∨((env.kindOf x=some .cell∨env.kindOf x=some .free)∧∃ c,env.cells.lookup x=some c∧h.IsCell c (some u))

structure Cx.Ok (X:Cx):Prop where
  mod:Mod X.K X.mg X.base
  kind:X.env.scope.kind = .function
  glob:X.env.globals=mainGlobals
  blt:X.env.builtins=builtinsNs
  above:X.s₀.heap.objs.size≤X.env.locals
  inj:∀ x y c,X.env.cells.lookup x=some c→X.env.cells.lookup y=some c→x=y
  has:∀ x,(X.env.kindOf x=some .cell∨X.env.kindOf x=some .free)→∃ c,X.env.cells.lookup x=some c
  cab:∀ x c,X.fn x=true→X.env.cells.lookup x=some c→X.s₀.heap.objs.size≤c
  hd:X.calm=true→X.A.handled=none
  frames:X.A.frames=some X.stack
  stk:X.stack=X.outer∨(X.stack=X.env :: X.outer∧X.env.frame=some X.env.locals)
  exf:∀ b∈X.ex,b≠X.env.locals∧∀ x c,X.env.cells.lookup x=some c→c≠b
  bs:∀ b o,X.base.get? b=some o→X.s₀.heap.get? b=some o∧X.H₀ b=none
  bsz:X.base.objs.size≤X.s₀.heap.objs.size
  noex:∀ b o,X.base.get? b=some o→b ∉ X.ex
  exfs:∀ b∈X.ex,b ∉ X.fs
  funs:X.s₀.heap.FunFrames X.base X.outer
  frf:∀ b∈X.fs,X.H₀ b=none

structure Inv (X:Cx) (pins:List (Addr × Obj)) (σ : List (Option V)) (H:Hp) (s:Shared):Prop where
  ok:X.Ok
  os:s.os=X.s₀.os
  bare:AllBare s.gens
  base:Un X.fs X.ex X.H₀ H X.s₀.heap s.heap
  loc:∃ m,s.heap.Ns X.env.locals m∧∀ (i:Nat) (x:Str) (v:V),X.N[i]? = some x → σ[i]? = some (some v)→Vis X.env.scope x→∃ u,RelV v u∧Look X.env s.heap m x u
  cell:∀ x c,X.env.cells.lookup x=some c→∃ v,s.heap.IsCell c v
  free:H X.env.locals=none
  freeC:∀ x c,X.env.cells.lookup x=some c→H c=none
  pin:∀ p∈X.pn ++ pins,s.heap.get? p.1=some p.2∧H p.1=none∧p.1≠X.env.locals∧p.1 ∉ X.fs∧∀ v,p.2.data ≠ .cell v
  hok:HOk X.prog X.w H s.heap
  len : σ.length=X.N.length

section
variable {X:Cx} {pins:List (Addr × Obj)} {σ : List (Option V)} {H H':Hp} {s:Shared} {h':Heap}

theorem Cx.Ok.nofr (ok:X.Ok) {b:Addr} {o:Obj} (e:X.base.get? b=some o):b ∉ X.fs:=fun hb=>by
  have:=(ok.funs.mem hb).1
  rw [e] at this;cases this
theorem Inv.bs (I:Inv X pins σ H s):∀ b o,X.base.get? b=some o→s.heap.get? b=some o∧H b=none:=fun b o e =>
  ⟨I.base.keep b o (I.ok.bs b o e).1 (I.ok.bs b o e).2 (I.ok.nofr e) (I.ok.noex b o e),I.base.free b o (I.ok.bs b o e).1 (I.ok.bs b o e).2 (I.ok.noex b o e)⟩
theorem Inv.bk (I:Inv X pins σ H s):∀ b o,X.base.get? b=some o→s.heap.get? b=some o:=fun b o e=>(I.bs b o e).1
theorem Inv.mod (I:Inv X pins σ H s):Mod X.K X.mg X.base:=I.ok.mod
theorem Inv.kIn (I:Inv X pins σ H s):X.K.In s.heap:=I.ok.mod.kin.keeps I.bk
theorem Inv.lt (I:Inv X pins σ H s):X.env.locals < s.heap.objs.size:=let ⟨_,hn,_⟩:=I.loc;hn.lt
theorem Inv.sz (I:Inv X pins σ H s):X.s₀.heap.objs.size≤s.heap.objs.size:=Nat.le_trans I.ok.above (Nat.le_of_lt I.lt)
theorem Inv.nofs (I:Inv X pins σ H s) {a:Addr} (h:s.heap.objs.size≤a):a ∉ X.fs:=fun hb=>by
  obtain ⟨_,o,ho,_⟩:=I.ok.funs.mem hb
  exact absurd (Nat.lt_of_lt_of_le (Heap.lt_size ho) (Nat.le_trans I.sz h)) (Nat.lt_irrefl _)
theorem Inv.cne (I:Inv X pins σ H s):∀ x c,X.env.cells.lookup x=some c→c≠X.env.locals:=fun x c e z=>by
  obtain ⟨v,o,ho,hd⟩:=I.cell x c e
  obtain ⟨m,⟨o',es,ep,ho',hd',_⟩,_⟩:=I.loc
  rw [z,ho'] at ho;cases ho;rw [hd'] at hd;cases hd
theorem Inv.funs (I:Inv X pins σ H s):s.heap.FunFrames X.base X.outer:=by
  have all:∀ (l:List Env),(∀ b∈frs l,b∈X.fs)→X.s₀.heap.FunFrames X.base l→s.heap.FunFrames X.base l:=by
    intro l
    induction l with
    | nil=>intro _ _;trivial
    | cons env r ih =>
      intro hs hl
      obtain ⟨hk,⟨L,o,hf,hn,ho,hd⟩,hr⟩:=hl
      have hL:L∈X.fs:=hs L (by unfold frs;rw [List.filterMap_cons,hf];exact List.mem_cons_self)
      obtain ⟨sl,e⟩:=I.base.slot L o ho (I.ok.frf L hL) hL fun z=>I.ok.exfs L z hL
      exact ⟨hk,⟨L,_,hf,hn,e,hd⟩,ih (fun b hb=>hs b (by unfold frs;rw [List.filterMap_cons,hf];exact List.mem_cons_of_mem _ hb)) hr⟩
  exact all X.outer (fun _ hb=>hb) I.ok.funs

theorem Inv.stack (I:Inv X pins σ H s):s.heap.FunFrames X.base X.stack:=by
  rcases I.ok.stk with e | ⟨e,hf⟩
  · rw [e];exact I.funs
  · rw [e]
    obtain ⟨m,hn,_⟩:=I.loc
    refine .cons (by rw [I.ok.kind];decide) hf hn ?_ I.funs
    exact Heap.get?_none_of_le (Nat.le_trans I.ok.bsz I.ok.above)
theorem Inv.stkSub (I:Inv X pins σ H s):∀ b∈frs X.stack,b∈X.env.locals :: X.fs:=fun b hb=>by
  rcases I.ok.stk with e | ⟨e,hf⟩
  · rw [e] at hb;exact List.mem_cons_of_mem _ hb
  · rw [e] at hb
    unfold frs at hb
    rw [List.filterMap_cons,hf] at hb
    exact hb
theorem Inv.stkFree (I:Inv X pins σ H s):∀ b∈frs X.stack,H b=none:=fun b hb=>by
  rcases List.mem_cons.mp (I.stkSub b hb) with e | hb
  · rw [e];exact I.free
  · obtain ⟨_,o,ho,_⟩:=I.ok.funs.mem hb
    exact I.base.free b o ho (I.ok.frf b hb) fun z=>I.ok.exfs b z hb

theorem Inv.step {g':Array GenState} {t':Nat} {d':Drawn} {ch:List Addr} (I:Inv X pins σ H s)
    (hch:∀ b∈ch,(b∈X.ex∨X.s₀.heap.objs.size≤b)∧b≠X.env.locals∧(∀ x c,X.env.cells.lookup x=some c→c≠b)∧∀ p∈X.pn ++ pins,p.1≠b)
    (keep:∀ b o,b≠X.env.locals→b ∉ X.fs→b ∉ ch→s.heap.get? b=some o→H b=none→h'.get? b=some o)
    (slot:∀ b o,b≠X.env.locals→b∈X.fs→b ∉ ch→s.heap.get? b=some o→H b=none→∃ sl,h'.get? b=some { o with slots:=sl }) (free:∀ b o,b ∉ ch→s.heap.get? b=some o→H b=none→H' b=none)
    (there:∀ b o,b ∉ ch→s.heap.get? b=some o→∃ o',h'.get? b=some o')
    (tups:∀ b xs,H b=some (.tup xs)→H' b=some (.tup xs)) (frzs:∀ b o u,H b=some (.frz o u)→H' b=some (.frz o u)) (tbls:∀ b ps,H b=some (.tbl ps)→∃ more,H' b=some (.tbl (ps ++ more)))
    (ns:∀ m,s.heap.Ns X.env.locals m→h'.Ns X.env.locals m) (hok:HOk X.prog X.w H' h') (hg:AllBare g') :
    Inv X pins σ H' { s with heap:=h',gens:=g',drawn:=d',toks:=t' }:=by
  have neL:∀ b o,X.s₀.heap.get? b=some o→b≠X.env.locals:=fun b o e=>Nat.ne_of_lt (Nat.lt_of_lt_of_le (Heap.lt_size e) I.ok.above)
  have neC:∀ b o,X.s₀.heap.get? b=some o→b ∉ X.ex→b ∉ ch:=fun b o e hx hb=>by
    rcases (hch b hb).1 with z | z
    · exact hx z
    · exact absurd (Nat.lt_of_lt_of_le (Heap.lt_size e) z) (Nat.lt_irrefl _)
  have cellK:∀ x c,X.env.cells.lookup x=some c→∀ v,s.heap.IsCell c v→h'.IsCell c v:=fun x c e v ⟨o,ho,hd⟩=>by
    have nch:c ∉ ch:=fun z=>(hch c z).2.2.1 x c e rfl
    by_cases hc:c∈X.fs
    · obtain ⟨sl,q⟩:=slot c o (I.cne x c e) hc nch ho (I.freeC x c e)
      exact ⟨_,q,hd⟩
    · exact ⟨o,keep c o (I.cne x c e) hc nch ho (I.freeC x c e),hd⟩
  refine ⟨I.ok,I.os,hg,⟨fun b o e n hb hx => ?_,fun b o e n hb hx => ?_,fun b o e n hx => ?_,fun b o e hx => ?_,fun b xs e=>tups b xs (I.base.tups b xs e),fun b o xs e=>frzs b o xs (I.base.frzs b o xs e),fun b ps e => ?_⟩,?_,fun x c e => ?_,?_,fun x c e => ?_,fun p hp => ?_,hok,I.len⟩
  · exact keep b o (neL b o e) hb (neC b o e hx) (I.base.keep b o e n hb hx) (I.base.free b o e n hx)
  · obtain ⟨sl,e1⟩:=I.base.slot b o e n hb hx
    obtain ⟨sl',e2⟩:=slot b _ (neL b o e) hb (neC b o e hx) e1 (I.base.free b o e n hx)
    exact ⟨sl',e2⟩
  · obtain ⟨o',e1⟩:=I.base.there b o e hx
    exact free b o' (neC b o e hx) e1 (I.base.free b o e n hx)
  · obtain ⟨o',e1⟩:=I.base.there b o e hx
    exact there b o' (neC b o e hx) e1
  · obtain ⟨m1,e1⟩:=I.base.tbls b ps e
    obtain ⟨m2,e2⟩:=tbls b _ e1
    exact ⟨m1 ++ m2,by rw [e2,Array.append_assoc]⟩
  · obtain ⟨m,hn,hl⟩:=I.loc
    refine ⟨m,ns m hn,fun i x v e1 e2 e3 => ?_⟩
    obtain ⟨u,r,l⟩:=hl i x v e1 e2 e3
    refine ⟨u,r,?_⟩
    rcases l with l | ⟨k,c,e,z⟩
    · exact .inl l
    · exact .inr ⟨k,c,e,cellK x c e _ z⟩
  · obtain ⟨v,z⟩:=I.cell x c e
    exact ⟨v,cellK x c e v z⟩
  · obtain ⟨m,⟨o,_,_,ho,_⟩,_⟩:=I.loc
    exact free _ o (fun z=>(hch _ z).2.1 rfl) ho I.free
  · obtain ⟨v,o,ho,hd⟩:=I.cell x c e
    exact free c o (fun z=>(hch c z).2.2.1 x c e rfl) ho (I.freeC x c e)
  · obtain ⟨e,n,ne,nf,d⟩:=I.pin p hp
    have nch:p.1 ∉ ch:=fun z=>(hch p.1 z).2.2.2 p hp rfl
    exact ⟨keep p.1 p.2 ne nf nch e n,free p.1 p.2 nch e n,ne,nf,d⟩
theorem Inv.un {t':Nat} (I:Inv X pins σ H s) (u:Un X.fs [] H H' s.heap h') (hok:HOk X.prog X.w H' h'):Inv X pins σ H' { s with heap:=h',toks:=t' }:=by
  obtain ⟨m,⟨o,es,ep,ho,r⟩,_⟩:=id I.loc
  obtain ⟨sl,hL⟩:=u.any ho I.free (by simp)
  exact I.step (g':=s.gens) (d':=s.drawn) (ch := []) (fun _ z=>nomatch z) (fun b o _ hb _ e n=>u.keep b o e n hb (by simp)) (fun b o _ hb _ e n=>u.slot b o e n hb (by simp)) (fun b o _ e n=>u.free b o e n (by simp)) (fun b o _ e=>u.there b o e (by simp)) u.tups u.frzs u.tbls (fun m' hm=>by
    obtain ⟨o',es',ep',ho',r'⟩:=hm
    rw [ho] at ho';cases ho'
    exact ⟨_,es',ep',hL,r'⟩) hok I.bare
theorem Inv.call {g':Array GenState} {t':Nat} {d':Drawn} {ch:List Addr} (I:Inv X pins σ H s) (u:Un (frs X.stack) ch H H' s.heap h') (hok:HOk X.prog X.w H' h') (hg:AllBare g')
    (hch:∀ b∈ch,(b∈X.ex∨X.s₀.heap.objs.size≤b)∧b≠X.env.locals∧(∀ x c,X.env.cells.lookup x=some c→c≠b)∧∀ p∈X.pn ++ pins,p.1≠b) :
    Inv X pins σ H' { s with heap:=h',gens:=g',drawn:=d',toks:=t' }:=by
  obtain ⟨m,⟨o,es,ep,ho,r⟩,_⟩:=id I.loc
  obtain ⟨sl,hL⟩:=u.any ho I.free fun z=>(hch _ z).2.1 rfl
  exact I.step (ch:=ch) hch (fun b o hL hb hc e n=>u.keep b o e n (fun z=>(List.mem_cons.mp (I.stkSub b z)).elim hL hb) hc) (fun b o _ _ hc e n=>u.any e n hc) (fun b o hc e n=>u.free b o e n hc) (fun b o hc e=>u.there b o e hc) u.tups u.frzs u.tbls (fun m' hm=>by
    obtain ⟨o',es',ep',ho',r'⟩:=hm
    rw [ho] at ho';cases ho'
    exact ⟨_,es',ep',hL,r'⟩) hok hg
theorem Inv.turned {t':Nat} {it:Addr} (I:Inv X pins σ H s) (k:∀ b o,b≠it→s.heap.get? b=some o→h'.get? b=some o) (hn:H it=none) (hL:it≠X.env.locals)
    (h1:it∈X.ex∨X.s₀.heap.objs.size≤it) (h2:∀ x c,X.env.cells.lookup x=some c→c≠it) (h3:∀ p∈X.pn ++ pins,p.1≠it):Inv X pins σ H { s with heap:=h',toks:=t' }:=by
  have nit:∀ b u,H b=some u→b≠it:=fun b u e z=>by rw [z,hn] at e;cases e
  refine I.step (g':=s.gens) (d':=s.drawn) (ch := [it]) (fun b hb => ?_) (fun b o _ _ hc e _=>k b o (fun z=>hc (by simp [z])) e) (fun b o _ _ hc e _=>⟨o.slots,k b o (fun z=>hc (by simp [z])) e⟩) (fun _ _ _ _ n=>n)
    (fun b o hc e=>⟨o,k b o (fun z=>hc (by simp [z])) e⟩) (fun _ _ e=>e) (fun _ _ _ e=>e) (fun b ps e=>⟨#[],by rw [e];simp⟩) (fun m hm => ?_) (fun b u e => ?_) I.bare
  · have e:b=it:=by simpa using hb
    subst e
    exact ⟨h1,hL,h2,h3⟩
  · obtain ⟨o,es,ep,ho,r⟩:=hm
    exact ⟨o,es,ep,k _ o (Ne.symm hL) ho,r⟩
  · refine (I.hok b u e).stay (fun c v hc q=>k c v ?_ q) (fun _ q=>q) fun _ _ q=>q
    rcases hc with z | z
    · rw [z];exact nit b u e
    · exact nit c _ z
theorem Inv.tok (I:Inv X pins σ H s) (t:Nat):Inv X pins σ H { s with toks:=t }:=I.un (h':=s.heap) (t':=t) Un.refl I.hok
theorem Inv.kept {t':Nat} (I:Inv X pins σ H s) (k:∀ b u,s.heap.get? b=some u→h'.get? b=some u):Inv X pins σ H { s with heap:=h',toks:=t' }:=I.un (Un.kept k) (I.hok.kept k)
theorem Inv.laid {a:Addr} {o:HO} {t':Nat} (I:Inv X pins σ H s) (k:∀ b u,s.heap.get? b=some u→h'.get? b=some u) (hp:s.heap.objs.size≤a) (new:ObjOk X.prog X.w (upd H a o) h' a o) :
    Inv X pins σ (upd H a o) { s with heap:=h',toks:=t' }:=I.un (Un.laid k hp (I.hok.fresh hp)) (I.hok.laid k hp new)
theorem Inv.write {x e:Addr} {o:HO} {t':Nat} (I:Inv X pins σ H s) (mu:Mut (H x)) (he:e=x∨H e=some (.own x)) (k:∀ b u,b≠e→s.heap.get? b=some u→h'.get? b=some u) (heo:∃ u,h'.get? e=some u)
    (new:ObjOk X.prog X.w (upd H x o) h' x o):Inv X pins σ (upd H x o) { s with heap:=h',toks:=t' }:=I.un (Un.write mu he k heo) (I.hok.write mu he k heo new)
theorem Inv.pins_of {pins':List (Addr × Obj)} (I:Inv X pins σ H s) (h:∀ p∈pins',s.heap.get? p.1=some p.2∧H p.1=none∧p.1≠X.env.locals∧p.1 ∉ X.fs∧∀ v,p.2.data ≠ .cell v):Inv X pins' σ H s :=
  ⟨I.ok,I.os,I.bare,I.base,I.loc,I.cell,I.free,I.freeC,fun p hp=>(List.mem_append.mp hp).elim (fun z=>I.pin p (List.mem_append_left _ z)) (h p),I.hok,I.len⟩

theorem nodup_ix {N:List Str} (hN:N.Nodup) {i j:Nat} {x:Str} (a:N[i]? = some x) (b:N[j]? = some x):i=j:=by
  obtain ⟨h1,e1⟩:=List.getElem?_eq_some_iff.mp a
  obtain ⟨h2,e2⟩:=List.getElem?_eq_some_iff.mp b
  exact (List.getElem_inj hN).mp (e1.trans e2.symm)

theorem store_ok2 {M:Model} {A:Around} {E:Value→Shared→Prop} {i:Nat} {x:Str} {v:V} {u:Value} {Q:Unit→Shared→Prop} (I:Inv X pins σ H s) (hN:X.N.Nodup) (hi:X.N[i]? = some x) (hx:Loc X.env.scope x) (r:RelV v u)
    (h:∀ s',Inv X pins (σ.set i (some v)) H s'→(∃ a,Heap.SameBut a s.heap s'.heap∧(a=X.env.locals∨X.env.cells.lookup x=some a))→Q () s') (hf:X.fn x=true∨X.env.scope.names.lookup x=some .local:=by first | exact .inl rfl | exact .inr rfl | assumption):wpAny M A (storeName X.env x u) Q E s:=by
  obtain ⟨m,hn,hl⟩:=id I.loc
  have hcls:(X.env.scope.kind == .class || (X.env.scope.kind == .module && X.env.locals != X.env.globals))=false:=by rw [I.ok.kind];rfl
  have hiσ : i < σ.length:=by rw [I.len];exact (List.getElem?_eq_some_iff.mp hi).1
  have cne:=I.cne
  have tracked:∀ {a:Addr} {h':Heap},(∃ o,s.heap.get? a=some o∧H a=none)→Heap.SameBut a s.heap h'→HOk X.prog X.w H h':=fun {a h'} ha hs b ob e=>by
    obtain ⟨_,_,hfree⟩:=ha
    refine (I.hok b ob e).stay (fun c w' hc q=>(hs.2 c ?_).trans q) (fun _ q=>q) fun _ _ q=>q
    rintro rfl
    rcases hc with rfl | hc
    · rw [hfree] at e;cases e
    · rw [hfree] at hc;cases hc
  rcases hx with hk | hk
  · refine wpAny_storeName_local hk hn (fun h' hn' hs => ?_) hcls
    obtain ⟨oL,_,_,hoL,_⟩:=id hn
    refine h _ ⟨I.ok,I.os,I.bare,⟨fun b o e n hb hx => ?_,fun b o e n hb hx => ?_,I.base.free,fun b o e hx => ?_,I.base.tups,I.base.frzs,I.base.tbls⟩,⟨_,hn',fun j y v' e1 e2 e3 => ?_⟩,fun y c e => ?_,I.free,I.freeC,fun p hp => ?_,tracked ⟨oL,hoL,I.free⟩ hs,by simpa using I.len⟩ ⟨_,hs,.inl rfl⟩
    · exact (hs.2 b (Nat.ne_of_lt (Nat.lt_of_lt_of_le (Heap.lt_size e) I.ok.above))).trans (I.base.keep b o e n hb hx)
    · obtain ⟨sl,e1⟩:=I.base.slot b o e n hb hx
      exact ⟨sl,(hs.2 b (Nat.ne_of_lt (Nat.lt_of_lt_of_le (Heap.lt_size e) I.ok.above))).trans e1⟩
    · obtain ⟨o',e1⟩:=I.base.there b o e hx
      exact ⟨o',(hs.2 b (Nat.ne_of_lt (Nat.lt_of_lt_of_le (Heap.lt_size e) I.ok.above))).trans e1⟩
    · by_cases hj:j=i
      · subst hj
        rw [hi] at e1;cases e1
        rw [List.getElem?_set_self hiσ] at e2
        cases e2
        exact ⟨u,r,.inl ⟨hk,by simp⟩⟩
      · rw [List.getElem?_set_ne (Ne.symm hj)] at e2
        obtain ⟨u',r',q⟩:=hl j y v' e1 e2 e3
        refine ⟨u',r',?_⟩
        rcases q with ⟨k,e⟩ | ⟨k,c,e,z⟩
        · refine .inl ⟨k,?_⟩
          have:y≠x:=fun e=>hj (nodup_ix hN e1 (e ▸ hi))
          simp [this,e]
        · exact .inr ⟨k,c,e,z.sameBut hs (cne y c e)⟩
    · obtain ⟨w',z⟩:=I.cell y c e
      exact ⟨w',z.sameBut hs (cne y c e)⟩
    · obtain ⟨e,n,ne,nf,d⟩:=I.pin p hp
      exact ⟨(hs.2 p.1 ne).trans e,n,ne,nf,d⟩
  · have hfn:X.fn x=true:=by
      rcases hf with z | z
      · exact z
      · rw [z] at hk;cases hk
    obtain ⟨c,hc⟩:=I.ok.has x (.inl hk)
    obtain ⟨w',z⟩:=I.cell x c hc
    refine wpAny_storeName_cell I.ok.kind hk hc z (fun h' hc' hs => ?_)
    obtain ⟨oc,hoc,hocd⟩:=id z
    refine h { s with heap:=h' } ⟨I.ok,I.os,I.bare,⟨fun b o e n hb hx => ?_,fun b o e n hb hx => ?_,I.base.free,fun b o e hx => ?_,I.base.tups,I.base.frzs,I.base.tbls⟩,⟨m,hn.sameBut hs (Ne.symm (cne x c hc)),fun j y v' e1 e2 e3 => ?_⟩,fun y c' e => ?_,I.free,I.freeC,fun p hp => ?_,tracked ⟨oc,hoc,I.freeC x c hc⟩ hs,by simpa using I.len⟩ ⟨c,hs,.inr hc⟩
    · exact (hs.2 b (Nat.ne_of_lt (Nat.lt_of_lt_of_le (Heap.lt_size e) (I.ok.cab x c hfn hc)))).trans (I.base.keep b o e n hb hx)
    · obtain ⟨sl,e1⟩:=I.base.slot b o e n hb hx
      exact ⟨sl,(hs.2 b (Nat.ne_of_lt (Nat.lt_of_lt_of_le (Heap.lt_size e) (I.ok.cab x c hfn hc)))).trans e1⟩
    · obtain ⟨o',e1⟩:=I.base.there b o e hx
      exact ⟨o',(hs.2 b (Nat.ne_of_lt (Nat.lt_of_lt_of_le (Heap.lt_size e) (I.ok.cab x c hfn hc)))).trans e1⟩
    · by_cases hj:j=i
      · subst hj
        rw [hi] at e1;cases e1
        rw [List.getElem?_set_self hiσ] at e2
        cases e2
        exact ⟨u,r,.inr ⟨.inl hk,c,hc,hc'⟩⟩
      · rw [List.getElem?_set_ne (Ne.symm hj)] at e2
        obtain ⟨u',r',q⟩:=hl j y v' e1 e2 e3
        refine ⟨u',r',?_⟩
        rcases q with q | ⟨k,c',e,z'⟩
        · exact .inl q
        · refine .inr ⟨k,c',e,z'.sameBut hs ?_⟩
          rintro rfl
          exact hj (nodup_ix hN e1 (I.ok.inj _ _ _ e hc ▸ hi))
    · by_cases hcc:c'=c
      · subst hcc;exact ⟨_,hc'⟩
      · obtain ⟨w2,z2⟩:=I.cell y c' e
        exact ⟨w2,z2.sameBut hs hcc⟩
    · obtain ⟨e,n,ne,nf,d⟩:=I.pin p hp
      refine ⟨(hs.2 p.1 ?_).trans e,n,ne,nf,d⟩
      intro q
      rw [q,hoc] at e
      have q':oc=p.2:=Option.some.inj e
      exact d w' (by rw [← q'];exact hocd)
theorem store_ok {M:Model} {A:Around} {E:Value→Shared→Prop} {i:Nat} {x:Str} {v:V} {u:Value} {Q:Unit→Shared→Prop} (I:Inv X pins σ H s) (hN:X.N.Nodup) (hi:X.N[i]? = some x) (hx:Loc X.env.scope x) (r:RelV v u)
    (h:∀ s',Inv X pins (σ.set i (some v)) H s'→Q () s') (hf:X.fn x=true∨X.env.scope.names.lookup x=some .local:=by first | exact .inl rfl | exact .inr rfl | assumption):wpAny M A (storeName X.env x u) Q E s :=
  store_ok2 I hN hi hx r (fun s' I' _=>h s' I') hf
theorem Inv.call' {s':Shared} {ch:List Addr} (I:Inv X pins σ H s) (ho:s'.os=s.os) (u:Un (frs X.stack) ch H H' s.heap s'.heap) (hok:HOk X.prog X.w H' s'.heap) (hg:AllBare s'.gens)
    (hch:∀ b∈ch,(b∈X.ex∨X.s₀.heap.objs.size≤b)∧b≠X.env.locals∧(∀ x c,X.env.cells.lookup x=some c→c≠b)∧∀ p∈X.pn ++ pins,p.1≠b):Inv X pins σ H' s':=by
  obtain ⟨h',g',d',t',o'⟩:=s'
  have e:o'=s.os:=ho
  subst e
  exact I.call (g':=g') (t':=t') (d':=d') u hok hg hch
end

noncomputable abbrev XK:=Value→Option Addr→Hp→Prop
noncomputable abbrev St:=List (Option V)
noncomputable abbrev VK:=V→Hp→Prop
noncomputable abbrev TE:=St→Hp→VK→Prop
noncomputable abbrev TT:=St→Hp→(Bool→Hp→Prop)→Prop
noncomputable abbrev TA:=St→Hp→(List V→Hp→Prop)→Prop
structure Ends where
  nx:St→Hp→Prop
  rt:VK
  bk:St→Hp→Prop:=fun _ _=>False
  ct:St→Hp→Prop:=fun _ _=>False
noncomputable abbrev TS:=Ends→St→Hp→Prop

noncomputable def EP (X:Cx) (pins:List (Addr × Obj)) (σ : St) (Q:VK) (u:Value) (s':Shared):Prop := ∃ v H',Inv X pins σ H' s'∧RelV v u∧Q v H'
noncomputable def TP (X:Cx) (pins:List (Addr × Obj)) (σ : St) (Q:Bool→Hp→Prop) (b:Bool) (s':Shared):Prop := ∃ H',Inv X pins σ H' s'∧Q b H'
noncomputable def AP (X:Cx) (pins:List (Addr × Obj)) (σ : St) (Q:List V→Hp→Prop) (us:List Value) (s':Shared):Prop := ∃ vs H',Inv X pins σ H' s'∧Vals vs us∧Q vs H'
noncomputable def SP (X:Cx) (pins:List (Addr × Obj)) (D:Ends) (f:Flow) (s':Shared):Prop :=
  match f with
  | .next=>∃ σ' H',Inv X pins σ' H' s'∧D.nx σ' H'
  | .brk=>∃ σ' H',Inv X pins σ' H' s'∧D.bk σ' H'
  | .cont=>∃ σ' H',Inv X pins σ' H' s'∧D.ct σ' H'
  | .ret u=>∃ v σ' H',Inv X pins σ' H' s'∧RelV v u∧D.rt v H'

noncomputable def PE (X:Cx) (e:Expr) (t:TE):Prop :=
  ∀ (pins:List (Addr × Obj)) (s:Shared) (σ : St) (H:Hp) (Q:VK),Inv X pins σ H s→t σ H Q→wpAny (model X.prog X.w) X.A (eval e X.env) (EP X pins σ Q) X.xe s
noncomputable def PT (X:Cx) (e:Expr) (t:TT):Prop :=
  ∀ (pins:List (Addr × Obj)) (s:Shared) (σ : St) (H:Hp) (Q:Bool→Hp→Prop),Inv X pins σ H s→t σ H Q→wpAny (model X.prog X.w) X.A (isTrue e X.env (eval e X.env)) (TP X pins σ Q) X.xe s
noncomputable def PW (X:Cx) (e:Expr) (t:TT):Prop :=
  ∀ (whole:Sem Value) (pins:List (Addr × Obj)) (s:Shared) (σ : St) (H:Hp) (Q:Bool→Hp→Prop),Inv X pins σ H s→t σ H Q→wpAny (model X.prog X.w) X.A (isTrue e X.env whole) (TP X pins σ Q) X.xe s
theorem PW.pt {X:Cx} {e:Expr} {t:TT} (h:PW X e t):PT X e t:=h _
noncomputable def PA (X:Cx) (es:List Expr) (t:TA):Prop :=
  ∀ (pos:Pos) (pins:List (Addr × Obj)) (s:Shared) (σ : St) (H:Hp) (Q:List V→Hp→Prop),Inv X pins σ H s→t σ H Q→wpAny (model X.prog X.w) X.A (spliced (backTo pos (starEach es X.env))) (AP X pins σ Q) X.xe s
noncomputable def PS (X:Cx) (st:Stmt) (t:TS):Prop :=
  ∀ (pins:List (Addr × Obj)) (s:Shared) (σ : St) (H:Hp) (D:Ends),Inv X pins σ H s→t D σ H→wpAny (model X.prog X.w) X.A (exec st X.env) (SP X pins D) X.xe s
noncomputable def PSs (X:Cx) (st:List Stmt) (t:TS):Prop :=
  ∀ (pins:List (Addr × Obj)) (s:Shared) (σ : St) (H:Hp) (D:Ends),Inv X pins σ H s→t D σ H→wpAny (model X.prog X.w) X.A (execs st X.env) (SP X pins D) X.xe s
theorem thn {α : Type} {t:Sem α} {Q Q' : α → Shared→Prop} {M:Model} {A:Around} {E:Value→Shared→Prop} {s:Shared} (h:wpAny M A t Q E s) (hQ:∀ a s,Q a s→Q' a s):wpAny M A t Q' E s:=wpAny_mono h hQ fun _ _ x=>x
end L2

namespace L2
open PySem PySem.Spec PyProof.Rows
section
variable {X:Cx}


inductive TVar (i:Nat) (σ : St) (H:Hp) (Q:VK):Prop
  | mk (v:V) (e : σ[i]? = some (some v)) (q:Q v H):TVar i σ H Q
noncomputable def tVar (i:Nat):TE:=fun σ H Q=>TVar i σ H Q
noncomputable def tC (v:V):TE:=fun _ H Q=>Q v H
theorem pe_var {i:Nat} {x:Str} {pos:Pos} (hN:X.N[i]? = some x) (hv:Vis X.env.scope x) (hd:(x == ("__debug__" : Str))=false:=by decide) (hcd:(x == ("__classdict__" : Str))=false:=by decide):PE X (.Name x pos) (tVar i):=by
  intro pins s σ H Q I h
  obtain ⟨v,e,h⟩:=h
  obtain ⟨m,hn,hl⟩:=I.loc
  obtain ⟨u,r,l⟩:=hl i x v hN e hv
  have fin:EP X pins σ Q u s:=⟨v,H,I,r,h⟩
  rcases l with ⟨hk,hm⟩ | ⟨hk,c,hc,hcell⟩
  · exact wpAny_Name (wpAny_loadName_local I.ok.kind hk hn hm fin) hd
  · rcases hk with hk | hk
    · exact wpAny_Name (wpAny_loadName_cell I.ok.kind hk hc hcell fin) hd
    · exact wpAny_Name (wpAny_loadName_free I.ok.kind hk hc hcell fin hcd) hd
theorem pe_int {i j pos}:PE X (.Constant (.int i) j pos) (tC (.int i)):=fun _ _ _ H _ I h=>wpAny_Constant_int ⟨.int i,H,I.tok _,⟨_,rfl⟩,h⟩
theorem pe_bl {b j pos}:PE X (.Constant (.bool b) j pos) (tC (.bl b)):=fun _ _ _ H _ I h=>Constant_bool ⟨.bl b,H,I,rfl,h⟩
theorem pe_non {j pos}:PE X (.Constant .none j pos) (tC .non):=fun _ _ _ H _ I h=>Constant_none ⟨.non,H,I,rfl,h⟩
theorem pe_str {x j pos}:PE X (.Constant (.str x) j pos) (tC (.str x)):=fun _ _ _ H _ I h=>Calls.Constant_str ⟨.str x,H,I.tok _,⟨_,rfl⟩,h⟩

noncomputable def Gl (X:Cx) (x:Str):Prop:=X.env.kindOf x=some .globalImplicit
theorem ld_glob {E:Value→Shared→Prop} {pins:List (Addr × Obj)} {s:Shared} {σ : St} {H:Hp} {x:Str} {u:Value} {pos:Pos} {Q:Value→Shared→Prop} (I:Inv X pins σ H s) (hg:Gl X x) (hm:X.mg x=some u) (h:Q u s)
    (hd:(x == ("__debug__" : Str))=false:=by decide):wpAny (model X.prog X.w) X.A (eval (.Name x pos) X.env) Q E s :=
  Calls.Name_function_global I.ok.kind hg (Calls.loadGlobal_global (by rw [I.ok.glob];exact I.mod.glob.keeps I.bk) hm h) hd
theorem ld_blt {E:Value→Shared→Prop} {pins:List (Addr × Obj)} {s:Shared} {σ : St} {H:Hp} {x:Str} {u:Value} {pos:Pos} {Q:Value→Shared→Prop} (I:Inv X pins σ H s) (hg:Gl X x) (hm:X.mg x=none) (hv:bootBuiltins x=some u) (h:Q u s)
    (hn:x ≠ "__name__" := by decide) (hd:(x == ("__debug__" : Str))=false:=by decide):wpAny (model X.prog X.w) X.A (eval (.Name x pos) X.env) Q E s:=by
  obtain ⟨mb,h1,h2⟩:=I.mod.blt
  exact Calls.Name_function_global I.ok.kind hg (Calls.loadGlobal_builtin (by rw [I.ok.glob];exact I.mod.glob.keeps I.bk) hm (by rw [I.ok.blt];exact h1.keeps I.bk) ((h2 x hn).trans hv) h) hd
theorem pe_bltn {x:Str} {v:V} {u:Value} {pos:Pos} (hg:Gl X x) (hm:X.mg x=none) (hv:bootBuiltins x=some u) (r:RelV v u) (hn:x ≠ "__name__" := by decide) (hd:(x == ("__debug__" : Str))=false:=by decide):PE X (.Name x pos) (tC v) :=
  fun _ _ _ H _ I h=>ld_blt I hg hm hv ⟨v,H,I,r,h⟩ hn hd

variable {a b:Expr} {ta tb:TE} {pos:Pos}

noncomputable def PC (X:Cx) (op:CmpOp) (a b:Expr) (t:TE):Prop :=
  ∀ (pins:List (Addr × Obj)) (s:Shared) (σ : St) (H:Hp) (Q:VK),Inv X pins σ H s→t σ H Q →
    wpAny (model X.prog X.w) X.A (eval a X.env) (fun v s₁ => wpAny (model X.prog X.w) X.A (eval b X.env) (fun u s₂ => wpAny (model X.prog X.w) X.A (compareOp op v u) (EP X pins σ Q) X.xe s₂) X.xe s₁) X.xe s
inductive J_tB (Q:Bool→Hp→Prop) (x:V) (H1:Hp):Prop
  | mk:∀ c,(x = .bl c)→(Q c H1)→J_tB Q x H1
noncomputable def tB (t:TE):TT:=fun σ H Q=>t σ H fun x H1=>J_tB Q x H1
theorem pt_cmp {op:CmpOp} {t:TE} (h:PC X op a b t) (h1:behindInMarks op b=false:=by first | exact nobehind _ (by decide) (by decide) | rfl):PT X (.Compare a [op] [b] pos) (tB t):=by
  intro pins s σ H Q I hw
  refine wpAny_isTrue_Compare1 (thn (h pins s σ H _ I hw) fun v s1 h1=>thn h1 fun u s2 h2=>thn h2 fun c s3 ⟨x,H1,I1,r1,q1⟩ => ?_) h1
  obtain ⟨d,rfl,q⟩:=q1
  cases r1
  exact wpAny_truthy_bool ⟨H1,I1,q⟩
theorem pt_val {e:Expr} {t:TE} (h:PE X e t) (he:∀ whole,isTrue e X.env whole=(do let v ← whole;standAt e.pos;holding [v] (truthy v)):=by intro _;rfl):PT X e (tB t):=by
  intro pins s σ H Q I hw
  refine isTrue_plain (thn (h pins s σ H _ I hw) fun v s1 ⟨x,H1,I1,r1,q1⟩ => ?_) (he _)
  obtain ⟨d,rfl,q⟩:=q1
  cases r1
  exact wpAny_truthy_bool ⟨H1,I1,q⟩

variable {tA tB':TT} {rest:List Expr}
noncomputable def tOr (t u:TT):TT:=fun σ H Q=>t σ H fun c H1=>if c=true then Q true H1 else u σ H1 Q
noncomputable def tNot (t:TT):TT:=fun σ H Q=>t σ H fun c H1=>Q (!c) H1
theorem pw_or1 (ha:PT X a tA):PW X (.BoolOp .Or [a] pos) tA:=by
  intro wh pins s σ H Q I h
  refine isTrue_or (thn (ha pins s σ H Q I h) fun c s1 e => ?_)
  cases c with
  | false=>exact isTrue_or_nil e
  | true=>exact e
theorem pw_or (ha:PT X a tA) (hb:PW X (.BoolOp .Or (b :: rest) pos) tB'):PW X (.BoolOp .Or (a :: b :: rest) pos) (tOr tA tB'):=by
  intro wh pins s σ H Q I h
  refine isTrue_or (thn (ha pins s σ H _ I h) fun c s1 ⟨H1,I1,q1⟩ => ?_)
  cases c with
  | true=>exact ⟨H1,I1,q1⟩
  | false=>exact hb wh pins s1 σ H1 Q I1 q1
theorem pt_not (ha:PT X a tA):PT X (.UnaryOp .Not a pos) (tNot tA):=by
  intro pins s σ H Q I h
  exact isTrue_not (ha pins s σ H (fun c H1=>Q (!c) H1) I h)
noncomputable def tAndV (ta tb:TE):TE:=fun σ H Q=>ta σ H fun x H1=>∃ c,x = .bl c∧if c=true then tb σ H1 Q else Q (.bl false) H1
inductive J_tNotV (Q:VK) (x:V) (H1:Hp):Prop
  | mk:∀ c,(x = .bl c)→(Q (.bl (!c)) H1)→J_tNotV Q x H1
noncomputable def tNotV (ta:TE):TE:=fun σ H Q=>ta σ H fun x H1=>J_tNotV Q x H1
theorem pe_one {op} {t:TE} (h:PE X a t):PE X (.BoolOp op [a] pos) t:=fun pins s σ H Q I hw=>BoolOp_one (h pins s σ H Q I hw)
theorem pe_and (ha:PE X a ta) (hb:PE X (.BoolOp .And (b :: rest) pos) tb):PE X (.BoolOp .And (a :: b :: rest) pos) (tAndV ta tb):=by
  intro pins s σ H Q I h
  refine BoolOp_and (thn (ha pins s σ H _ I h) fun v s1 ⟨x,H1,I1,r1,q1⟩ => ?_)
  obtain ⟨c,rfl,q1⟩:=q1
  cases r1
  refine wpAny_truthy_bool ?_
  cases c with
  | true=>exact hb pins s1 σ H1 Q I1 q1
  | false=>exact ⟨.bl false,H1,I1,rfl,q1⟩
theorem pe_not (ha:PE X a ta):PE X (.UnaryOp .Not a pos) (tNotV ta):=by
  intro pins s σ H Q I h
  refine UnaryOp_ (thn (ha pins s σ H _ I h) fun v s1 ⟨x,H1,I1,r1,q1⟩ => ?_)
  obtain ⟨c,rfl,q1⟩:=q1
  cases r1
  exact not_of (wpAny_truthy_bool ⟨.bl (!c),H1,I1,rfl,q1⟩)
noncomputable def tIf (t:TT) (ta tb:TE):TE:=fun σ H Q=>t σ H fun c H1=>if c=true then ta σ H1 Q else tb σ H1 Q
theorem pe_ifExp {c:Expr} (hc:PT X c tA) (ha:PE X a ta) (hb:PE X b tb):PE X (.IfExp c a b pos) (tIf tA ta tb):=by
  intro pins s σ H Q I h
  refine wpAny_IfExp (thn (hc pins s σ H _ I h) fun d s1 ⟨H1,I1,q1⟩ => ?_)
  cases d with
  | true=>exact ha pins s1 σ H1 Q I1 q1
  | false=>exact hb pins s1 σ H1 Q I1 q1
end
end L2

namespace L2
open PySem PySem.Spec PyProof.Rows

noncomputable def SqL (K:PySem.W.Frag) (H:Hp) (a:Addr) (xs:List V):Prop :=
  Rd H a (.lst xs) ∨
    ∃ (o:Obj) (its:Array Value) (n:Nat),K.lookup a=some o∧o.cls = .type "list" ∧ o.dict=none∧o.data = .seq its n∧its.size≤sizeLine∧Vals xs its.toList
noncomputable def SqT (K:PySem.W.Frag) (H:Hp) (a:Addr) (xs:List V):Prop :=
  Rd H a (.tup xs) ∨
    ∃ (o:Obj) (its:Array Value) (n:Nat),K.lookup a=some o∧o.cls = .type "tuple" ∧ o.data = .seq its n∧its.size≤sizeLine∧Vals xs its.toList
noncomputable def absV:Value→Option V
  | .none=>some .non
  | .bool b=>some (.bl b)
  | .int i _=>some (.int i)
  | .str x _=>some (.str x)
  | .bytes b _=>some (.byt b)
  | .float b _=>some (.flt b)
  | .ref a=>some (.ref a)
  | .type n=>some (.ty n)
  | _=>none
theorem RelV.abs {x:V} {u:Value} (r:RelV x u):absV u=some x:=by
  cases x with
  | non=>cases r;rfl
  | bl _=>cases r;rfl
  | int _=>obtain ⟨t,rfl⟩:=r;rfl
  | str _=>obtain ⟨t,rfl⟩:=r;rfl
  | byt _=>obtain ⟨t,rfl⟩:=r;rfl
  | flt _=>obtain ⟨t,rfl⟩:=r;rfl
  | ref _=>cases r;rfl
  | ty _=>cases r;rfl
theorem RelV.inj {x y:V} {u:Value} (r:RelV x u) (q:RelV y u):x=y:=Option.some.inj (r.abs.symm.trans q.abs)
theorem Vals.inj:∀ {xs ys:List V} {us:List Value},Vals xs us→Vals ys us→xs=ys
  | _,_,_,.nil,.nil=>rfl
  | _,_,_,.cons r t,.cons r' t'=>by rw [r.inj r',Vals.inj t t']
section
variable {X:Cx} {pins:List (Addr × Obj)} {σ : St} {H:Hp} {s:Shared} {a:Addr} {xs ys:List V}
theorem SqL.of {K:PySem.W.Frag} (h:H a=some (.lst xs)):SqL K H a xs := .inl (.inl h)
theorem SqT.of {K:PySem.W.Frag} (h:H a=some (.tup xs)):SqT K H a xs := .inl (.inl h)
theorem Inv.list (I:Inv X pins σ H s) (h:SqL X.K H a xs):∃ its:List Value,Vals xs its∧PlainL s.heap a its.toArray∧xs.length≤sizeLine:=by
  rcases h with h | ⟨o,its,n,hk,hc,hd,hs,hz,r⟩
  · obtain ⟨z,its,n,r,e⟩:=h.ok I.hok
    exact ⟨its,r,⟨_,n,e,rfl,rfl,rfl⟩,z⟩
  · refine ⟨its.toList,r,⟨o,n,I.kIn a o hk,hc,hd,by simpa using hs⟩,?_⟩
    have e:=r.length
    simp only [Array.length_toList] at e
    omega
theorem Inv.tuple (I:Inv X pins σ H s) (h:SqT X.K H a xs):∃ its:List Value,Vals xs its∧IsTup s.heap a its.toArray∧xs.length≤sizeLine:=by
  rcases h with h | ⟨o,its,n,hk,hc,hs,hz,r⟩
  · obtain ⟨z,its,r,p⟩:=h.ok I.hok
    exact ⟨its,r,p.tup,z⟩
  · refine ⟨its.toList,r,⟨o,I.kIn a o hk,hc,n,by simpa using hs⟩,?_⟩
    have e:=r.length
    simp only [Array.length_toList] at e
    omega
theorem Inv.list_inj (I:Inv X pins σ H s) (h:SqL X.K H a xs) (h':SqL X.K H a ys):xs=ys:=by
  obtain ⟨its,r,⟨o,n,e,_,_,d⟩,_⟩:=I.list h
  obtain ⟨its',r',⟨o',n',e',_,_,d'⟩,_⟩:=I.list h'
  rw [e] at e';cases e'
  rw [d] at d'
  injection d' with d1 _
  have:its=its':=by simpa using congrArg Array.toList d1
  subst this
  exact r.inj r'
theorem Inv.tuple_inj (I:Inv X pins σ H s) (h:SqT X.K H a xs) (h':SqT X.K H a ys):xs=ys:=by
  obtain ⟨its,r,⟨o,e,_,n,d⟩,_⟩:=I.tuple h
  obtain ⟨its',r',⟨o',e',_,n',d'⟩,_⟩:=I.tuple h'
  rw [e] at e';cases e'
  rw [d] at d'
  injection d' with d1 _
  have:its=its':=by simpa using congrArg Array.toList d1
  subst this
  exact r.inj r'
end

noncomputable abbrev Cx.wish (X:Cx) (E:Value→Shared→Prop):Cx := { X with xe:=E }
noncomputable abbrev Cx.nox (X:Cx):Cx:=X.wish fun _ _=>False
theorem Cx.Ok.wish {X:Cx} (ok:X.Ok) (E:Value→Shared→Prop):(X.wish E).Ok :=
  ⟨ok.mod,ok.kind,ok.glob,ok.blt,ok.above,ok.inj,ok.has,ok.cab,ok.hd,ok.frames,ok.stk,ok.exf,ok.bs,ok.bsz,ok.noex,ok.exfs,ok.funs,ok.frf⟩
theorem Cx.Ok.unwish {X:Cx} {E:Value→Shared→Prop} (ok:(X.wish E).Ok):X.Ok :=
  ⟨ok.mod,ok.kind,ok.glob,ok.blt,ok.above,ok.inj,ok.has,ok.cab,ok.hd,ok.frames,ok.stk,ok.exf,ok.bs,ok.bsz,ok.noex,ok.exfs,ok.funs,ok.frf⟩
section
variable {X:Cx} {pins:List (Addr × Obj)} {σ : St} {H:Hp} {s:Shared} {E:Value→Shared→Prop}
theorem Inv.wish (I:Inv X pins σ H s) (E:Value→Shared→Prop):Inv (X.wish E) pins σ H s:=⟨I.ok.wish E,I.os,I.bare,I.base,I.loc,I.cell,I.free,I.freeC,I.pin,I.hok,I.len⟩
theorem Inv.unwish (I:Inv (X.wish E) pins σ H s):Inv X pins σ H s:=⟨I.ok.unwish,I.os,I.bare,I.base,I.loc,I.cell,I.free,I.freeC,I.pin,I.hok,I.len⟩
theorem SP.unwish {D:Ends} {f:Flow} {s':Shared} (h:SP (X.wish E) pins D f s'):SP X pins D f s':=by
  cases f with
  | next=>obtain ⟨σ',H',I,q⟩:=h;exact ⟨σ',H',I.unwish,q⟩
  | brk=>obtain ⟨σ',H',I,q⟩:=h;exact ⟨σ',H',I.unwish,q⟩
  | cont=>obtain ⟨σ',H',I,q⟩:=h;exact ⟨σ',H',I.unwish,q⟩
  | ret u=>obtain ⟨v, σ',H',I,r,q⟩:=h;exact ⟨v, σ',H',I.unwish,r,q⟩
theorem PSs.nox {st:List Stmt} {t:TS} (h:PSs X.nox st t):PSs X st t:=fun pins s σ H D I hw =>
  wpAny_mono (h pins s σ H D (I.wish _) hw) (fun _ _ q=>q.unwish) fun _ _ z=>False.elim z
end

section
variable {X:Cx} {st:Stmt} {rest:List Stmt} {t u:TS} {e:Expr} {te:TE} {pos:Pos}
noncomputable def tNext:TS:=fun D σ H=>D.nx σ H
noncomputable def tSeq (t u:TS):TS:=fun D σ H=>t { D with nx:=u D } σ H
theorem pss_nil:PSs X [] tNext:=fun _ _ σ H _ I h=>wpAny_execs_nil ⟨σ,H,I,h⟩
theorem pss_cons (h1:PS X st t) (h2:PSs X rest u):PSs X (st :: rest) (tSeq t u):=by
  intro pins s σ H D I h
  refine wpAny_execs_cons (thn (h1 pins s σ H { D with nx:=u D } I h) fun f s1 q => ?_)
  cases f with
  | next =>
    obtain ⟨σ',H',I',q⟩:=q
    exact h2 pins s1 σ' H' D I' q
  | ret v=>exact q
  | brk=>exact q
  | cont=>exact q
theorem pss_one (h1:PS X st t):PSs X [st] t:=by
  intro pins s σ H D I h
  refine wpAny_execs_cons (thn (h1 pins s σ H D I h) fun f s1 q => ?_)
  cases f with
  | next=>exact wpAny_execs_nil q
  | ret v=>exact q
  | brk=>exact q
  | cont=>exact q
noncomputable def tBreak:TS:=fun D σ H=>D.bk σ H
theorem ps_pass:PS X (.Pass pos) tNext:=fun _ _ σ H _ I h=>wpAny_Pass ⟨σ,H,I,h⟩
theorem ps_break:PS X (.Break pos) tBreak:=fun _ _ σ H _ I h=>wpAny_Break ⟨σ,H,I,h⟩
theorem Inv.quiet {pins:List (Addr × Obj)} {σ : St} {H:Hp} {s:Shared} (I:Inv X pins σ H s):interactive X.env=false:=by simp [interactive,I.ok.kind]
noncomputable def tDrop (te:TE):TS:=fun D σ H=>te σ H fun _ H1=>D.nx σ H1
theorem ps_expr (he:PE X e te) (hs:swapsWith e none pos.line X.env=pure false:=by rfl):PS X (.Expr e pos) (tDrop te):=by
  intro pins s σ H D I h
  exact wpAny_Expr_any (thn (he pins s σ H _ I h) fun v s1 ⟨x,H1,I1,r1,q1⟩=>⟨σ,H1,I1,q1⟩) I.quiet hs
noncomputable def tRet (te:TE):TS:=fun D σ H=>te σ H D.rt
theorem ps_ret (he:PE X e te):PS X (.Return (some e) pos) (tRet te):=by
  intro pins s σ H D I h
  exact wpAny_Return_some (thn (he pins s σ H _ I h) fun v s1 ⟨x,H1,I1,r1,q1⟩=>⟨x, σ,H1,I1,r1,q1⟩)
noncomputable def tIfS (c:TT) (t u:TS):TS:=fun D σ H=>c σ H fun b H1=>if b=true then t D σ H1 else u D σ H1
theorem ps_if {c:Expr} {a b:List Stmt} {tc:TT} (hc:PT X c tc) (ha:PSs X a t) (hb:PSs X b u):PS X (.If c a b pos) (tIfS tc t u):=by
  intro pins s σ H D I h
  refine wpAny_If (thn (hc pins s σ H _ I h) fun d s1 ⟨H1,I1,q1⟩ => ?_)
  cases d with
  | true=>exact ha pins s1 σ H1 D I1 q1
  | false=>exact hb pins s1 σ H1 D I1 q1
end

noncomputable abbrev TG:=V→St→Hp→(St→Hp→Prop)→Prop
noncomputable abbrev TGs:=List V→St→Hp→(St→Hp→Prop)→Prop
noncomputable def PG (X:Cx) (target:Expr) (t:TG):Prop :=
  ∀ (pins:List (Addr × Obj)) (s:Shared) (σ : St) (H:Hp) (v:V) (u:Value) (Q:St→Hp→Prop),Inv X pins σ H s→RelV v u→t v σ H Q →
    wpAny (model X.prog X.w) X.A (assign target X.env u) (fun _ s'=>∃ σ' H',Inv X pins σ' H' s'∧Q σ' H') X.xe s
noncomputable def PGs (X:Cx) (ts:List Expr) (t:TGs):Prop :=
  ∀ (pins:List (Addr × Obj)) (s:Shared) (σ : St) (H:Hp) (vs:List V) (us:List Value) (Q:St→Hp→Prop),Inv X pins σ H s→Vals vs us→t vs σ H Q →
    wpAny (model X.prog X.w) X.A (assignInOrder ((assignEach ts X.env).map (·.2)) us) (fun _ s'=>∃ σ' H',Inv X pins σ' H' s'∧Q σ' H') X.xe s
noncomputable abbrev TSet:=V→V→V→Hp→(Hp→Prop)→Prop
noncomputable def PSet (X:Cx) (t:TSet):Prop :=
  ∀ (pins:List (Addr × Obj)) (s:Shared) (σ : St) (H:Hp) (o i v:V) (ov iv u:Value) (Q:Hp→Prop),Inv X pins σ H s→RelV o ov→RelV i iv→RelV v u→t o i v H Q →
    wpAny (model X.prog X.w) X.A (setItem ov iv u) (fun _ s'=>∃ H',Inv X pins σ H' s'∧Q H') X.xe s
noncomputable abbrev TIp:=V→V→Hp→VK→Prop
noncomputable def PIp (X:Cx) (op:Operator) (t:TIp):Prop :=
  ∀ (pins:List (Addr × Obj)) (s:Shared) (σ : St) (H:Hp) (x y:V) (v u:Value) (Q:VK),Inv X pins σ H s→RelV x v→RelV y u→t x y H Q →
    wpAny (model X.prog X.w) X.A (inplaceOp op v u) (EP X pins σ Q) X.xe s
section
variable {X:Cx} {pos:Pos}
noncomputable def gName (i:Nat):TG:=fun v σ H Q=>Q (σ.set i (some v)) H
theorem pg_name {i:Nat} {x:Str} (hN:X.N.Nodup) (hi:X.N[i]? = some x) (hx:Loc X.env.scope x) (hf:X.fn x=true∨X.env.scope.names.lookup x=some .local:=by first | exact .inl rfl | exact .inr rfl | assumption):PG X (.Name x pos) (gName i):=by
  intro pins s σ H v u Q I r h
  exact wpAny_assign_Name (store_ok I hN hi hx r (fun s' I'=>⟨_,H,I',h⟩) hf)
noncomputable def gNil:TGs:=fun vs σ H Q=>vs = []∧Q σ H
inductive J_gCons (t:TG) (u:TGs) (vs:List V) (σ : St) (H:Hp) (Q:St→Hp→Prop):Prop
  | mk:∀ v r,(vs=v :: r)→(t v σ H fun σ' H'=>u r σ' H' Q)→J_gCons t u vs σ H Q
noncomputable def gCons (t:TG) (u:TGs):TGs:=fun vs σ H Q=>J_gCons t u vs σ H Q
theorem pgs_nil:PGs X [] gNil:=by
  intro pins s σ H vs us Q I r h
  obtain ⟨e,h⟩:=h
  subst e
  cases r
  exact assignInOrder_nil ⟨σ,H,I,h⟩
theorem pgs_cons {e:Expr} {es:List Expr} {t:TG} {u:TGs} (h1:PG X e t) (h2:PGs X es u)
    (hs:(assignEach (e :: es) X.env).map (·.2)=assign e X.env :: (assignEach es X.env).map (·.2):=by rfl):PGs X (e :: es) (gCons t u):=by
  intro pins s σ H vs us Q I r h
  obtain ⟨v,vr,e1,h⟩:=h
  subst e1
  cases r with
  | cons r rr =>
    rw [hs]
    refine assignInOrder_cons (thn (h1 pins s σ H _ _ _ I r h) fun _ s1 ⟨σ1,H1,I1,q1⟩ => ?_)
    exact h2 pins s1 σ1 H1 _ _ Q I1 rr q1
inductive J_gTup (K:PySem.W.Frag) (n:Nat) (t:TGs) (v:V) (σ : St) (H:Hp) (Q:St→Hp→Prop):Prop
  | mk:∀ a xs,(v = .ref a)→(SqT K H a xs)→(xs.length=n)→(t xs σ H Q)→J_gTup K n t v σ H Q
noncomputable def gTup (K:PySem.W.Frag) (n:Nat) (t:TGs):TG:=fun v σ H Q=>J_gTup K n t v σ H Q
theorem pg_tup {es:List Expr} {k:Nat} {t:TGs} {n:Nat} (hc:X.calm=true) (h:PGs X es t)
    (hn:(assignEach es X.env).length=n:=by rfl) (hst:(assignEach es X.env).findIdx? (·.1)=none:=by rfl):PG X (.Tuple es k pos) (gTup X.K n t):=by
  intro pins s σ H v u Q I r hw
  obtain ⟨a,xs,e1,hq,hl,hw⟩:=hw
  subst e1
  cases r
  obtain ⟨its,rv,ht,hz⟩:=I.tuple hq
  refine assign_Tuple_tuple (I.ok.hd hc) ht (by simp [hn, ← hl,rv.length]) hst fun h' hx => ?_
  have I1:Inv X pins σ H { s with heap:=h' }:=I.kept (t':=s.toks) fun b o e=>hx b o (Nat.ne_of_lt (Heap.lt_size e)) e
  exact h pins _ σ H xs _ Q I1 (by simpa using rv) hw
noncomputable def gSub (to ti:TE) (t:TSet):TG:=fun v σ H Q=>to σ H fun o H1=>ti σ H1 fun i H2=>t o i v H2 fun H3=>Q σ H3
theorem pg_sub {o i:Expr} {to ti:TE} {t:TSet} (ho:PE X o to) (hi:PE X i ti) (hs:PSet X t)
    (ha:∀ v,assign (.Subscript o i pos) X.env v=(do
      let ov ← holding [v] (eval o X.env)
      let iv ← holding [v,ov] (eval i X.env)
      standAt pos
      holding [v,ov,iv] (setItem ov iv v)
      release [v,ov,iv] []):=by intro _;rfl):PG X (.Subscript o i pos) (gSub to ti t):=by
  intro pins s σ H v u Q I r h
  rw [ha]
  refine wpAny_bind (wpAny_holding (thn (ho pins s σ H _ I h) fun ov s1 ⟨x,H1,I1,r1,q1⟩ => ?_))
  refine wpAny_bind (wpAny_holding (thn (hi pins s1 σ H1 _ I1 q1) fun iv s2 ⟨y,H2,I2,r2,q2⟩ => ?_))
  refine wpAny_bind (wpAny_standAt (wpAny_bind (wpAny_holding (thn (hs pins s2 σ H2 x y v ov iv u _ I2 r1 r2 r q2) fun _ s3 ⟨H3,I3,q3⟩ => ?_))))
  exact wpAny_release ⟨σ,H3,I3,q3⟩
noncomputable def tAsg (te:TE) (g:TG):TS:=fun D σ H=>te σ H fun x H1=>g x σ H1 D.nx
theorem ps_asg {tg e:Expr} {te:TE} {g:TG} (he:PE X e te) (hg:PG X tg g) (hs:swapsWithSole [tg] e pos.line X.env=pure false:=by rfl) (hw:swappedStores [tg] e X.env=pure none:=by rfl)
    (h1:(assignEach [tg] X.env).map (·.2) = [assign tg X.env]:=by rfl):PS X (.Assign [tg] e pos) (tAsg te g):=by
  intro pins s σ H D I h
  refine wpAny_Assign_stores (thn (he pins s σ H _ I h) fun v s1 ⟨x,H1,I1,r1,q1⟩ => ?_) hs hw
  rw [h1]
  exact thn (hg pins s1 σ H1 x v _ I1 r1 q1) fun _ s2 q=>q
theorem ps_set {i:Nat} {x:Str} {e:Expr} {te:TE} {pos':Pos} (hN:X.N.Nodup) (hi:X.N[i]? = some x) (hx:Loc X.env.scope x) (he:PE X e te) (hs:swapsWith e (some (.Name x pos')) pos.line X.env=pure false:=by rfl) (hf:X.fn x=true∨X.env.scope.names.lookup x=some .local:=by first | exact .inl rfl | exact .inr rfl | assumption) :
    PS X (.Assign [.Name x pos'] e pos) (tAsg te (gName i)):=by
  intro pins s σ H D I h
  refine wpAny_Assign_Name (thn (he pins s σ H _ I h) fun v s1 ⟨y,H1,I1,r1,q1⟩ => ?_) hs
  exact store_ok I1 hN hi hx r1 (fun s2 I2=>⟨_,H1,I2,q1⟩) hf
inductive J_tAug (i:Nat) (te:TE) (ti:TIp) (D:Ends) (σ : St) (H:Hp):Prop
  | mk:∀ x,(σ[i]? = some (some x))→(te σ H fun y H1=>ti x y H1 fun z H2=>D.nx (σ.set i (some z)) H2)→J_tAug i te ti D σ H
noncomputable def tAug (i:Nat) (te:TE) (ti:TIp):TS:=fun D σ H=>J_tAug i te ti D σ H
theorem ps_aug {i:Nat} {x:Str} {e:Expr} {te:TE} {op:Operator} {ti:TIp} {pos':Pos} (hN:X.N.Nodup) (hi:X.N[i]? = some x) (hx:Loc X.env.scope x) (he:PE X e te) (ho:PIp X op ti) (hf:X.fn x=true∨X.env.scope.names.lookup x=some .local:=by first | exact .inl rfl | exact .inr rfl | assumption) :
    PS X (.AugAssign (.Name x pos') op e pos) (tAug i te ti):=by
  intro pins s σ H D I h
  obtain ⟨v,e1,h⟩:=h
  obtain ⟨m,hn,hl⟩:=I.loc
  have vis:Vis X.env.scope x:=by rcases hx with k | k;exact .inl k;exact .inr (.inl k)
  obtain ⟨u,r,l⟩:=hl i x v hi e1 vis
  refine wpAny_AugAssign_Name ?_
  have go:wpAny (model X.prog X.w) X.A (eval e X.env) (fun w s₂ => wpAny (model X.prog X.w) X.A (inplaceOp op u w) (fun r s₃ => wpAny (model X.prog X.w) X.A (storeName X.env x r) (fun _=>SP X pins D .next) X.xe s₃) X.xe s₂) X.xe s:=by
    refine thn (he pins s σ H _ I h) fun w s1 ⟨y,H1,I1,r1,q1⟩ => ?_
    refine thn (ho pins s1 σ H1 v y u w _ I1 r r1 q1) fun z s2 ⟨zv,H2,I2,r2,q2⟩ => ?_
    exact store_ok I2 hN hi hx r2 (fun s3 I3=>⟨_,H2,I3,q2⟩) hf
  rcases l with ⟨hk,hm⟩ | ⟨hk,c,hc,hcell⟩
  · exact wpAny_loadName_local I.ok.kind hk hn hm go
  · rcases hk with hk | hk
    · exact wpAny_loadName_cell I.ok.kind hk hc hcell go
    · rcases hx with k | k
      · have:X.env.scope.names.lookup x=some .free:=hk
        rw [k] at this;cases this
      · have:X.env.scope.names.lookup x=some .free:=hk
        rw [k] at this;cases this
noncomputable def tAugS (to ti te:TE) (tget:V→V→Hp→VK→Prop) (tip:TIp) (tset:TSet):TS:=fun D σ H=>to σ H fun o H1=>ti σ H1 fun i H2=>tget o i H2 fun x H3=>te σ H3 fun y H4=>tip x y H4 fun z H5=>tset o i z H5 fun H6=>D.nx σ H6
noncomputable def PGet (X:Cx) (t:V→V→Hp→VK→Prop):Prop :=
  ∀ (pins:List (Addr × Obj)) (s:Shared) (σ : St) (H:Hp) (o i:V) (ov iv:Value) (Q:VK),Inv X pins σ H s→RelV o ov→RelV i iv→t o i H Q →
    wpAny (model X.prog X.w) X.A (getItem ov iv) (EP X pins σ Q) X.xe s
theorem ps_augS {o i e:Expr} {to ti te:TE} {tget:V→V→Hp→VK→Prop} {tip:TIp} {tset:TSet} {op:Operator} {tpos:Pos} (ho:PE X o to) (hi:PE X i ti) (hg:PGet X tget) (he:PE X e te) (hp:PIp X op tip) (hs:PSet X tset)
    (ha:∀ ov iv new,augStore i ov iv new=(do holding [new,ov,iv] (setItem ov iv new);release [new,ov,iv] [];pure .next):=by intros;rfl):PS X (.AugAssign (.Subscript o i tpos) op e pos) (tAugS to ti te tget tip tset):=by
  intro pins s σ H D I h
  refine wpAny_AugAssign_SubscriptAny (thn (ho pins s σ H _ I h) fun ov s1 ⟨x1,H1,I1,r1,q1⟩ => ?_) ha
  refine thn (hi pins s1 σ H1 _ I1 q1) fun iv s2 ⟨x2,H2,I2,r2,q2⟩ => ?_
  refine thn (hg pins s2 σ H2 x1 x2 ov iv _ I2 r1 r2 q2) fun old s3 ⟨x3,H3,I3,r3,q3⟩ => ?_
  refine thn (he pins s3 σ H3 _ I3 q3) fun v s4 ⟨x4,H4,I4,r4,q4⟩ => ?_
  refine thn (hp pins s4 σ H4 x3 x4 old v _ I4 r3 r4 q4) fun new s5 ⟨x5,H5,I5,r5,q5⟩ => ?_
  exact thn (hs pins s5 σ H5 x1 x2 x5 ov iv new _ I5 r1 r2 r5 q5) fun _ s6 ⟨H6,I6,q6⟩=>⟨σ,H6,I6,q6⟩
noncomputable def ipI (f:Int→Int→Int):TIp:=fun x y H Q=>∃ i j,x = .int i∧y = .int j∧Q (.int (f i j)) H
theorem ip_add:PIp X .Add (ipI fun i j=>i+j):=by
  intro pins s σ H x y v u Q I r1 r2 h
  obtain ⟨i,j,e1,e2,q⟩:=h
  subst e1;subst e2
  obtain ⟨t,rfl⟩:=r1
  obtain ⟨t',rfl⟩:=r2
  exact iadd_int ⟨.int _,H,I.tok _,⟨_,rfl⟩,q⟩
theorem ip_sub:PIp X .Sub (ipI fun i j=>i - j):=by
  intro pins s σ H x y v u Q I r1 r2 h
  obtain ⟨i,j,e1,e2,q⟩:=h
  subst e1;subst e2
  obtain ⟨t,rfl⟩:=r1
  obtain ⟨t',rfl⟩:=r2
  exact isub_int ⟨.int _,H,I.tok _,⟨_,rfl⟩,q⟩
end

section
variable {X:Cx} {pos:Pos}
noncomputable def tWhile (c:TT) (tb:TS):TS:=fun D σ H=>∃ W:Nat→St→Hp→Prop,(∃ m,W m σ H)∧∀ m σ H,W m σ H →
  c σ H fun b H1=>if b=true then ∃ N:St→Hp→Prop,(∀ σ' H',N σ' H'→∃ m',m' < m∧W m' σ' H')∧tb { D with nx:=N,ct:=N,bk:=D.nx } σ H1 else D.nx σ H1
theorem ps_while {c:Expr} {body:List Stmt} {tc:TT} {tb:TS} (hp:PassesOwn (model X.prog X.w) X.A X.env X.xe) (hc:PT X c tc) (hb:PSs X body tb):PS X (.While c body [] pos) (tWhile tc tb):=by
  intro pins s σ H D I h
  obtain ⟨W,⟨m0,w0⟩,turn⟩:=h
  refine wpAny_While (codeAny_whileLoop (fun n s'=>∃ σ' H',Inv X pins σ' H' s'∧W n σ' H') ?_ m0 ⟨σ,H,I,w0⟩)
  rintro n s1 ⟨σ1,H1,I1,w1⟩
  refine wpAny_passesOwn hp (thn (hc pins s1 σ1 H1 _ I1 (turn n σ1 H1 w1)) fun b s2 ⟨H2,I2,q2⟩ => ?_)
  cases b with
  | true =>
    obtain ⟨N,hN,q2⟩:=q2
    rw [if_pos rfl]
    refine wpAny_passesOwn hp (thn (hb pins s2 σ1 H2 _ I2 q2) fun f s3 q3 => ?_)
    cases f with
    | next =>
      obtain ⟨σ3,H3,I3,n3⟩:=q3
      obtain ⟨m',hm,w3⟩:=hN σ3 H3 n3
      exact ⟨m',hm, σ3,H3,I3,w3⟩
    | cont =>
      obtain ⟨σ3,H3,I3,n3⟩:=q3
      obtain ⟨m',hm,w3⟩:=hN σ3 H3 n3
      exact ⟨m',hm, σ3,H3,I3,w3⟩
    | brk=>exact q3
    | ret v=>exact q3
  | false =>
    rw [if_neg Bool.false_ne_true]
    exact wpAny_execs_nil ⟨σ1,H2,I2,q2⟩
end

structure It where
  go:Nat→Hp→Prop
  yld:Nat→Hp→V→Hp→Prop
  stop:Nat→Hp→Prop
noncomputable def FpOk (X:Cx) (pins:List (Addr × Obj)) (H:Hp) (b:Addr):Prop :=
  H b=none∧b≠X.env.locals∧b ∉ X.fs∧(b∈X.ex∨X.s₀.heap.objs.size≤b)∧(∀ x c,X.env.cells.lookup x=some c→c≠b)∧∀ p∈X.pn ++ pins,p.1≠b
theorem Inv.fpOk {X:Cx} {pins:List (Addr × Obj)} {σ : St} {H H':Hp} {s:Shared} {b:Addr} (I:Inv X pins σ H s) (hb:s.heap.objs.size≤b) (hn:H' b=none):FpOk X pins H' b:=by
  refine ⟨hn,Nat.ne_of_gt (Nat.lt_of_lt_of_le I.lt hb),I.nofs hb,.inr (Nat.le_trans I.sz hb),fun x c e z => ?_,fun p hp z => ?_⟩
  · obtain ⟨v,q⟩:=I.cell x c e
    exact absurd (Nat.lt_of_lt_of_le q.lt (by rw [z];exact hb)) (Nat.lt_irrefl _)
  · exact absurd (Nat.lt_of_lt_of_le (Heap.lt_size (I.pin p hp).1) (by rw [z];exact hb)) (Nat.lt_irrefl _)
structure Turn (P:Program) (w:World) (K:PySem.W.Frag) (tg:Expr) (J:It) (fp:List Addr) (it:Addr) (tn:Nat→Heap→Prop):Prop where
  mem:it∈fp
  obj:∀ i h,tn i h→∀ b∈fp,∃ o,h.get? b=some o∧∀ v,o.data ≠ .cell v
  keep:∀ i h h',tn i h→(∀ b∈fp,∀ o,h.get? b=some o→h'.get? b=some o)→tn i h'
  item:∀ (X:Cx),X.prog=P→X.w=w→X.K=K→X.calm=true→∀ (i:Nat) (pins:List (Addr × Obj)) (s:Shared) (σ : St) (H:Hp) (E:Value→Shared→Prop),Inv X pins σ H s→(∀ b∈fp,FpOk X pins H b)→tn i s.heap→J.go i H →
    wpAny (model P w) X.A (pyNext (.ref it)) (fun r s1=>∃ u,r=some u ∧
      wpAny (model P w) X.A (letOwnedTupleGo tg (.ref it) u) (fun _ s2=>∃ x H',Inv X pins σ H' s2∧RelV x u∧J.yld i H x H'∧tn (i+1) s2.heap∧∀ b∈fp,H' b=none) E s1) E s
  done:∀ (X:Cx),X.prog=P→X.w=w→X.K=K→X.calm=true→∀ (i:Nat) (pins:List (Addr × Obj)) (s:Shared) (σ : St) (H:Hp) (E:Value→Shared→Prop),Inv X pins σ H s→(∀ b∈fp,FpOk X pins H b)→tn i s.heap→J.stop i H →
    wpAny (model P w) X.A (pyNext (.ref it)) (fun r s1=>r=none∧Inv X pins σ H s1) E s
  self:∀ (A:Around) (i:Nat) (s:Shared) (Q:Value→Shared→Prop) (E:Value→Shared→Prop),tn i s.heap→Q (.ref it) s→wpAny (model P w) A (pyIter (.ref it)) Q E s
noncomputable abbrev TI:=St→Hp→(It→Hp→Prop)→Prop
noncomputable def PIE (X:Cx) (pins:List (Addr × Obj)) (σ : St) (tg:Expr) (R:It→Hp→Prop) (itv:Value) (s2:Shared):Prop :=
  ∃ (it:Addr) (fp:List Addr) (tn:Nat→Heap→Prop) (J:It) (H':Hp),itv = .ref it∧Inv X pins σ H' s2∧Turn X.prog X.w X.K tg J fp it tn∧tn 0 s2.heap∧(∀ b∈fp,FpOk X pins H' b)∧R J H'
noncomputable def PI (X:Cx) (tg iter:Expr) (wi:TI):Prop :=
  ∀ (pins:List (Addr × Obj)) (s:Shared) (σ : St) (H:Hp) (R:It→Hp→Prop),Inv X pins σ H s→wi σ H R →
    wpAny (model X.prog X.w) X.A (eval iter X.env) (fun v s1=>wpAny (model X.prog X.w) X.A (pyIter v) (PIE X pins σ tg R) X.xe s1) X.xe s

theorem go_of {M:Model} {A:Around} {E:Value→Shared→Prop} {s:Shared} {tg:Expr} {it:Addr} {u:Value} {o:Obj} {n:String} {vs:Array Value} {Q:Unit→Shared→Prop} (ho:s.heap.get? it=some o) (hc:o.cls = .type n) (hd:o.data = .fields vs)
    (hn : ["enumerate", "zip", "dict_itemiterator", "dict_reverseitemiterator", "odict_iterator", "itertools.zip_longest", "itertools.pairwise"].contains n=false) (hQ:Q () s):wpAny M A (letOwnedTupleGo tg (.ref it) u) Q E s:=by
  unfold letOwnedTupleGo
  cases tg <;> first
    | exact wpAny_pure hQ
    | (cases u <;> first
        | exact wpAny_pure hQ
        | (refine wpAny_bind (wpAny_load ho ?_)
           rw [hc,hd]
           show wpAny M A (if (["enumerate", "zip", "dict_itemiterator", "dict_reverseitemiterator", "odict_iterator", "itertools.zip_longest", "itertools.pairwise"].contains n && vs[0]? == some (rawInt _))=true then _ else _) Q E s
           rw [if_neg (by intro h;rw [hn,Bool.false_and] at h;cases h)]
           exact wpAny_pure hQ))

noncomputable def Itl (K:PySem.W.Frag) (a:Addr):It :=
  ⟨fun i H=>∃ xs x,SqL K H a xs∧xs[i]? = some x,fun i H x H'=>H'=H∧∀ xs,SqL K H a xs→xs[i]? = some x,fun i H=>∃ xs,SqL K H a xs∧xs.length≤i⟩
noncomputable def Itt (K:PySem.W.Frag) (a:Addr):It :=
  ⟨fun i H=>∃ xs x,SqT K H a xs∧xs[i]? = some x,fun i H x H'=>H'=H∧∀ xs,SqT K H a xs→xs[i]? = some x,fun i H=>∃ xs,SqT K H a xs∧xs.length≤i⟩
noncomputable def Itr (lo:Int) (n:Nat):It:=⟨fun i _=>i < n,fun i H x H'=>H'=H∧x = .int (lo+i),fun i _=>n≤i⟩
theorem turn_list {P:Program} {w:World} {K:PySem.W.Frag} {tg:Expr} (a it:Addr):Turn P w K tg (Itl K a) [it] it (fun i h=>h.IsListIter it a i) where
  mem:=by simp
  obj:=fun i h st b hb=>by
    have e:b=it:=by simpa using hb
    subst e
    obtain ⟨o,e,c,d⟩:=st
    exact ⟨o,e,fun v z=>by rw [d] at z;cases z⟩
  keep:=fun i h h' st k=>st.at fun o e=>k it (by simp) o e
  item:=by
    intro X hP hw hK hc i pins s σ H E I hf st hg
    subst hP hw hK
    obtain ⟨xs,x,hq,hx⟩:=hg
    obtain ⟨its,rv,p,hz⟩:=I.list hq
    obtain ⟨u,hu,ru⟩:=rv.get hx
    obtain ⟨f0,f1,f2,f3,f4,f5⟩:=hf it (by simp)
    refine wpAny_pyNext_list_item st p.isList (x:=u) (by simpa using hu) fun h' st' sb => ?_
    have I1:Inv X pins σ H { s with heap:=h' }:=I.turned (t':=s.toks) (fun b o hb e=>(sb.2 b hb).trans e) f0 f1 f3 f4 f5
    obtain ⟨o,e,c,d⟩:=id st'
    exact ⟨u,rfl,go_of (s := { s with heap:=h' }) e c d (by decide) ⟨x,H,I1,ru,⟨rfl,fun ys hy=>by rw [I.list_inj hy hq];exact hx⟩,st',fun b hb=>(hf b hb).1⟩⟩
  done:=by
    intro X hP hw hK hc i pins s σ H E I hf st hg
    subst hP hw hK
    obtain ⟨xs,hq,hx⟩:=hg
    obtain ⟨its,rv,p,hz⟩:=I.list hq
    obtain ⟨f0,f1,f2,f3,f4,f5⟩:=hf it (by simp)
    have hl:=rv.length
    exact wpAny_pyNext_list_end (I.ok.hd hc) st p.isList (by simp;omega) fun h' eb=>⟨rfl,I.turned (t':=s.toks) (fun b o hb e=>eb b o hb e) f0 f1 f3 f4 f5⟩
  self:=fun _ _ _ _ _ st h=>wpAny_pyIter_listiter st h
theorem turn_tuple {P:Program} {w:World} {K:PySem.W.Frag} {tg:Expr} (a it:Addr):Turn P w K tg (Itt K a) [it] it (fun i h=>h.IsTupleIter it a i) where
  mem:=by simp
  obj:=fun i h st b hb=>by
    have e:b=it:=by simpa using hb
    subst e
    obtain ⟨o,e,c,d⟩:=st
    exact ⟨o,e,fun v z=>by rw [d] at z;cases z⟩
  keep:=fun i h h' st k=>st.at fun o e=>k it (by simp) o e
  item:=by
    intro X hP hw hK hc i pins s σ H E I hf st hg
    subst hP hw hK
    obtain ⟨xs,x,hq,hx⟩:=hg
    obtain ⟨its,rv,p,hz⟩:=I.tuple hq
    obtain ⟨u,hu,ru⟩:=rv.get hx
    obtain ⟨f0,f1,f2,f3,f4,f5⟩:=hf it (by simp)
    refine wpAny_pyNext_tuple_item st (show s.heap.IsTuple a its.toArray from p) (x:=u) (by simpa using hu) fun h' st' sb => ?_
    have I1:Inv X pins σ H { s with heap:=h' }:=I.turned (t':=s.toks) (fun b o hb e=>(sb.2 b hb).trans e) f0 f1 f3 f4 f5
    obtain ⟨o,e,c,d⟩:=id st'
    exact ⟨u,rfl,go_of (s := { s with heap:=h' }) e c d (by decide) ⟨x,H,I1,ru,⟨rfl,fun ys hy=>by rw [I.tuple_inj hy hq];exact hx⟩,st',fun b hb=>(hf b hb).1⟩⟩
  done:=by
    intro X hP hw hK hc i pins s σ H E I hf st hg
    subst hP hw hK
    obtain ⟨xs,hq,hx⟩:=hg
    obtain ⟨its,rv,p,hz⟩:=I.tuple hq
    obtain ⟨f0,f1,f2,f3,f4,f5⟩:=hf it (by simp)
    have hl:=rv.length
    exact wpAny_pyNext_tuple_end (I.ok.hd hc) st (show s.heap.IsTuple a its.toArray from p) (by simp;omega) fun h' eb=>⟨rfl,I.turned (t':=s.toks) (fun b o hb e=>eb b o hb e) f0 f1 f3 f4 f5⟩
  self:=fun _ _ _ _ _ st h=>wpAny_pyIter_tupleiter st h
theorem turn_range {P:Program} {w:World} {K:PySem.W.Frag} {tg:Expr} (it:Addr) (lo:Int) (n:Nat):Turn P w K tg (Itr lo n) [it] it (fun i h=>IsRangeIter h it (lo+(i:Nat) * 1) ((n:Int) - (i:Nat)) 1) where
  mem:=by simp
  obj:=fun i h st b hb=>by
    have e:b=it:=by simpa using hb
    subst e
    exact ⟨_,st,fun v z=>by
      have z':Data.fields _=Data.cell v:=z
      cases z'⟩
  keep:=fun i h h' st k=>k it (by simp) _ st
  item:=by
    intro X hP hw hK hc i pins s σ H E I hf st hg
    subst hP hw hK
    obtain ⟨f0,f1,f2,f3,f4,f5⟩:=hf it (by simp)
    have W:=Walks.range (prog:=X.prog) (w:=X.w) (I.ok.hd hc) it lo 1 n
    refine W.item i s _ _ hg st fun v h' tk hv st' kk => ?_
    obtain ⟨t,rfl⟩:=hv
    have I1:Inv X pins σ H { s with heap:=h',toks:=tk }:=I.turned (fun b o hb e=>kk b o (by simpa using hb) e) f0 f1 f3 f4 f5
    refine ⟨_,rfl,go_of (s := { s with heap:=h',toks:=tk }) (n := "range_iterator") st' rfl rfl (by decide) ⟨.int (lo+i),H,I1,⟨t,?_⟩,⟨rfl,rfl⟩,st',fun b hb=>(hf b hb).1⟩⟩
    rw [Int.mul_one]
  done:=by
    intro X hP hw hK hc i pins s σ H E I hf st hg
    subst hP hw hK
    obtain ⟨f0,f1,f2,f3,f4,f5⟩:=hf it (by simp)
    exact wpAny_pyNext_range_end (I.ok.hd hc) st (by have:n≤i:=hg;omega) fun h' eb=>⟨rfl,I.turned (t':=s.toks) (fun b o hb e=>eb b o hb e) f0 f1 f3 f4 f5⟩
  self:=fun _ _ _ _ _ st h=>wpAny_pyIter_rangeiter st h
end L2

namespace L2
open PySem PySem.Spec PyProof.Rows
section
variable {X:Cx} {tg:Expr}
inductive J_iList (K:PySem.W.Frag) (R:It→Hp→Prop) (x:V) (H1:Hp):Prop
  | mk:∀ a,(x = .ref a)→((∃ xs,SqL K H1 a xs))→(R (Itl K a) H1)→J_iList K R x H1
noncomputable def iList (K:PySem.W.Frag) (tl:TE):TI:=fun σ H R=>tl σ H fun x H1=>J_iList K R x H1
inductive J_iTup (K:PySem.W.Frag) (R:It→Hp→Prop) (x:V) (H1:Hp):Prop
  | mk:∀ a,(x = .ref a)→((∃ xs,SqT K H1 a xs))→(R (Itt K a) H1)→J_iTup K R x H1
noncomputable def iTup (K:PySem.W.Frag) (tl:TE):TI:=fun σ H R=>tl σ H fun x H1=>J_iTup K R x H1
theorem pi_list {l:Expr} {tl:TE} (hl:PE X l tl):PI X tg l (iList X.K tl):=by
  intro pins s σ H R I h
  refine thn (hl pins s σ H _ I h) fun v s1 ⟨x,H1,I1,r1,q1⟩ => ?_
  obtain ⟨a,e,⟨xs,hq⟩,q⟩:=q1
  subst e
  cases r1
  obtain ⟨its,rv,p,hz⟩:=I1.list hq
  refine wpAny_pyIter_list p.isList ?_
  refine ⟨s1.heap.objs.size, [s1.heap.objs.size],_,_,H1,rfl,I1.kept (t':=s1.toks) fun b o e=>Heap.get?_push_of_some _ e,turn_list a _,⟨_,Heap.get?_push_size _ rfl,rfl,rfl⟩,fun b hb => ?_,q⟩
  have e:b=s1.heap.objs.size:=by simpa using hb
  subst e
  exact I1.fpOk (Nat.le_refl _) (I1.hok.fresh (Nat.le_refl _))
theorem pi_tup {l:Expr} {tl:TE} (hl:PE X l tl):PI X tg l (iTup X.K tl):=by
  intro pins s σ H R I h
  refine thn (hl pins s σ H _ I h) fun v s1 ⟨x,H1,I1,r1,q1⟩ => ?_
  obtain ⟨a,e,⟨xs,hq⟩,q⟩:=q1
  subst e
  cases r1
  obtain ⟨its,rv,p,hz⟩:=I1.tuple hq
  refine wpAny_pyIter_tuple (show s1.heap.IsTuple a its.toArray from p) ?_
  refine ⟨s1.heap.objs.size, [s1.heap.objs.size],_,_,H1,rfl,I1.kept (t':=s1.toks) fun b o e=>Heap.get?_push_of_some _ e,turn_tuple a _,⟨_,Heap.get?_push_size _ rfl,rfl,rfl⟩,fun b hb => ?_,q⟩
  have e:b=s1.heap.objs.size:=by simpa using hb
  subst e
  exact I1.fpOk (Nat.le_refl _) (I1.hok.fresh (Nat.le_refl _))
theorem range_it {pins:List (Addr × Obj)} {σ : St} {H:Hp} {s:Shared} {R:It→Hp→Prop} {E:Value→Shared→Prop} {lo hi:Int} {t u v:Tok} {tk:Nat} (I:Inv X pins σ H s) (h1 : -(2 ^ 62)≤lo) (h2:lo < 2 ^ 62) (h3 : -(2 ^ 62)≤hi) (h4:hi < 2 ^ 62)
    (q:R (Itr lo (hi - lo).toNat) H):wpAny (model X.prog X.w) X.A (pyIter (.ref s.heap.objs.size)) (PIE X pins σ tg R) E { s with heap:=s.heap.push { cls := .type "range",data := .fields #[.int lo t,.int hi u,.int 1 v] },toks:=tk }:=by
  refine wpAny_pyIter_range (IsRange.new ..) (small_one h1 h2 h3 h4) ?_
  have I1:Inv X pins σ H { s with heap:=s.heap.push { cls := .type "range",data := .fields #[.int lo t,.int hi u,.int 1 v] },toks:=tk }:=I.kept fun b o e=>Heap.get?_push_of_some _ e
  refine ⟨(s.heap.push { cls := .type "range",data := .fields #[.int lo t,.int hi u,.int 1 v] }).objs.size, [(s.heap.push { cls := .type "range",data := .fields #[.int lo t,.int hi u,.int 1 v] }).objs.size],_,_,H,rfl,
    I1.kept (t':=tk) fun b o e=>Heap.get?_push_of_some _ e,turn_range _ lo (hi - lo).toNat,?_,fun b hb => ?_,q⟩
  · have e1:lo+((0:Nat):Int) * 1=lo:=by simp
    have e2:(((hi - lo).toNat:Nat):Int) - ((0:Nat):Int)=Builtin.Range.rangeSize lo hi 1:=by rw [rangeSize_one];split <;> omega
    show IsRangeIter _ _ (lo+((0:Nat):Int) * 1) ((((hi - lo).toNat:Nat):Int) - ((0:Nat):Int)) 1
    rw [e1,e2]
    exact Heap.get?_push_size _ rfl
  · have e:b=(s.heap.push { cls := .type "range",data := .fields #[.int lo t,.int hi u,.int 1 v] }).objs.size:=by simpa using hb
    subst e
    exact I1.fpOk (Nat.le_refl _) (I1.hok.fresh (Nat.le_refl _))
inductive J_iRng1 (R:It→Hp→Prop) (vs:List V) (H1:Hp):Prop
  | mk:∀ (j:Int),(vs = [.int j])→(-(2 ^ 62)≤j)→(j < 2 ^ 62)→(R (Itr 0 j.toNat) H1)→J_iRng1 R vs H1
noncomputable def iRng1 (ta:TA):TI:=fun σ H R=>ta σ H fun vs H1=>J_iRng1 R vs H1
inductive J_iRng2 (R:It→Hp→Prop) (vs:List V) (H1:Hp):Prop
  | mk:∀ (i j:Int),(vs = [.int i,.int j])→((-(2 ^ 62)≤i∧i < 2 ^ 62 ∧ -(2 ^ 62)≤j∧j < 2 ^ 62))→(R (Itr i (j - i).toNat) H1)→J_iRng2 R vs H1
noncomputable def iRng2 (ta:TA):TI:=fun σ H R=>ta σ H fun vs H1=>J_iRng2 R vs H1
theorem pi_range1 {a:Expr} {ta:TA} {p pos:Pos} (hg:Gl X "range") (hm:X.mg "range" = none) (ha:PA X [a] ta) (hs:starEach [a] X.env = [(false,eval a X.env)]:=by rfl):PI X tg (.Call (.Name "range" p) [a] [] pos) (iRng1 ta):=by
  intro pins s σ H R I h
  refine Call_ (ld_blt I hg hm boot_range (PyProof.Rows.callWith_type1 (thn (ha pos pins s σ H _ I h) fun us s1 ⟨vs,H1,I1,r1,q1⟩ => ?_) hs rfl))
  obtain ⟨j,e,q1,q2,q⟩:=q1
  subst e
  cases r1 with
  | cons r rr =>
    cases rr
    obtain ⟨t,rfl⟩:=r
    exact call_range_1 (range_it I1 (by omega) (by omega) q1 q2 (by simpa using q))
theorem pi_range2 {a b:Expr} {ta:TA} {p pos:Pos} (hg:Gl X "range") (hm:X.mg "range" = none) (ha:PA X [a,b] ta) (hs:starEach [a,b] X.env = [(false,eval a X.env),(false,eval b X.env)]:=by rfl) (hs2:starEach [b] X.env = [(false,eval b X.env)]:=by rfl) :
    PI X tg (.Call (.Name "range" p) [a,b] [] pos) (iRng2 ta):=by
  intro pins s σ H R I h
  refine Call_ (ld_blt I hg hm boot_range (PyProof.Rows.callWith_type1 (thn (ha pos pins s σ H _ I h) fun us s1 ⟨vs,H1,I1,r1,q1⟩ => ?_) (by rw [hs,hs2]) (by rw [hs2];rfl)))
  obtain ⟨i,j,e,⟨q1,q2,q3,q4⟩,q⟩:=q1
  subst e
  cases r1 with
  | cons r rr =>
    cases rr with
    | cons r' rr =>
      cases rr
      obtain ⟨t,rfl⟩:=r
      obtain ⟨t',rfl⟩:=r'
      exact call_range_2 (range_it I1 q1 q2 q3 q4 q)

noncomputable def tFor (wi:TI) (g:TG) (tb:TS):TS:=fun D σ H=>wi σ H fun J H1=>∃ W:Nat→Nat→St→Hp→Prop,(∃ m,W 0 m σ H1)∧∀ i m σ H,W i m σ H →
  (J.stop i H∧D.nx σ H)∨(J.go i H∧∃ N:St→Hp→Prop,(∀ σ' H',N σ' H'→∃ m',m' < m∧W (i+1) m' σ' H')∧∀ x H',J.yld i H x H'→g x σ H' fun σ2 H2=>tb { D with nx:=N,ct:=N,bk:=D.nx } σ2 H2)
noncomputable def pinsAt (fp:List Addr) (h:Heap):List (Addr × Obj):=fp.filterMap fun b=>(h.get? b).map fun o=>(b,o)
theorem mem_pinsAt {fp:List Addr} {h:Heap} {b:Addr} {o:Obj} (hb:b∈fp) (e:h.get? b=some o):(b,o)∈pinsAt fp h:=List.mem_filterMap.mpr ⟨b,hb,by rw [e];rfl⟩
theorem of_pinsAt {fp:List Addr} {h:Heap} {p:Addr × Obj} (hp:p∈pinsAt fp h):p.1∈fp∧h.get? p.1=some p.2:=by
  obtain ⟨b,hb,e⟩:=List.mem_filterMap.mp hp
  cases q:h.get? b with
  | none=>rw [q] at e;cases e
  | some o =>
    rw [q] at e
    have e':(b,o)=p:=Option.some.inj e
    subst e'
    exact ⟨hb,q⟩
theorem Inv.pinned {pins:List (Addr × Obj)} {σ : St} {H:Hp} {s:Shared} {fp:List Addr} (I:Inv X pins σ H s) (hf:∀ b∈fp,FpOk X pins H b) (ho:∀ b∈fp,∃ o,s.heap.get? b=some o∧∀ v,o.data ≠ .cell v):Inv X (pins ++ pinsAt fp s.heap) σ H s :=
  I.pins_of fun p hp=>(List.mem_append.mp hp).elim (fun z=>I.pin p (List.mem_append_right _ z)) fun z=>by
    obtain ⟨hb,e⟩:=of_pinsAt z
    obtain ⟨f0,f1,f2,_⟩:=hf p.1 hb
    obtain ⟨o,e',d⟩:=ho p.1 hb
    rw [e] at e';cases e'
    exact ⟨e,f0,f1,f2,d⟩
theorem Inv.unpinned {pins pl:List (Addr × Obj)} {σ : St} {H:Hp} {s:Shared} (I:Inv X (pins ++ pl) σ H s):Inv X pins σ H s:=I.pins_of fun p hp=>I.pin p (List.mem_append_right _ (List.mem_append_left _ hp))
theorem ps_for {iter:Expr} {body:List Stmt} {wi:TI} {g:TG} {tb:TS} {pos:Pos} (hp:PassesOwn (model X.prog X.w) X.A X.env X.xe) (hc:X.calm=true) (hi:PI X tg iter wi) (hg:PG X tg g) (hb:PSs X body tb)
    (hs:∀ x,foldedSetIterable iter X.env x=pure x:=by intro _;rfl):PS X (.For tg iter body [] pos) (tFor wi g tb):=by
  intro pins s σ H D I h
  refine wpAny_For (thn (hi pins s σ H _ I h) fun v s1 h1=>thn h1 fun itv s2 h2 => ?_) hs
  obtain ⟨it,fp,tn,J,H2,e,I2,T,st2,f2,W,⟨m0,w0⟩,turn⟩:=h2
  subst e
  -- what stays true of the iterator's objects through the loop
  have stat:∀ {H':Hp},(∀ b∈fp,H' b=none)→∀ b∈fp,FpOk X pins H' b:=fun hn b hb=>⟨hn b hb,(f2 b hb).2⟩
  refine codeAny_forLoop_any (fun n s'=>∃ i σ' H',Inv X pins σ' H' s'∧tn i s'.heap∧(∀ b∈fp,H' b=none)∧W i n σ' H') ?_ m0 ⟨0, σ,H2,I2,st2,fun b hb=>(f2 b hb).1,w0⟩
  rintro n s3 ⟨i, σ3,H3,I3,st3,fr3,w3⟩
  rcases turn i n σ3 H3 w3 with ⟨stop,qn⟩ | ⟨go,N,hN,step⟩
  · refine wpAny_passesOwn hp (thn (T.done X rfl rfl rfl hc i pins s3 σ3 H3 X.xe I3 (stat fr3) st3 stop) fun r s4 ⟨hr,I4⟩ => ?_)
    subst hr
    exact wpAny_execs_nil ⟨σ3,H3,I4,qn⟩
  · refine wpAny_passesOwn hp (thn (T.item X rfl rfl rfl hc i pins s3 σ3 H3 X.xe I3 (stat fr3) st3 go) fun r s4 ⟨u,hr,h4⟩ => ?_)
    subst hr
    refine wpAny_passesOwn hp (thn h4 fun _ s5 ⟨x,H5,I5,r5,y5,st5,fr5⟩ => ?_)
    have I5':=I5.pinned (stat fr5) (T.obj _ _ st5)
    refine wpAny_passesOwn hp (thn (hg _ s5 σ3 H5 x u _ I5' r5 (step x H5 y5)) fun _ s6 ⟨σ6,H6,I6,q6⟩ => ?_)
    refine wpAny_passesOwn hp (thn (hb _ s6 σ6 H6 _ I6 q6) fun f s7 q7 => ?_)
    have again:∀ {σ7:St} {H7:Hp},Inv X (pins ++ pinsAt fp s5.heap) σ7 H7 s7→N σ7 H7→∃ m,m < n∧∃ i σ' H',Inv X pins σ' H' s7∧tn i s7.heap∧(∀ b∈fp,H' b=none)∧W i m σ' H':=fun {σ7 H7} I7 n7=>by
      obtain ⟨m',hm,w7⟩:=hN σ7 H7 n7
      refine ⟨m',hm,i+1, σ7,H7,I7.unpinned,T.keep _ _ _ st5 fun b hb o e=>(I7.pin (b,o) (List.mem_append_right _ (List.mem_append_right _ (mem_pinsAt hb e)))).1,fun b hb => ?_,w7⟩
      obtain ⟨o,e,d⟩:=T.obj _ _ st5 b hb
      exact (I7.pin (b,o) (List.mem_append_right _ (List.mem_append_right _ (mem_pinsAt hb e)))).2.1
    cases f with
    | next=>obtain ⟨σ7,H7,I7,n7⟩:=q7;exact again I7 n7
    | cont=>obtain ⟨σ7,H7,I7,n7⟩:=q7;exact again I7 n7
    | brk=>obtain ⟨σ7,H7,I7,q7⟩:=q7;exact ⟨σ7,H7,I7.unpinned,q7⟩
    | ret v=>obtain ⟨x7, σ7,H7,I7,r7,q7⟩:=q7;exact ⟨x7, σ7,H7,I7.unpinned,r7,q7⟩
end

theorem for_list {K:PySem.W.Frag} {a:Addr} {xs:List V} {g:TG} {tb:TS} {D:Ends} {σ : St} {H:Hp} (Pv:Nat→St→Hp→Prop) (h0:Pv 0 σ H) (hl:∀ i σ H,i≤xs.length→Pv i σ H→SqL K H a xs)
    (hs:∀ i x σ H,xs[i]? = some x→Pv i σ H→g x σ H fun σ2 H2=>tb { D with nx:=Pv (i+1),ct:=Pv (i+1),bk:=D.nx } σ2 H2) (hd:∀ σ H,Pv xs.length σ H→D.nx σ H) :
    ∃ W:Nat→Nat→St→Hp→Prop,(∃ m,W 0 m σ H)∧∀ i m σ H,W i m σ H →
      ((Itl K a).stop i H∧D.nx σ H)∨((Itl K a).go i H∧∃ N:St→Hp→Prop,(∀ σ' H',N σ' H'→∃ m',m' < m∧W (i+1) m' σ' H')∧∀ x H',(Itl K a).yld i H x H'→g x σ H' fun σ2 H2=>tb { D with nx:=N,ct:=N,bk:=D.nx } σ2 H2):=by
  refine ⟨fun i m σ H=>m=xs.length - i∧i≤xs.length∧Pv i σ H,⟨xs.length,by simp,Nat.zero_le _,h0⟩,?_⟩
  rintro i m σ H ⟨rfl,hi,p⟩
  have q:=hl i σ H hi p
  by_cases hlt:i < xs.length
  · refine .inr ⟨⟨xs,xs[i],q,by simp [hlt]⟩,Pv (i+1),fun σ' H' p'=>⟨xs.length - (i+1),by omega,rfl,hlt,p'⟩,fun x H' y => ?_⟩
    obtain ⟨e,y⟩:=y
    subst e
    exact hs i x σ _ (y xs q) p
  · have e:i=xs.length:=by omega
    subst e
    exact .inl ⟨⟨xs,q,Nat.le_refl _⟩,hd σ H p⟩
theorem for_range {lo:Int} {n:Nat} {g:TG} {tb:TS} {D:Ends} {σ : St} {H:Hp} (Pv:Nat→St→Hp→Prop) (h0:Pv 0 σ H)
    (hs:∀ i σ H,i < n→Pv i σ H→g (.int (lo+i)) σ H fun σ2 H2=>tb { D with nx:=Pv (i+1),ct:=Pv (i+1),bk:=D.nx } σ2 H2) (hd:∀ σ H,Pv n σ H→D.nx σ H) :
    ∃ W:Nat→Nat→St→Hp→Prop,(∃ m,W 0 m σ H)∧∀ i m σ H,W i m σ H →
      ((Itr lo n).stop i H∧D.nx σ H)∨((Itr lo n).go i H∧∃ N:St→Hp→Prop,(∀ σ' H',N σ' H'→∃ m',m' < m∧W (i+1) m' σ' H')∧∀ x H',(Itr lo n).yld i H x H'→g x σ H' fun σ2 H2=>tb { D with nx:=N,ct:=N,bk:=D.nx } σ2 H2):=by
  refine ⟨fun i m σ H=>m=n - i∧i≤n∧Pv i σ H,⟨n,by simp,Nat.zero_le _,h0⟩,?_⟩
  rintro i m σ H ⟨rfl,hi,p⟩
  by_cases hlt:i < n
  · refine .inr ⟨hlt,Pv (i+1),fun σ' H' p'=>⟨n - (i+1),by omega,rfl,hlt,p'⟩,fun x H' y => ?_⟩
    obtain ⟨e,y⟩:=y
    subst e y
    exact hs i σ _ hlt p
  · have e:i=n:=by omega
    subst e
    exact .inl ⟨Nat.le_refl _,hd σ H p⟩
end L2

namespace L2
open PySem PySem.Spec PyProof.Rows

noncomputable abbrev R2:=V→V→Hp→VK→Prop
noncomputable def OpR (X:Cx) (f:Value→Value→Sem Value) (r:R2):Prop :=
  ∀ (pins:List (Addr × Obj)) (s:Shared) (σ : St) (H:Hp) (x y:V) (v u:Value) (Q:VK),Inv X pins σ H s→RelV x v→RelV y u→r x y H Q →
    wpAny (model X.prog X.w) X.A (f v u) (EP X pins σ Q) X.xe s
noncomputable def UnR (X:Cx) (f:Value→Sem Value) (r:V→Hp→VK→Prop):Prop :=
  ∀ (pins:List (Addr × Obj)) (s:Shared) (σ : St) (H:Hp) (x:V) (v:Value) (Q:VK),Inv X pins σ H s→RelV x v→r x H Q →
    wpAny (model X.prog X.w) X.A (f v) (EP X pins σ Q) X.xe s
noncomputable def CallR (X:Cx) (f:Value) (r:List V→Hp→VK→Prop):Prop :=
  ∀ (pins:List (Addr × Obj)) (s:Shared) (σ : St) (H:Hp) (xs:List V) (us:List Value) (Q:VK),Inv X pins σ H s→Vals xs us→r xs H Q →
    wpAny (model X.prog X.w) X.A (call f us) (EP X pins σ Q) X.xe s
noncomputable def TruR (X:Cx) (r:V→Hp→(Bool→Hp→Prop)→Prop):Prop :=
  ∀ (pins:List (Addr × Obj)) (s:Shared) (σ : St) (H:Hp) (x:V) (v:Value) (Q:Bool→Hp→Prop),Inv X pins σ H s→RelV x v→r x H Q →
    wpAny (model X.prog X.w) X.A (truthy v) (TP X pins σ Q) X.xe s

noncomputable def tOp (r:R2) (ta tb:TE):TE:=fun σ H Q=>ta σ H fun x H1=>tb σ H1 fun y H2=>r x y H2 Q
noncomputable def tUn (r:V→Hp→VK→Prop) (ta:TE):TE:=fun σ H Q=>ta σ H fun x H1=>r x H1 Q
inductive RI (C:Int→Int→Prop) (g:Int→Int→V) (x y:V) (H:Hp) (Q:VK):Prop
  | mk (i j:Int) (hx:x = .int i) (hy:y = .int j) (hc:C i j) (q:Q (g i j) H):RI C g x y H Q
noncomputable def rI (C:Int→Int→Prop) (g:Int→Int→V):R2:=fun x y H Q=>RI C g x y H Q
inductive RI0 (g:Int→Int→V) (x y:V) (H:Hp) (Q:VK):Prop
  | mk (i j:Int) (hx:x = .int i) (hy:y = .int j) (q:Q (g i j) H):RI0 g x y H Q
noncomputable def rI0 (g:Int→Int→V):R2:=fun x y H Q=>RI0 g x y H Q
inductive RU (g:Int→V) (x:V) (H:Hp) (Q:VK):Prop
  | mk (i:Int) (hx:x = .int i) (q:Q (g i) H):RU g x H Q
noncomputable def rU (g:Int→V):V→Hp→VK→Prop:=fun x H Q=>RU g x H Q

section
variable {X:Cx} {a b c:Expr} {ta tb tc:TE} {pos:Pos}

theorem binT (ha:PE X a ta) (hb:PE X b tb) {pins:List (Addr × Obj)} {s:Shared} {σ : St} {H:Hp} {R:V→V→Hp→Prop} (I:Inv X pins σ H s)
    (h:ta σ H fun x H1=>tb σ H1 fun y H2=>R x y H2) {Q:Value→Shared→Prop} {f:Value→Value→Sem Value}
    (hf:∀ v u s2 x y H2,Inv X pins σ H2 s2→RelV x v→RelV y u→R x y H2→wpAny (model X.prog X.w) X.A (f v u) Q X.xe s2) :
    wpAny (model X.prog X.w) X.A (eval a X.env) (fun v s₁ => wpAny (model X.prog X.w) X.A (eval b X.env) (fun u s₂ => wpAny (model X.prog X.w) X.A (f v u) Q X.xe s₂) X.xe s₁) X.xe s:=by
  refine thn (ha pins s σ H _ I h) fun v s1 ⟨x,H1,I1,r1,q1⟩ => ?_
  refine thn (hb pins s1 σ H1 _ I1 q1) fun u s2 ⟨y,H2,I2,r2,q2⟩ => ?_
  exact hf v u s2 x y H2 I2 r1 r2 q2

theorem pe_op {op:Operator} {r:R2} (ho:OpR X (binaryOp op) r) (ha:PE X a ta) (hb:PE X b tb):PE X (.BinOp a op b pos) (tOp r ta tb):=by
  intro pins s σ H Q I h
  exact wpAny_BinOp (binT ha hb I h fun v u s2 x y H2 I2 rx ry q=>ho pins s2 σ H2 x y v u Q I2 rx ry q)
theorem pe_un {op:UnaryOp} {r:V→Hp→VK→Prop} (ho:UnR X (unaryOp op) r) (ha:PE X a ta):PE X (.UnaryOp op a pos) (tUn r ta):=by
  intro pins s σ H Q I h
  exact UnaryOp_ (thn (ha pins s σ H _ I h) fun v s1 ⟨x,H1,I1,r1,q1⟩=>ho pins s1 σ H1 x v Q I1 r1 q1)

theorem opI {f:Value→Value→Sem Value} {C:Int→Int→Prop} {g:Int→Int→Int}
    (rule:∀ (i j:Int) (t u:Tok) (s:Shared) (Q:Value→Shared→Prop) (E:Value→Shared→Prop),C i j→Q (.int (g i j) s.toks) { s with toks:=s.toks+1 }→wpAny (model X.prog X.w) X.A (f (.int i t) (.int j u)) Q E s) :
    OpR X f (rI C fun i j => .int (g i j)):=by
  intro pins s σ H x y v u Q I rx ry h
  obtain ⟨i,j,rfl,rfl,hc,q⟩:=h
  obtain ⟨t,rfl⟩:=rx
  obtain ⟨t',rfl⟩:=ry
  exact rule i j t t' s _ _ hc ⟨.int (g i j),H,I.tok _,⟨_,rfl⟩,q⟩
theorem opI0 {f:Value→Value→Sem Value} {g:Int→Int→Int}
    (rule:∀ (i j:Int) (t u:Tok) (s:Shared) (Q:Value→Shared→Prop) (E:Value→Shared→Prop),Q (.int (g i j) s.toks) { s with toks:=s.toks+1 }→wpAny (model X.prog X.w) X.A (f (.int i t) (.int j u)) Q E s) :
    OpR X f (rI0 fun i j => .int (g i j)):=by
  intro pins s σ H x y v u Q I rx ry h
  obtain ⟨i,j,rfl,rfl,q⟩:=h
  obtain ⟨t,rfl⟩:=rx
  obtain ⟨t',rfl⟩:=ry
  exact rule i j t t' s _ _ ⟨.int (g i j),H,I.tok _,⟨_,rfl⟩,q⟩
theorem opB0 {f:Value→Value→Sem Value} {g:Int→Int→Bool}
    (rule:∀ (i j:Int) (t u:Tok) (s:Shared) (Q:Value→Shared→Prop) (E:Value→Shared→Prop),Q (.bool (g i j)) s→wpAny (model X.prog X.w) X.A (f (.int i t) (.int j u)) Q E s) :
    OpR X f (rI0 fun i j => .bl (g i j)):=by
  intro pins s σ H x y v u Q I rx ry h
  obtain ⟨i,j,rfl,rfl,q⟩:=h
  obtain ⟨t,rfl⟩:=rx
  obtain ⟨t',rfl⟩:=ry
  exact rule i j t t' s _ _ ⟨.bl (g i j),H,I,rfl,q⟩

noncomputable def CDiv (i j:Int):Prop:=0 < j∧j < 1073741824
noncomputable def CPow (i j:Int):Prop:=0≤j∧j≤1000000∧i.natAbs < 2 ^ 64
noncomputable def CMul (i j:Int):Prop:=(-(2 ^ 64) < i∧i < 2 ^ 64)∨(-(2 ^ 64) < j∧j < 2 ^ 64)
theorem CMul.ok {i j:Int} (h:CMul i j):IntMulOk i j:=by
  rcases h with ⟨h1,h2⟩ | ⟨h1,h2⟩
  · exact .of_left (intBits_le_64 h1 h2)
  · exact .of_right (intBits_le_64 h1 h2)

theorem op_add:OpR X (binaryOp .Add) (rI0 fun i j => .int (i+j)):=opI0 fun _ _ _ _ _ _ _ q=>add_int q
theorem op_sub:OpR X (binaryOp .Sub) (rI0 fun i j => .int (i - j)):=opI0 fun _ _ _ _ _ _ _ q=>sub_int q
theorem op_mul:OpR X (binaryOp .Mult) (rI CMul fun i j => .int (i * j)):=opI fun _ _ _ _ _ _ _ hc q=>mul_int q hc.ok
theorem op_fdiv:OpR X (binaryOp .FloorDiv) (rI CDiv fun i j => .int (i / j)):=opI fun i j _ _ _ _ _ hc q=>by
  have h1:(0:Int) < j:=hc.1
  have h2:j < 1073741824:=hc.2
  exact floordiv_int (by omega) (by rw [Int.fdiv_eq_ediv_of_nonneg i (by omega)];exact q) (.inl (PyProof.noPylong_small (by omega)))
theorem op_mod:OpR X (binaryOp .Mod) (rI (fun _ j=>0 < j) fun i j => .int (i % j)):=opI fun i j _ _ _ _ _ hc q=>by
  have h1:(0:Int) < j:=hc
  exact mod_int' (by omega) (by rw [Int.fmod_eq_emod_of_nonneg i (by omega)];exact q)
theorem op_pow:OpR X (binaryOp .Pow) (rI CPow fun i j => .int (i ^ j.toNat)):=opI fun _ _ _ _ _ _ _ hc q=>pow_int_small hc.1 hc.2.1 hc.2.2 q


theorem unI {f:Value→Sem Value} {g:Int→Int}
    (rule:∀ (i:Int) (t:Tok) (s:Shared) (Q:Value→Shared→Prop) (E:Value→Shared→Prop),Q (.int (g i) s.toks) { s with toks:=s.toks+1 }→wpAny (model X.prog X.w) X.A (f (.int i t)) Q E s) :
    UnR X f (rU fun i => .int (g i)):=by
  intro pins s σ H x v Q I rx h
  obtain ⟨i,rfl,q⟩:=h
  obtain ⟨t,rfl⟩:=rx
  exact rule i t s _ _ ⟨.int (g i),H,I.tok _,⟨_,rfl⟩,q⟩
theorem un_neg:UnR X (unaryOp .USub) (rU fun i => .int (-i)):=unI fun _ _ _ _ _ q=>neg_int q

end

noncomputable def scal:V→V→Bool
  | .non,.non=>true | .non,.int _=>true | .int _,.non=>true | .non,.bl _=>true | .bl _,.non=>true | .non,.str _=>true | .str _,.non=>true
  | .int _,.int _=>true | .bl _,.bl _=>true | .str _,.str _=>true | .byt _,.byt _=>true
  | .int _,.str _=>true | .str _,.int _=>true | .bl _,.str _=>true | .str _,.bl _=>true
  | _,_=>false
noncomputable def rEq:R2:=fun x y H Q=>scal x y=true∧Q (.bl (decide (x=y))) H
noncomputable def rNe:R2:=fun x y H Q=>scal x y=true∧Q (.bl (!decide (x=y))) H

theorem dec_int {i j:Int}:decide (V.int i=V.int j)=(i == j):=by
  rw [Bool.eq_iff_iff]
  simp
theorem dec_bl {i j:Bool}:decide (V.bl i=V.bl j)=(i == j):=by
  rw [Bool.eq_iff_iff]
  simp
theorem dec_str {i j:Str}:decide (V.str i=V.str j)=(i == j):=by
  rw [Bool.eq_iff_iff]
  simp
theorem dec_byt {i j:Array UInt8}:decide (V.byt i=V.byt j)=(i.toList == j.toList):=by
  rw [Bool.eq_iff_iff]
  cases i
  cases j
  simp

section
variable {X:Cx} {a b c:Expr} {ta tb tc:TE} {pos:Pos}
theorem fin_bl {pins:List (Addr × Obj)} {σ : St} {H:Hp} {s:Shared} {Q:VK} {k k':Bool} (I:Inv X pins σ H s) (q:Q (.bl k) H) (e:k=k'):EP X pins σ Q (.bool k') s:=by
  subst e
  exact ⟨.bl k,H,I,rfl,q⟩
theorem op_eq:OpR X (compareOp .Eq) rEq:=by
  intro pins s σ H x y v u Q I rx ry h
  obtain ⟨hs,q⟩:=h
  cases x with
  | non =>
    cases rx
    cases y with
    | non=>cases ry;exact PySem.EqNone.eq_none_none (fin_bl I q (by simp))
    | bl j=>cases ry;exact PySem.EqNone.eq_none_bool (fin_bl I q (by simp))
    | int j=>obtain ⟨t',rfl⟩:=ry;exact PySem.EqNone.eq_none_int (fin_bl I q (by simp))
    | str j=>obtain ⟨t',rfl⟩:=ry;exact PySem.EqNone.eq_none_str (fin_bl I q (by simp))
    | _=>exact absurd (show false=true from hs) Bool.false_ne_true
  | bl i =>
    cases rx
    cases y with
    | non=>cases ry;exact PySem.EqNone.eq_bool_none (fin_bl I q (by simp))
    | bl j=>cases ry;exact eq_bool (fin_bl I q dec_bl)
    | str j=>obtain ⟨t',rfl⟩:=ry;exact PySem.EqMixed.eq_bool_str (fin_bl I q (by simp))
    | _=>exact absurd (show false=true from hs) Bool.false_ne_true
  | int i =>
    obtain ⟨t,rfl⟩:=rx
    cases y with
    | non=>cases ry;exact PySem.EqNone.eq_int_none (fin_bl I q (by simp))
    | int j=>obtain ⟨t',rfl⟩:=ry;exact eq_int (fin_bl I q dec_int)
    | str j=>obtain ⟨t',rfl⟩:=ry;exact PySem.EqMixed.eq_int_str (fin_bl I q (by simp))
    | _=>exact absurd (show false=true from hs) Bool.false_ne_true
  | str i =>
    obtain ⟨t,rfl⟩:=rx
    cases y with
    | non=>cases ry;exact PySem.EqNone.eq_str_none (fin_bl I q (by simp))
    | bl j=>cases ry;exact PySem.EqMixed.eq_str_bool (fin_bl I q (by simp))
    | int j=>obtain ⟨t',rfl⟩:=ry;exact PySem.EqMixed.eq_str_int (fin_bl I q (by simp))
    | str j=>obtain ⟨t',rfl⟩:=ry;exact eq_str (fin_bl I q dec_str)
    | _=>exact absurd (show false=true from hs) Bool.false_ne_true
  | byt i =>
    obtain ⟨t,rfl⟩:=rx
    cases y with
    | byt j=>obtain ⟨t',rfl⟩:=ry;exact PySem.W.eq_bytes (fin_bl I q dec_byt)
    | _=>exact absurd (show false=true from hs) Bool.false_ne_true
  | _=>cases y <;> exact absurd (show false=true from hs) Bool.false_ne_true
theorem op_ne:OpR X (compareOp .NotEq) rNe:=by
  intro pins s σ H x y v u Q I rx ry h
  obtain ⟨hs,q⟩:=h
  cases x with
  | non =>
    cases rx
    cases y with
    | non=>cases ry;exact PySem.EqNone.ne_none_none (fin_bl I q (by simp))
    | bl j=>cases ry;exact PySem.EqNone.ne_none_bool (fin_bl I q (by simp))
    | int j=>obtain ⟨t',rfl⟩:=ry;exact PySem.EqNone.ne_none_int (fin_bl I q (by simp))
    | str j=>obtain ⟨t',rfl⟩:=ry;exact PySem.EqNone.ne_none_str (fin_bl I q (by simp))
    | _=>exact absurd (show false=true from hs) Bool.false_ne_true
  | bl i =>
    cases rx
    cases y with
    | non=>cases ry;exact PySem.EqNone.ne_bool_none (fin_bl I q (by simp))
    | bl j=>cases ry;exact ne_bool (fin_bl I q (congrArg not dec_bl))
    | str j=>obtain ⟨t',rfl⟩:=ry;exact PySem.EqMixed.ne_bool_str (fin_bl I q (by simp))
    | _=>exact absurd (show false=true from hs) Bool.false_ne_true
  | int i =>
    obtain ⟨t,rfl⟩:=rx
    cases y with
    | non=>cases ry;exact PySem.EqNone.ne_int_none (fin_bl I q (by simp))
    | int j=>obtain ⟨t',rfl⟩:=ry;exact ne_int (fin_bl I q (congrArg not dec_int))
    | str j=>obtain ⟨t',rfl⟩:=ry;exact PySem.EqMixed.ne_int_str (fin_bl I q (by simp))
    | _=>exact absurd (show false=true from hs) Bool.false_ne_true
  | str i =>
    obtain ⟨t,rfl⟩:=rx
    cases y with
    | non=>cases ry;exact PySem.EqNone.ne_str_none (fin_bl I q (by simp))
    | bl j=>cases ry;exact PySem.EqMixed.ne_str_bool (fin_bl I q (by simp))
    | int j=>obtain ⟨t',rfl⟩:=ry;exact PySem.EqMixed.ne_str_int (fin_bl I q (by simp))
    | str j=>obtain ⟨t',rfl⟩:=ry;exact ne_str (fin_bl I q (congrArg not dec_str))
    | _=>exact absurd (show false=true from hs) Bool.false_ne_true
  | byt i =>
    obtain ⟨t,rfl⟩:=rx
    cases y with
    | byt j=>obtain ⟨t',rfl⟩:=ry;exact PySem.W.ne_bytes (fin_bl I q (congrArg not dec_byt))
    | _=>exact absurd (show false=true from hs) Bool.false_ne_true
  | _=>cases y <;> exact absurd (show false=true from hs) Bool.false_ne_true

theorem op_lt:OpR X (compareOp .Lt) (rI0 fun i j => .bl (decide (i < j))):=opB0 fun _ _ _ _ _ _ _ q=>lt_int q
theorem op_gt:OpR X (compareOp .Gt) (rI0 fun i j => .bl (decide (j < i))):=opB0 fun _ _ _ _ _ _ _ q=>gt_int q

theorem op_isN:OpR X (compareOp .Is) (fun x y H Q=>y = .non∧Q (.bl (decide (x = .non))) H):=by
  intro pins s σ H x y v u Q I rx ry h
  obtain ⟨rfl,q⟩:=h
  cases ry
  refine is_none_gen (fin_bl I q ?_)
  cases x <;> first
    | (cases rx;rfl)
    | (obtain ⟨t,rfl⟩:=rx;rfl)



theorem nomark (b:Expr) {op:CmpOp} (h:op ≠ .In:=by decide) (h2:op ≠ .NotIn:=by decide):behindInMarks op b=false:=by
  have e1:(op == CmpOp.In)=false:=by cases op <;> first | rfl | exact absurd rfl h
  have e2:(op == CmpOp.NotIn)=false:=by cases op <;> first | rfl | exact absurd rfl h2
  cases b <;> simp [behindInMarks,e1,e2]
theorem pe_cmpR {op:CmpOp} {r:R2} (ho:OpR X (compareOp op) r) (ha:PE X a ta) (hb:PE X b tb) (hm:behindInMarks op b=false):PE X (.Compare a [op] [b] pos) (tOp r ta tb):=by
  intro pins s σ H Q I h
  exact wpAny_Compare1 (binT ha hb I h fun v u s2 x y H2 I2 rx ry q=>ho pins s2 σ H2 x y v u Q I2 rx ry q) hm
inductive RTest (x:V) (H:Hp) (Q:Bool→Hp→Prop):Prop
  | mk (k:Bool) (hx:x = .bl k) (q:Q k H):RTest x H Q
noncomputable def tTest (t:TE):TT:=fun σ H Q=>t σ H fun x H'=>RTest x H' Q
theorem pt_cmpR {op:CmpOp} {r:R2} (ho:OpR X (compareOp op) r) (ha:PE X a ta) (hb:PE X b tb) (hm:behindInMarks op b=false):PT X (.Compare a [op] [b] pos) (tTest (tOp r ta tb)):=by
  intro pins s σ H Q I h
  refine wpAny_isTrue_Compare1 (thn (ha pins s σ H _ I h) fun v s1 ⟨x,H1,I1,r1,q1⟩=>thn (hb pins s1 σ H1 _ I1 q1) fun u s2 ⟨y,H2,I2,r2,q2⟩ =>
    thn (ho pins s2 σ H2 x y v u _ I2 r1 r2 q2) fun c s3 ⟨z,H3,I3,r3,k,e,q3⟩ => ?_) hm
  subst e
  cases r3
  exact wpAny_truthy_bool ⟨H3,I3,q3⟩

noncomputable def TruV (K:PySem.W.Frag) (x:V) (H:Hp) (k:Bool):Prop :=
  match x with
  | .non=>k=false
  | .bl b=>k=b
  | .int i=>k=(i != 0)
  | .str y=>y.length≤sizeLine∧k=((y.length:Int) != 0)
  | .byt y=>y.size≤sizeLine∧k=((y.size:Int) != 0)
  | .ref p=>(∃ xs,SqL K H p xs∧k = !xs.isEmpty)∨(∃ xs,SqT K H p xs∧k = !xs.isEmpty)∨∃ kvs,H p=some (.dK kvs)∧k = !kvs.isEmpty
  | _=>False
theorem isEmpty_kv {κ : Type} {kvs:List (κ × V)} {vs:List (κ × Value)} (r:KV kvs vs):(!vs.isEmpty) = !kvs.isEmpty:=by
  cases r <;> rfl
theorem isEmpty_of {xs:List V} {its:List Value} (r:Vals xs its):(!its.toArray.isEmpty) = !xs.isEmpty:=by
  cases r <;> simp
theorem line63:(sizeLine:Nat) < 2 ^ 63:=by rw [sizeLine_eq];decide
theorem tru_ok:TruR X (fun x H Q=>∃ k,TruV X.K x H k∧Q k H):=by
  intro pins s σ H x v Q I rx h
  obtain ⟨k,e,q⟩:=h
  have hl:=line63
  have hs:sizeLine=16777216:=sizeLine_eq
  cases x with
  | non =>
    cases rx
    have e':k=false:=e
    subst e'
    exact truthy_none ⟨H,I,q⟩
  | bl b =>
    cases rx
    have e':k=b:=e
    subst e'
    exact wpAny_truthy_bool ⟨H,I,q⟩
  | int i =>
    obtain ⟨t,rfl⟩:=rx
    have e':k=(i != 0):=e
    subst e'
    exact PySem.P.truthy_int ⟨H,I,q⟩
  | str y =>
    obtain ⟨t,rfl⟩:=rx
    obtain ⟨hy,e'⟩:y.length≤sizeLine∧k=((y.length:Int) != 0):=e
    subst e'
    exact PySem.P.truthy_str (by omega) ⟨H,I.tok _,q⟩
  | byt y =>
    obtain ⟨t,rfl⟩:=rx
    obtain ⟨hy,e'⟩:y.size≤sizeLine∧k=((y.size:Int) != 0):=e
    subst e'
    exact PySem.W.truthy_bytes (by omega) ⟨H,I.tok _,q⟩
  | ref p =>
    cases rx
    have e':(∃ xs,SqL X.K H p xs∧k = !xs.isEmpty)∨(∃ xs,SqT X.K H p xs∧k = !xs.isEmpty)∨∃ kvs,H p=some (.dK kvs)∧k = !kvs.isEmpty:=e
    rcases e' with ⟨xs,hx,e'⟩ | ⟨xs,hx,e'⟩ | ⟨kvs,hx,e'⟩
    · subst e'
      obtain ⟨its,r,pl,hz⟩:=I.list hx
      have hlen:=r.length
      exact wpAny_truthy_list pl.isList (by simp only [List.size_toArray];omega) ⟨H,I.tok _,by rw [isEmpty_of r];exact q⟩
    · subst e'
      obtain ⟨its,r,pl,hz⟩:=I.tuple hx
      have hlen:=r.length
      exact truthy_tuple pl (by simp only [List.size_toArray];omega) ⟨H,I.tok _,by rw [isEmpty_of r];exact q⟩
    · subst e'
      obtain ⟨hz,hS,vs,r,m⟩:kvs.length≤sizeLine∧(p == sysModules)=false∧∃ vs,KV kvs vs∧s.heap.DictOf (mixKind X.prog X.w) p vs:=I.hok p _ hx
      have hlen:kvs.length=vs.length:=Paired.length r
      exact wpAny_truthy_dict hS m (by omega) ⟨H,I.tok _,by rw [isEmpty_kv r];exact q⟩
  | _=>exact (show False from e).elim
theorem pt_truth (ha:PE X a ta) (he:∀ whole,isTrue a X.env whole=(do let v ← whole;standAt a.pos;holding [v] (truthy v))) :
    PT X a (fun σ H Q=>ta σ H fun x H'=>∃ k,TruV X.K x H' k∧Q k H'):=by
  intro pins s σ H Q I h
  exact isTrue_plain (thn (ha pins s σ H _ I h) fun v s1 ⟨x,H1,I1,r1,q1⟩=>tru_ok pins s1 σ H1 x v Q I1 r1 q1) (he _)

inductive J_op_add_str (x:V) (y:V) (H:Hp) (Q:VK):Prop
  | mk:∀ i j,(x = .str i)→(y = .str j)→(i.length+j.length≤sizeLine)→(Q (.str (i ++ j)) H)→J_op_add_str x y H Q
theorem op_add_str:OpR X (binaryOp .Add) (fun x y H Q=>J_op_add_str x y H Q):=by
  intro pins s σ H x y v u Q I rx ry h
  obtain ⟨i,j,rfl,rfl,hz,q⟩:=h
  obtain ⟨t,rfl⟩:=rx
  obtain ⟨t',rfl⟩:=ry
  exact add_str (fun t' tk=>⟨.str (i ++ j),H,I.tok _,⟨_,rfl⟩,q⟩) hz


theorem vals1 {x:V} {us:List Value} (r:Vals [x] us):∃ u,us = [u]∧RelV x u:=by
  cases r with
  | cons r1 r2=>cases r2;exact ⟨_,rfl,r1⟩
theorem vals2 {x y:V} {us:List Value} (r:Vals [x,y] us):∃ u w',us = [u,w']∧RelV x u∧RelV y w':=by
  cases r with
  | cons r1 r2 =>
    cases r2 with
    | cons r3 r4=>cases r4;exact ⟨_,_,rfl,r1,r3⟩
inductive J_call_max2 (xs:List V) (H:Hp) (Q:VK):Prop
  | mk:∀ i j,(xs = [.int i,.int j])→(Q (.int (if j > i then j else i)) H)→J_call_max2 xs H Q
theorem call_max2 (hc:X.calm=true):CallR X (.builtin "max") (fun xs H Q=>J_call_max2 xs H Q):=by
  intro pins s σ H xs us Q I r h
  obtain ⟨i,j,rfl,q⟩:=h
  obtain ⟨u,w',rfl,⟨t,rfl⟩,⟨t',rfl⟩⟩:=vals2 r
  refine max_two_ints (I.ok.hd hc) fun h' tk k=>⟨_,H,I.kept k,?_,q⟩
  by_cases hj:j > i
  · rw [if_pos hj,if_pos hj];exact ⟨_,rfl⟩
  · rw [if_neg hj,if_neg hj];exact ⟨_,rfl⟩
inductive J_call_min2 (xs:List V) (H:Hp) (Q:VK):Prop
  | mk:∀ i j,(xs = [.int i,.int j])→(Q (.int (if j < i then j else i)) H)→J_call_min2 xs H Q
theorem call_min2 (hc:X.calm=true):CallR X (.builtin "min") (fun xs H Q=>J_call_min2 xs H Q):=by
  intro pins s σ H xs us Q I r h
  obtain ⟨i,j,rfl,q⟩:=h
  obtain ⟨u,w',rfl,⟨t,rfl⟩,⟨t',rfl⟩⟩:=vals2 r
  refine min_two_ints (I.ok.hd hc) fun h' tk k=>⟨_,H,I.kept k,?_,q⟩
  by_cases hj:j < i
  · rw [if_pos hj,if_pos hj];exact ⟨_,rfl⟩
  · rw [if_neg hj,if_neg hj];exact ⟨_,rfl⟩
end
end L2

namespace L2
open PySem PySem.Spec PyProof.Rows

structure ObjM (h:Heap) (x dx C:Addr) (mA:Str→Option Value):Prop where
  obj:h.get? x=some (PySem.W.instObj C dx)
  ns:h.Ns1 dx mA
  ne:dx≠x

theorem lookIn_ns {h:Heap} {dx:Addr} {mA:Str→Option Value} (n:h.Ns1 dx mA):∃ od,h.get? dx=some od∧∀ name,PySem.W.lookIn name od=some (mA name):=by
  obtain ⟨o,es,ep,ho,hd,hk,_,hm⟩:=n
  refine ⟨o,ho,fun name => ?_⟩
  have e:=hm name
  unfold nsFind findBy at e
  rw [← Array.find?_toList] at e
  unfold PySem.W.lookIn
  rw [hd]
  dsimp only
  split
  · rename_i y q
    rw [q] at e
    exact congrArg some e
  · rename_i q
    rw [q] at e
    have a:es.toList.any (·.refKey)=false:=by
      rw [List.any_eq_false]
      intro y hy
      obtain ⟨z,t,hkey⟩:=hk y (Array.mem_toList_iff.mp hy)
      simp [DictEntry.refKey,hkey]
    have a':¬ es.toList.any (·.refKey)=true:=by rw [a];exact Bool.false_ne_true
    rw [if_neg a']
    exact congrArg some e

theorem ObjM.look {h:Heap} {x dx C:Addr} {mA:Str→Option Value} (I:ObjM h x dx C mA):∃ od,PySem.W.InstAt h x (PySem.W.instObj C dx) C (some od)∧∀ name,PySem.W.lookIn name od=some (mA name) :=
  let ⟨od,ho,hl⟩:=lookIn_ns I.ns
  ⟨od,⟨I.obj,rfl,rfl,ho⟩,hl⟩

section
variable {prog:Program} {w:World} {A:Around} {E:Value→Shared→Prop} {s:Shared} {K:PySem.W.Frag} {x dx C f:Addr} {mA:Str→Option Value} {name:Str} {v:Value}

theorem get_map {expr:Bool} {Q:Value→Shared→Prop} (X:K.In s.heap) (I:ObjM s.heap x dx C mA) (hg:PySem.W.plainGet K C name=true) (hh:PySem.W.hasDictIn K C=true)
    (ha:PySem.W.findIn K (.ref C) name=some none) (hv:mA name=some v) (hv':PySem.W.handedIn v=true) (h:Q v { s with toks:=s.toks+1 }) :
    wpAny (model prog w) A (getAttr (.ref x) name expr) Q E s:=by
  obtain ⟨od,J,hl⟩:=I.look
  exact PySem.W.get_value X J (PySem.W.plainGet_of hg).1 (PySem.W.findObj_own hh ha rfl (by rw [hl,hv])) hv' h


theorem get_meth {pl:Sem Bool} {Q:Value × List Value→Shared→Prop} (X:K.In s.heap) (I:ObjM s.heap x dx C mA) (hg:PySem.W.plainGet K C name=true)
    (hf:PySem.W.findIn K (.ref C) name=some (some (.ref f))) (ht:PySem.W.isFn K (.ref f)=true) (hv:mA name=none) (h:Q (.ref f, [.ref x]) s) :
    wpAny (model prog w) A (getMethod (.ref x) name pl) Q E s:=by
  obtain ⟨od,J,hl⟩:=I.look
  exact PySem.W.method_fn X J (PySem.W.plainGet_of hg).1 (PySem.W.plainGet_of hg).2 hf (beq_iff_eq.mp ht) (by show (PySem.W.lookIn name od).map (·.isSome)=some false;rw [hl,hv];rfl) h

theorem set_map {ns:List Str} {Q:Unit→Shared→Prop} (X:K.In s.heap) (I:ObjM s.heap x dx C mA)
    (hs:PySem.W.findIn K (.ref C) "__setattr__" = some (some (.builtin "object.__setattr__"))) (hp:PySem.W.plainOver K C=true) (ht:PySem.W.takerIn K C name=some none) (hh:PySem.W.hasDictIn K C=true)
    (hw:PySem.Within mA ns) (hsz:ns.length≤sizeLine)
    (h:∀ h',ObjM h' x dx C (fun y=>if y=name then some v else mA y)→Heap.SameBut dx s.heap h'→Q () { s with heap:=h',toks:=s.toks+2 }) :
    wpAny (model prog w) A (setAttr (.ref x) name v) Q E s:=by
  obtain ⟨od,J,hl⟩:=I.look
  refine PySem.W.set_plain X J hs (PySem.W.osa_open (s := { s with toks:=s.toks+1 }) (r:=none) X J hp ht fun b => ?_)
  obtain ⟨cd,hc,hd'⟩:=PySem.W.any_some hh
  have hx:s.heap.get? x=some ⟨.ref C,some dx,.plain, #[]⟩:=I.obj
  refine wpAny_bind (wpAny_pure (wpAny_bind (wpAny_bind (wpAny_loadPart hx (wpAny_bind (PySem.W.Looks.here (s := { s with toks:=s.toks+1 }) (PySem.W.looks_clsIn X hc) ?_))))))
  rw [hd']
  refine wpAny_pure (a:=some dx) (wpAny_bind (wpAny_pure (wpAny_bind ?_)))
  refine wpAny_nsSet1 (s := { s with toks:=s.toks+1 }) I.ns fun h' hn2 hs2 => ?_
  obtain ⟨oD,esD,epD,hoD,hdD,hcD⟩:=hn2.count (PySem.Within.cons name v hw)
  refine wpAny_bind (wpAny_lookBehind hoD (by rw [hdD];exact pastItsLine_dict (Nat.le_trans hcD (by rw [List.length_cons];omega))) ?_)
  exact wpAny_pure (h _ ⟨(hs2.2 _ (Ne.symm I.ne)).trans I.obj,hn2,I.ne⟩ hs2)

theorem make_map {R:Result→Shared→Prop} {vs:List Value} {kw:List (Str × Value)} (X:K.In s.heap) (hm:PySem.W.makesIn K C=true)
    (hi:PySem.W.findIn K (.ref C) "__init__" = some (some (.ref f))) (hf:PySem.W.typeIn K (.ref f)=some (.type "function"))
    (h:codeAny (model prog w) (A.under (.builtin "type.__call__" ⟨.ref C :: vs,kw⟩)) (.call (.ref f) ⟨.ref (s.heap.objs.size+1) :: vs,kw⟩) (PySem.W.InitBack (s.heap.objs.size+1) R)
      { s with heap:=(s.heap.push PySem.W.emptyDict).push (PySem.W.instObj C s.heap.objs.size) }) :
    codeAny (model prog w) A (.call (.ref C) ⟨vs,kw⟩) R s:=by
  obtain ⟨hh,g,d,t,os⟩:=s
  exact PySem.W.make_core (PySem.W.makes_of X hm) (PySem.W.looks_findIn X hi) (fun self=>PySem.W.bind_fn X self hf) (.inl rfl) h
end

noncomputable def putF (f:Str) (v:V):List (Str × V)→List (Str × V)
  | [] => [(f,v)]
  | (g,x) :: r=>if g=f then (g,v) :: r else (g,x) :: putF f v r
theorem lookup_putF (f g:Str) (v:V):∀ fs:List (Str × V),(putF f v fs).lookup g=if g=f then some v else fs.lookup g
  | []=>by
    show List.lookup g [(f,v)]=_
    by_cases h:g=f
    · have hb:(g == f)=true:=beq_iff_eq.mpr h
      simp only [List.lookup,hb,if_pos h]
    · have hb:(g == f)=false:=beq_eq_false_iff_ne.mpr h
      simp only [List.lookup,hb,if_neg h]
  | (k,x) :: r=>by
    have ih:=lookup_putF f g v r
    rw [show putF f v ((k,x) :: r)=(if k=f then (k,v) :: r else (k,x) :: putF f v r) from rfl]
    by_cases hk:k=f
    · rw [if_pos hk]
      by_cases h:g=k
      · have hb:(g == k)=true:=beq_iff_eq.mpr h
        simp only [List.lookup,hb,if_pos (h.trans hk)]
      · have hb:(g == k)=false:=beq_eq_false_iff_ne.mpr h
        simp only [List.lookup,hb,if_neg (fun e:g=f=>h (e.trans hk.symm))]
    · rw [if_neg hk]
      by_cases h:g=k
      · have hb:(g == k)=true:=beq_iff_eq.mpr h
        simp only [List.lookup,hb,if_neg (fun e:g=f=>hk (h.symm.trans e))]
      · have hb:(g == k)=false:=beq_eq_false_iff_ne.mpr h
        simp only [List.lookup,hb]
        exact ih
theorem keys_putF (f:Str) (v:V):∀ fs:List (Str × V),f∈(putF f v fs).map (·.1)∧∀ g,g∈fs.map (·.1)→g∈(putF f v fs).map (·.1)
  | []=>⟨by simp [putF],fun g h=>by simp at h⟩
  | (k,x) :: r=>by
    obtain ⟨i1,i2⟩:=keys_putF f v r
    rw [show putF f v ((k,x) :: r)=(if k=f then (k,v) :: r else (k,x) :: putF f v r) from rfl]
    by_cases hk:k=f
    · rw [if_pos hk]
      subst hk
      exact ⟨by simp,fun g h=>by simpa using h⟩
    · rw [if_neg hk]
      refine ⟨?_,fun g h => ?_⟩
      · rw [List.map_cons]
        exact List.mem_cons_of_mem _ i1
      · rw [List.map_cons] at h ⊢
        rcases List.mem_cons.mp h with e | e
        · exact List.mem_cons.mpr (.inl e)
        · exact List.mem_cons_of_mem _ (i2 g e)
theorem length_putF (f:Str) (v:V):∀ fs:List (Str × V),(putF f v fs).length≤fs.length+1
  | []=>by simp [putF]
  | (k,x) :: r=>by
    have ih:=length_putF f v r
    rw [show putF f v ((k,x) :: r)=(if k=f then (k,v) :: r else (k,x) :: putF f v r) from rfl]
    by_cases hk:k=f
    · rw [if_pos hk,List.length_cons,List.length_cons];omega
    · rw [if_neg hk,List.length_cons,List.length_cons];omega

theorem RelO.some_of {v:V} {o:Option Value} (r:RelO (some v) o):∃ u,o=some u∧RelV v u:=by
  cases o with
  | none=>exact (show False from r).elim
  | some u=>exact ⟨u,rfl,r⟩
theorem RelO.none_of {o:Option Value} (r:RelO none o):o=none:=by
  cases o with
  | none=>rfl
  | some u=>exact (show False from r).elim
theorem handed_of {v:V} {u:Value} (r:RelV v u):PySem.W.handedIn u=true:=by
  cases v with
  | non=>cases (show u=Value.none from r);rfl
  | bl b=>cases (show u=Value.bool b from r);rfl
  | int i=>obtain ⟨t,e⟩:=(show ∃ t,u=Value.int i t from r);cases e;rfl
  | str x=>obtain ⟨t,e⟩:=(show ∃ t,u=Value.str x t from r);cases e;rfl
  | byt b=>obtain ⟨t,e⟩:=(show ∃ t,u=Value.bytes b t from r);cases e;rfl
  | flt b=>obtain ⟨t,e⟩:=(show ∃ t,u=Value.float b t from r);cases e;rfl
  | ref a=>cases (show u=Value.ref a from r);rfl
  | ty n=>cases (show u=Value.type n from r);rfl

section
variable {P:Program} {w:World} {H H':Hp} {h h':Heap} {a C dx:Addr} {fs fs':List (Str × V)}
theorem ins_get (hok:HOk P w H h) (e:H a=some (.ins C dx fs)):∃ mA,ObjM h a dx C mA∧(∀ f,RelO (fs.lookup f) (mA f))∧PySem.Within mA (fs.map (·.1))∧fs.length≤1000∧H dx=some (.own a):=by
  obtain ⟨d,z,ne,ob,mA,n,r,q⟩:=(show ObjOk P w H h a (.ins C dx fs) from hok a _ e)
  exact ⟨mA,⟨ob,n,ne⟩,r,q,z,d⟩
end

structure Cls (K:PySem.W.Frag) (C:Addr):Prop where
  pg:PySem.W.plainGet K C Str.empty=true
  hd:PySem.W.hasDictIn K C=true
  po:PySem.W.plainOver K C=true
  sa:PySem.W.findIn K (.ref C) "__setattr__" = some (some (.builtin "object.__setattr__"))
theorem Cls.get {K:PySem.W.Frag} {C:Addr} (c:Cls K C) (f:Str):PySem.W.plainGet K C f=true:=c.pg
noncomputable def NoAttr (K:PySem.W.Frag) (C:Addr) (f:Str):Prop:=PySem.W.findIn K (.ref C) f=some none
theorem NoAttr.taker {K:PySem.W.Frag} {C:Addr} {f:Str} (n:NoAttr K C f):PySem.W.takerIn K C f=some none:=by
  unfold PySem.W.takerIn
  rw [show PySem.W.findIn K (.ref C) f=some none from n]
  rfl
structure Meth (K:PySem.W.Frag) (C:Addr) (m:Str) (f:Addr):Prop where
  at_:PySem.W.findIn K (.ref C) m=some (some (.ref f))
  fn:PySem.W.isFn K (.ref f)=true
  kp:PySem.W.keepIn K (.ref f)=true

section
variable {X:Cx} {pins:List (Addr × Obj)} {σ : St} {H:Hp} {s:Shared} {a C dx:Addr} {fs:List (Str × V)} {f:Str} {v:V} {A:Around} {E:Value→Shared→Prop}

theorem getattr_ok {b:Bool} {Q:Value→Shared→Prop} (I:Inv X pins σ H s) (e:H a=some (.ins C dx fs)) (c:Cls X.K C) (n:NoAttr X.K C f) (l:fs.lookup f=some v)
    (h:∀ u s',Inv X pins σ H s'→RelV v u→Q u s'):wpAny (model X.prog X.w) A (getAttr (.ref a) f b) Q E s:=by
  obtain ⟨mA,O,r,_,_,_⟩:=ins_get I.hok e
  obtain ⟨u,hu,ru⟩:=RelO.some_of (v:=v) (o:=mA f) (by rw [← l];exact r f)
  exact get_map I.kIn O (c.get f) c.hd n hu (handed_of ru) (h u _ (I.tok _) ru)


theorem getmeth_ok {m:Str} {g:Addr} {pl:Sem Bool} {Q:Value × List Value→Shared→Prop} (I:Inv X pins σ H s) (e:H a=some (.ins C dx fs)) (c:Cls X.K C) (k:Meth X.K C m g) (l:fs.lookup m=none)
    (h:Q (.ref g, [.ref a]) s):wpAny (model X.prog X.w) A (getMethod (.ref a) m pl) Q E s:=by
  obtain ⟨mA,O,r,_,_,_⟩:=ins_get I.hok e
  have hn:mA m=none:=RelO.none_of (by rw [← l];exact r m)
  exact get_meth I.kIn O (c.get m) k.at_ k.fn hn h

theorem setattr_ok {y:V} {u:Value} {Q:Unit→Shared→Prop} (I:Inv X pins σ H s) (e:H a=some (.ins C dx fs)) (c:Cls X.K C) (n:NoAttr X.K C f) (hl:fs.length < 1000) (ry:RelV y u)
    (h:∀ s',Inv X pins σ (upd H a (.ins C dx (putF f y fs))) s'→Q () s'):wpAny (model X.prog X.w) A (setAttr (.ref a) f u) Q E s:=by
  obtain ⟨mA,O,r,wi,_,ho⟩:=ins_get I.hok e
  have hz:(fs.map (·.1)).length≤sizeLine:=by rw [List.length_map,sizeLine_eq];omega
  refine set_map I.kIn O c.sa c.po n.taker c.hd wi hz fun h' O' sb=>h _ ?_
  have hd:∃ o,h'.get? dx=some o:=let ⟨o,_,_,e',_⟩:=O'.ns; ⟨o,e'⟩
  refine I.write (x:=a) (e:=dx) (by rw [e];exact True.intro) (.inr ho) (fun b q hb z=>(sb.2 b hb).trans z) hd ?_
  refine ⟨by rw [upd_ne O.ne];exact ho,?_,O.ne,O'.obj,_,O'.ns,fun g => ?_,fun g hg => ?_⟩
  · have:=length_putF f y fs;omega
  · show RelO ((putF f y fs).lookup g) (if g=f then some u else mA g)
    rw [lookup_putF]
    by_cases q:g=f
    · rw [if_pos q,if_pos q];exact ry
    · rw [if_neg q,if_neg q];exact r g
  · by_cases q:g=f
    · rw [q];exact (keys_putF f y fs).1
    · refine (keys_putF f y fs).2 g (wi g fun z=>hg ?_)
      show (if g=f then some u else mA g)=none
      rw [if_neg q];exact z

theorem Inv.made (I:Inv X pins σ H s):Inv X pins σ (upd (upd H s.heap.objs.size (.own (s.heap.objs.size+1))) (s.heap.objs.size+1) (.ins C s.heap.objs.size []))
    { s with heap:=(s.heap.push PySem.W.emptyDict).push (PySem.W.instObj C s.heap.objs.size) }:=by
  have e1:(s.heap.push PySem.W.emptyDict).get? s.heap.objs.size=some PySem.W.emptyDict:=Heap.get?_push_size s.heap rfl
  have e2:((s.heap.push PySem.W.emptyDict).push (PySem.W.instObj C s.heap.objs.size)).get? (s.heap.objs.size+1)=some (PySem.W.instObj C s.heap.objs.size):=by
    have:=Heap.get?_push_size (s.heap.push PySem.W.emptyDict) (o:=PySem.W.instObj C s.heap.objs.size) rfl
    rwa [Heap.size_push] at this
  have e3:(s.heap.push PySem.W.emptyDict).Ns s.heap.objs.size (fun _=>none):=⟨PySem.W.emptyDict, #[],_,e1,rfl,(fun e he=>absurd he (by simp)),fun _=>rfl⟩
  have I1:=I.laid (a:=s.heap.objs.size) (o := .own (s.heap.objs.size+1)) (h':=s.heap.push PySem.W.emptyDict) (t':=s.toks) (fun b u q=>Heap.get?_push_of_some _ q) (Nat.le_refl _) ⟨_,e1⟩
  refine I1.laid (a:=s.heap.objs.size+1) (o := .ins C s.heap.objs.size []) (t':=s.toks) (fun b u q=>Heap.get?_push_of_some _ q) (Nat.le_of_eq (Heap.size_push _ _)) ?_
  have ne:s.heap.objs.size≠s.heap.objs.size+1:=Nat.ne_of_lt (Nat.lt_succ_self _)
  refine ⟨by rw [upd_ne ne,upd_same],Nat.zero_le _,ne,e2,fun _=>none,(Heap.Ns1.of_empty e3).at fun o q=>Heap.get?_push_of_some _ q,fun _=>True.intro,fun y hy=>absurd rfl hy⟩

theorem attr_of {prog:Program} {w:World} {env:Env} {e:Expr} {f:Str} {pos:Pos} {s:Shared} {Q:Value→Shared→Prop} (hb:attributeBase e f env (eval e env)=eval e env)
    (h:wpAny (model prog w) A (eval e env) (fun o s₁ => wpAny (model prog w) A (getAttr o f true) Q E s₁) E s):wpAny (model prog w) A (eval (.Attribute e f pos) env) Q E s :=
  Attribute_any_ h (by rw [arm_eval_Attribute,hb])
end

inductive RFld (K:PySem.W.Frag) (f:Str) (x:V) (H:Hp) (Q:VK):Prop
  | mk (a C dx:Addr) (fs:List (Str × V)) (v:V) (hx:x = .ref a) (h:H a=some (.ins C dx fs)) (c:Cls K C) (n:NoAttr K C f) (l:fs.lookup f=some v) (q:Q v H):RFld K f x H Q
noncomputable def tFld (K:PySem.W.Frag) (ta:TE) (f:Str):TE:=fun σ H Q=>ta σ H fun x H1=>RFld K f x H1 Q
inductive J_sFld (K:PySem.W.Frag) (f:Str) (D:Ends) (σ : St) (y:V) (x:V) (H2:Hp):Prop
  | mk:∀ a C dx fs,(x = .ref a)→(H2 a=some (.ins C dx fs))→(Cls K C)→(NoAttr K C f)→(fs.length < 1000)→(D.nx σ (upd H2 a (.ins C dx (putF f y fs))))→J_sFld K f D σ y x H2
noncomputable def sFld (K:PySem.W.Frag) (ta tv:TE) (f:Str):TS:=fun D σ H=>tv σ H fun y H1=>ta σ H1 fun x H2=>J_sFld K f D σ y x H2

section
variable {X:Cx} {o e value:Expr} {f:Str} {pos pos' tpos:Pos} {ta tv:TE}
theorem pe_fld (he:PE X e ta) (hb:attributeBase e f X.env (eval e X.env)=eval e X.env):PE X (.Attribute e f pos) (tFld X.K ta f):=by
  intro pins s σ H Q I h
  refine attr_of hb (thn (he pins s σ H _ I h) fun u s1 ⟨x,H1,I1,rx,a,C,dx,fs,v,ex,ea,c,n,l,q⟩ => ?_)
  subst ex
  obtain rfl:u=Value.ref a:=rx
  exact getattr_ok I1 ea c n l fun u' s2 I2 ru=>⟨v,H1,I2,ru,q⟩
theorem ps_fld (ha:PE X o ta) (hv:PE X value tv) (hs:swapsWith value (some (.Attribute o f pos')) pos.line X.env=pure false):PS X (.Assign [.Attribute o f pos'] value pos) (sFld X.K ta tv f):=by
  intro pins s σ H D I h
  refine plainObj_wpAny_Assign_Attribute (thn (hv pins s σ H _ I h) fun u s1 ⟨y,H1,I1,ry,q⟩=>thn (ha pins s1 σ H1 _ I1 q) fun ov s2 ⟨x,H2,I2,rx,a,C,dx,fs,ex,ea,c,n,l,q2⟩ => ?_) hs
  subst ex
  obtain rfl:ov=Value.ref a:=rx
  exact setattr_ok I2 ea c n l ry fun s3 I3=>⟨σ,_,I3,q2⟩

end

section
variable {X:Cx} {pins:List (Addr × Obj)} {σ : St} {H:Hp} {s:Shared} {A:Around} {E:Value→Shared→Prop} {Q:Value→Shared→Prop} {c:Value} {b:Bool}
inductive TyOf (K:PySem.W.Frag) (H:Hp):V→Value→Prop where
  | non:TyOf K H .non (.type "NoneType")
  | bl (x:Bool):TyOf K H (.bl x) (.type "bool")
  | int (i:Int):TyOf K H (.int i) (.type "int")
  | str (x:Str):TyOf K H (.str x) (.type "str")
  | flt (x:UInt64):TyOf K H (.flt x) (.type "float")
  | lst {a:Addr} {xs:List V} (e:H a=some (.lst xs)):TyOf K H (.ref a) (.type "list")
  | frz {a:Addr} {o:Obj} {xs:List V} (e:H a=some (.frz o (.lst xs))):TyOf K H (.ref a) (.type "list")
  | tup {a:Addr} {xs:List V} (e:H a=some (.tup xs)):TyOf K H (.ref a) (.type "tuple")
  | dK {a:Addr} {kvs:List (Key × V)} (e:H a=some (.dK kvs)):TyOf K H (.ref a) (.type "dict")
  | dT {a:Addr} {kvs:List (List Key × V)} (e:H a=some (.dT kvs)):TyOf K H (.ref a) (.type "dict")
  | ins {a C dx:Addr} {fs:List (Str × V)} (e:H a=some (.ins C dx fs)) (cl:Cls K C) (ha:PySem.W.findIn K (.ref C) "__class__" = some (some (.builtin "object.__class__")))
      (hn:PySem.W.specialIn K (.builtin "object.__class__") "__get__" = some (some (.builtin "getset_descriptor.__get__"))) (htk:PySem.W.takesIn K (.builtin "object.__class__")=some true)
      (hm:PySem.W.mroIn K C (.type "object")=some true):TyOf K H (.ref a) (.ref C)
theorem isinst_ok {x:V} {u t:Value} (I:Inv X pins σ H s) (rx:RelV x u) (ty:TyOf X.K H x t) (e:PySem.W.kitOne X.K t c=some b) (h:∀ tk,Q (.bool b) { s with toks:=tk }) :
    wpAny (model X.prog X.w) A (call (.builtin "isinstance") [u,c]) Q E s:=by
  cases ty with
  | non=>cases (show u=Value.none from rx);exact PySem.W.kia_one PySem.W.kitx_none I.kIn True.intro e (fun z=>nomatch z) h
  | bl y=>cases (show u=Value.bool y from rx);exact PySem.W.kia_one PySem.W.kitx_bool I.kIn True.intro e (fun z=>nomatch z) h
  | int i=>obtain ⟨t,q⟩:=(show ∃ t,u=Value.int i t from rx);cases q;exact PySem.W.kia_one PySem.W.kitx_int I.kIn True.intro e (fun z=>nomatch z) h
  | str y=>obtain ⟨t,q⟩:=(show ∃ t,u=Value.str y t from rx);cases q;exact PySem.W.kia_one PySem.W.kitx_str I.kIn True.intro e (fun z=>nomatch z) h
  | flt y=>obtain ⟨t,q⟩:=(show ∃ t,u=Value.float y t from rx);cases q;exact PySem.W.kia_one PySem.W.kitx_float I.kIn True.intro e (fun z=>nomatch z) h
  | @lst a xs ea =>
    cases (show u=Value.ref a from rx)
    obtain ⟨_,_,n,_,h1⟩:=(show ObjOk X.prog X.w H s.heap a (.lst xs) from I.hok a _ ea)
    exact PySem.W.kia_one PySem.W.kitx_list I.kIn ⟨_,h1,rfl⟩ e (fun z=>nomatch z) h
  | @frz a ob xs ea =>
    cases (show u=Value.ref a from rx)
    obtain ⟨_,_,_,n,_,h1⟩:=(show ObjOk X.prog X.w H s.heap a (.frz ob (.lst xs)) from I.hok a _ ea)
    exact PySem.W.kia_one PySem.W.kitx_list I.kIn ⟨_,h1,rfl⟩ e (fun z=>nomatch z) h
  | @tup a xs ea =>
    cases (show u=Value.ref a from rx)
    obtain ⟨_,_,_,p⟩:=(show ObjOk X.prog X.w H s.heap a (.tup xs) from I.hok a _ ea)
    obtain ⟨o,h1,h2,_⟩:=p
    exact PySem.W.kia_one PySem.W.kitx_tuple I.kIn ⟨o,h1,h2⟩ e (fun z=>nomatch z) h
  | @dK a kvs ea =>
    cases (show u=Value.ref a from rx)
    obtain ⟨_,_,vs,_,p⟩:=(show ObjOk X.prog X.w H s.heap a (.dK kvs) from I.hok a _ ea)
    obtain ⟨o,es,ep,h1,h2,_⟩:=p
    exact PySem.W.kia_one PySem.W.kitx_dict I.kIn ⟨o,h1,h2.1⟩ e (fun z=>nomatch z) h
  | @dT a kvs ea =>
    cases (show u=Value.ref a from rx)
    obtain ⟨_,_,xs,_,o,es,ep,h1,h2,_⟩:=(show ObjOk X.prog X.w H s.heap a (.dT kvs) from I.hok a _ ea)
    exact PySem.W.kia_one PySem.W.kitx_dict I.kIn ⟨o,h1,h2.1⟩ e (fun z=>nomatch z) h
  | @ins a C dx fs ea cl ha hn htk hm =>
    cases (show u=Value.ref a from rx)
    obtain ⟨mA,O,_⟩:=ins_get I.hok ea
    obtain ⟨od,J,_⟩:=O.look
    exact PySem.W.kia_one (PySem.W.kitx_own (cl.get _) cl.hd ha hn htk hm) I.kIn J e (fun z=>nomatch z) h
end
end L2

namespace L2
open PySem PySem.Spec PyProof.Rows

structure Room (k:Nat) (A:Around):Prop where
  hd:A.handled=none
  dp:A.depth+3 * k+5 < recursionLimit
  un:A.units+16 * k+200 < cLine
theorem Room.mono {j k:Nat} {A:Around} (r:Room k A) (h:j≤k):Room j A:=⟨r.hd,by have:=r.dp;omega,by have:=r.un;omega⟩
theorem Room.deeper {k:Nat} {A:Around} (r:Room (k+1) A) (env:Env):Room k (A.deeper env) :=
  ⟨r.hd,by have:=r.dp;show A.depth+1+3 * k+5 < _;omega,by have:=r.un;show A.units+3+16 * k+200 < _;omega⟩
theorem make_depth {A:Around} {C:Addr} {us:List Value} {kw:List (Str × Value)}:(A.under (.builtin "type.__call__" ⟨.ref C :: us,kw⟩)).depth=A.depth+1:=by
  first | rfl | simp [Around.under,Code.weight,Code.isCreation,Code.isGuard,Code.isCaller,Code.frames,Code.isFrame,guardIds]
theorem make_units {A:Around} {C:Addr} {us:List Value} {kw:List (Str × Value)}:(A.under (.builtin "type.__call__" ⟨.ref C :: us,kw⟩)).units=A.units+1:=by
  first | rfl | simp [Around.under,Code.cUnits,Code.frames,Code.isFrame]
theorem Room.make {k:Nat} {A:Around} (r:Room (k+1) A) (C:Addr) (us:List Value) (kw:List (Str × Value)):Room k (A.under (.builtin "type.__call__" ⟨.ref C :: us,kw⟩)) :=
  ⟨r.hd,by have:=r.dp;rw [make_depth];omega,by have:=r.un;rw [make_units];omega⟩
theorem Room.depth {k:Nat} {A:Around} (r:Room k A):A.depth < recursionLimit:=by have:=r.dp;omega
theorem Room.units {k:Nat} {A:Around} (r:Room k A):A.units+64 < cLine:=by have:=r.un;omega

noncomputable def tNil:TA:=fun _ H Q=>Q [] H
noncomputable def tCons (ta:TE) (tr:TA):TA:=fun σ H Q=>ta σ H fun x H1=>tr σ H1 fun xs H2=>Q (x :: xs) H2
section
variable {X:Cx} {e:Expr} {es:List Expr} {te:TE} {t:TA} {pos:Pos}
theorem pa_nil:PA X [] tNil:=fun _ _ _ _ H Q I h=>Calls.spliced_nil ⟨[],H,I,.nil,h⟩
theorem pa_cons (ha:PE X e te) (hr:PA X es t) (hs:starEach (e :: es) X.env=(false,eval e X.env) :: starEach es X.env:=by rfl):PA X (e :: es) (tCons te t):=by
  intro pos pins s σ H Q I h
  rw [hs]
  show wpAny _ _ (spliced ((false,eval e X.env) :: backTo pos (starEach es X.env))) _ _ s
  refine Calls.spliced_cons (thn (ha pins s σ H _ I h) fun u s1 ⟨x,H1,I1,r1,q1⟩ => ?_)
  exact thn (hr pos pins s1 σ H1 _ I1 q1) fun us s2 ⟨xs,H2,I2,r2,q2⟩=>⟨x :: xs,H2,I2,.cons r1 r2,q2⟩

noncomputable def tTup (t:TA):TE:=fun σ H Q=>t σ H fun xs H1=>xs.length≤sizeLine∧∀ p,H1 p=none→Q (.ref p) (upd H1 p (.tup xs))
noncomputable def tLst (t:TA):TE:=fun σ H Q=>t σ H fun xs H1=>xs.length≤sizeLine∧∀ p,H1 p=none→Q (.ref p) (upd H1 p (.lst xs))
theorem pe_tup {x1} (h:PA X es t):PE X (.Tuple es x1 pos) (tTup t):=by
  intro pins s σ H Q I hq
  refine wpAny_Tuple_spliced (thn (h pos pins s σ H _ I hq) fun us s1 ⟨xs,H1,I1,r,z,q⟩=>⟨by rw [← r.length];exact z,?_⟩)
  have hf:H1 s1.heap.objs.size=none:=I1.hok.fresh (Nat.le_refl _)
  refine ⟨.ref s1.heap.objs.size,upd H1 s1.heap.objs.size (.tup xs),I1.laid (t':=s1.toks) (fun b u e=>Heap.get?_push_of_some _ e) (Nat.le_refl _) ?_,rfl,q _ hf⟩
  exact ⟨z,us,r,⟨_,Heap.get?_push_size _ rfl,rfl,_,rfl,rfl⟩⟩
theorem pe_lst (h:PA X es t):PE X (.List es pos) (tLst t):=by
  intro pins s σ H Q I hq
  refine wpAny_List_spliced (thn (h pos pins s σ H _ I hq) fun us s1 ⟨xs,H1,I1,r,z,q⟩=>⟨by rw [← r.length];exact z,?_⟩)
  have hf:H1 s1.heap.objs.size=none:=I1.hok.fresh (Nat.le_refl _)
  refine ⟨.ref s1.heap.objs.size,upd H1 s1.heap.objs.size (.lst xs),I1.laid (t':=s1.toks) (fun b u e=>Heap.get?_push_of_some _ e) (Nat.le_refl _) ?_,rfl,q _ hf⟩
  exact ⟨z,us,0,r,Heap.get?_push_size _ rfl⟩
end

noncomputable abbrev Sp:=List V→Hp→VK→XK→Prop
noncomputable abbrev CXT:=List Env→Hp→Shared→XK→Value→Shared→Prop

structure Env0 (P:Program) (w:World) (K:PySem.W.Frag) (mg:Str→Option Value) (base:Heap) (A:Around) (outer:List Env) (s:Shared) (H:Hp):Prop where
  frames:A.frames=some outer
  mod:Mod K mg base
  bs:∀ b o,base.get? b=some o→s.heap.get? b=some o∧H b=none
  bsz:base.objs.size≤s.heap.objs.size
  funs:s.heap.FunFrames base outer
  frf:∀ b∈frs outer,H b=none
  hok:HOk P w H s.heap
  bare:AllBare s.gens
noncomputable def CE (outer:List Env) (P:Program) (w:World) (H:Hp) (s:Shared) (Q:VK) (u:Value) (s':Shared):Prop :=
  ∃ v H',s'.os=s.os∧AllBare s'.gens∧Un (frs outer) [] H H' s.heap s'.heap∧HOk P w H' s'.heap∧RelV v u∧Q v H'
noncomputable def CR (CX:CXT) (outer:List Env) (P:Program) (w:World) (H:Hp) (s:Shared) (Q:VK) (E:XK) (r:Result) (s':Shared):Prop :=
  match r with
  | .ok (.ret u)=>CE outer P w H s Q u s'
  | .ok _=>False
  | .error e=>CX outer H s E e s'
structure FnOk (P:Program) (w:World) (K:PySem.W.Frag) (mg:Str→Option Value) (base:Heap) (CX:CXT) (k:Nat) (f:Addr) (fd:FuncData) (ps:List Str) (sp:Sp):Prop where
  len:∀ vs H Q E,sp vs H Q E→vs.length=ps.length
  run:∀ (A:Around) (outer:List Env) (s:Shared) (H:Hp) (args:Args) (us:List Value) (vs:List V) (Q:VK) (E:XK),Room k A→Env0 P w K mg base A outer s H→BindsTo s fd args (ps.zip us)→Vals vs us→sp vs H Q E →
    codeAny (model P w) A (.call (.ref f) args) (CR CX outer P w H s Q E) s

theorem Env0.make {P:Program} {w:World} {K:PySem.W.Frag} {mg:Str→Option Value} {base:Heap} {A:Around} {outer:List Env} {s:Shared} {H:Hp} (e:Env0 P w K mg base A outer s H) (C:Addr) (us:List Value) (kw:List (Str × Value)) :
    Env0 P w K mg base (A.under (.builtin "type.__call__" ⟨.ref C :: us,kw⟩)) outer s H:=⟨by first | exact e.frames | (simpa [Around.under,Code.envs,Code.isFrame,pushEnvs] using e.frames),e.mod,e.bs,e.bsz,e.funs,e.frf,e.hok,e.bare⟩

section
variable {X:Cx} {pins:List (Addr × Obj)} {σ : St} {H:Hp} {s s':Shared}
theorem Inv.env0 (I:Inv X pins σ H s):Env0 X.prog X.w X.K X.mg X.base X.A X.stack s H :=
  ⟨I.ok.frames,I.ok.mod,I.bs,Nat.le_trans I.ok.bsz I.sz,I.stack,I.stkFree,I.hok,I.bare⟩
theorem Inv.after {Q:VK} {u:Value} (I:Inv X pins σ H s) (h:CE X.stack X.prog X.w H s Q u s'):EP X pins σ Q u s':=by
  obtain ⟨v,H',os,bare,un,hok,r,q⟩:=h
  obtain ⟨hh,g,d,t,os'⟩:=s'
  obtain rfl:os'=s.os:=os
  exact ⟨v,H',I.call (h':=hh) (g':=g) (d':=d) (t':=t) (ch := []) un hok bare (fun b z=>absurd z (by simp)),r,q⟩
end

noncomputable def tCall (sp:Sp) (dvs:List V) (E:XK) (t:TA):TE:=fun σ H Q=>t σ H fun vs H1=>sp (vs ++ dvs) H1 Q E
inductive J_tMeth (C:Addr) (m:Str) (sp:Sp) (dvs:List V) (E:XK) (t:TA) (σ : St) (Q:VK) (x:V) (H1:Hp):Prop
  | mk:∀ a dx fs,(x = .ref a)→(H1 a=some (.ins C dx fs))→(fs.lookup m=none)→(t σ H1 fun vs H2=>sp (x :: (vs ++ dvs)) H2 Q E)→J_tMeth C m sp dvs E t σ Q x H1
noncomputable def tMeth (C:Addr) (m:Str) (sp:Sp) (dvs:List V) (E:XK) (ta:TE) (t:TA):TE:=fun σ H Q=>ta σ H fun x H1=>J_tMeth C m sp dvs E t σ Q x H1
noncomputable def tMake (C:Addr) (sp:Sp) (dvs:List V) (E:XK) (t:TA):TE:=fun σ H Q=>t σ H fun vs H1=>∀ x dx,H1 x=none→H1 dx=none→dx≠x →
  sp (.ref x :: (vs ++ dvs)) (upd (upd H1 dx (.own x)) x (.ins C dx [])) (fun v H2=>v = .non∧Q (.ref x) H2) E

noncomputable def Binds (K:PySem.W.Frag) (fd:FuncData) (ps:List Str) (ds:List Value):Prop :=
  ∀ (s:Shared) (us:List Value),K.In s.heap→(us ++ ds).length=ps.length→BindsTo s fd ⟨us, []⟩ (ps.zip (us ++ ds))
theorem Binds.all {K:PySem.W.Frag} {fd:FuncData} {ps:List Str} (h:∀ us:List Value,us.length=ps.length→bindArgs fd ⟨us, []⟩=pure (ps.zip us)):Binds K fd ps []:=fun s us _ hl=>by
  rw [List.append_nil] at hl ⊢
  exact .of_eq (h us hl)

noncomputable def Passes (CX:CXT) (X:Cx) (E:XK):Prop := ∀ (pins:List (Addr × Obj)) (σ : St) (H:Hp) (s:Shared) (e:Value) (s':Shared),Inv X pins σ H s→CX X.stack H s E e s'→X.xe e s'

section
variable {X:Cx} {CX:CXT} {k:Nat} {f C:Addr} {fd:FuncData} {ps:List Str} {sp:Sp} {dvs:List V} {ds:List Value} {E:XK} {x m:Str} {p pos apos:Pos} {e o:Expr} {es:List Expr} {ta:TE} {t:TA}

theorem run_fn {pins:List (Addr × Obj)} {σ : St} {H:Hp} {s:Shared} {Q:VK} {us:List Value} {vs:List V} (F:FnOk X.prog X.w X.K X.mg X.base CX k f fd ps sp) (hr:Room k X.A) (hb:Binds X.K fd ps ds) (hd:Vals dvs ds) (hx:Passes CX X E)
    (I:Inv X pins σ H s) (r:Vals vs us) (h:sp (vs ++ dvs) H Q E):wpAny (model X.prog X.w) X.A (call (.ref f) us) (EP X pins σ Q) X.xe s:=by
  have r2:Vals (vs ++ dvs) (us ++ ds):=r.append hd
  have hl:(us ++ ds).length=ps.length:=by rw [← r2.length];exact F.len _ _ _ _ h
  refine wpAny_call (codeAny_mono (F.run X.A X.stack s H ⟨us, []⟩ (us ++ ds) (vs ++ dvs) Q E hr I.env0 (hb s us I.kIn hl) r2 h) fun r s' hq => ?_)
  cases r with
  | error e=>exact hx pins σ H s e s' I hq
  | ok fl =>
    cases fl with
    | ret u=>exact I.after hq
    | next=>exact False.elim hq
    | brk=>exact False.elim hq
    | cont=>exact False.elim hq

theorem pe_call (F:FnOk X.prog X.w X.K X.mg X.base CX k f fd ps sp) (hr:Room k X.A) (hg:Gl X x) (hm:X.mg x=some (.ref f)) (hk:PySem.W.keepIn X.K (.ref f)=true) (hb:Binds X.K fd ps ds) (hd:Vals dvs ds) (hx:Passes CX X E)
    (ha:PA X (e :: es) t) (hdb:(x == ("__debug__" : Str))=false:=by decide) (he:starEach (e :: es) X.env=(false,eval e X.env) :: starEach es X.env:=by rfl) (hpl:(backTo pos (starEach es X.env)).any (·.1)=false:=by rfl) :
    PE X (.Call (.Name x p) (e :: es) [] pos) (tCall sp dvs E t):=by
  intro pins s σ H Q I h
  refine wpAny_Call_Name_kw (ld_glob I hg hm ?_ hdb)
  refine PySem.W.callWith_K (h₀ := X.base) I.ok.mod.kin hk (thn (ha pos pins s σ H _ I h) fun us s1 ⟨vs,H1,I1,r,q⟩=>⟨I1.kIn,?_⟩) he hpl
  exact run_fn F hr hb hd hx I1 r q

theorem pe_meth {pl:Sem Bool} (he:PE X o ta) (c:Cls X.K C) (hm:Meth X.K C m f) (F:FnOk X.prog X.w X.K X.mg X.base CX k f fd ps sp) (hr:Room k X.A) (hb:Binds X.K fd ps ds) (hd:Vals dvs ds) (hx:Passes CX X E) (ha:PA X (e :: es) t)
    (hst:starEach (e :: es) X.env=(false,eval e X.env) :: starEach es X.env:=by rfl) (hpl:(backTo pos (starEach es X.env)).any (·.1)=false:=by rfl)
    (ht:eval (.Call (.Attribute o m apos) (e :: es) [] pos) X.env=(do
      let ov ← eval o X.env
      standAt apos.atName
      let (f,first) ← holding [ov] (getMethod ov m pl)
      callWith pos f first (backTo pos (starEach (e :: es) X.env)) (backToKw pos (keywordEach [] X.env))):=by rfl) :
    PE X (.Call (.Attribute o m apos) (e :: es) [] pos) (tMeth C m sp dvs E ta t):=by
  intro pins s σ H Q I h
  refine PySem.W.methodCall_KW (pl:=pl) (thn (he pins s σ H _ I h) fun u s1 ⟨x,H1,I1,rx,a,dx,fs,ex,ea,l,q⟩ => ?_) ht
  subst ex
  obtain rfl:u=Value.ref a:=rx
  refine getmeth_ok I1 ea c hm l ?_
  refine PySem.W.callWith_K (first := [.ref a]) (h₀ := X.base) I.ok.mod.kin hm.kp (thn (ha pos pins s1 σ H1 _ I1 q) fun us s2 ⟨vs,H2,I2,r,q2⟩=>⟨I2.kIn,?_⟩) hst hpl
  exact run_fn (us := .ref a :: us) (vs := .ref a :: vs) F hr hb hd hx I2 (.cons rfl r) q2
theorem pe_meth0 {pl:Sem Bool} (he:PE X o ta) (c:Cls X.K C) (hm:Meth X.K C m f) (F:FnOk X.prog X.w X.K X.mg X.base CX k f fd ps sp) (hr:Room k X.A) (hb:Binds X.K fd ps ds) (hd:Vals dvs ds) (hx:Passes CX X E)
    (ht:eval (.Call (.Attribute o m apos) [] [] pos) X.env=(do
      let ov ← eval o X.env
      standAt apos.atName
      let (f,first) ← holding [ov] (getMethod ov m pl)
      callWith pos f first (backTo pos (starEach [] X.env)) (backToKw pos (keywordEach [] X.env))):=by rfl) :
    PE X (.Call (.Attribute o m apos) [] [] pos) (tMeth C m sp dvs E ta tNil):=by
  intro pins s σ H Q I h
  refine PySem.W.methodCall_KW (pl:=pl) (thn (he pins s σ H _ I h) fun u s1 ⟨x,H1,I1,rx,a,dx,fs,ex,ea,l,q⟩ => ?_) ht
  subst ex
  obtain rfl:u=Value.ref a:=rx
  refine getmeth_ok I1 ea c hm l ?_
  exact PySem.W.callWith_K0 (first := [.ref a]) I1.kIn hm.kp (run_fn (us := [.ref a]) (vs := [.ref a]) F hr hb hd hx I1 (.cons rfl .nil) q)

structure Mk (K:PySem.W.Frag) (C f:Addr):Prop where
  makes:PySem.W.makesIn K C=true
  init:PySem.W.findIn K (.ref C) "__init__" = some (some (.ref f))
  fn:PySem.W.isFn K (.ref f)=true
  kp:PySem.W.keepIn K (.ref C)=true

theorem run_make {pins:List (Addr × Obj)} {σ : St} {H:Hp} {s:Shared} {Q:VK} {us:List Value} {vs:List V} (M:Mk X.K C f) (F:FnOk X.prog X.w X.K X.mg X.base CX k f fd ps sp) (hr:Room (k+1) X.A) (hb:Binds X.K fd ps ds) (hd:Vals dvs ds)
    (hx:Passes CX X E) (I:Inv X pins σ H s) (r:Vals vs us)
    (h:∀ x dx,H x=none→H dx=none→dx≠x→sp (.ref x :: (vs ++ dvs)) (upd (upd H dx (.own x)) x (.ins C dx [])) (fun v H2=>v = .non∧Q (.ref x) H2) E) :
    wpAny (model X.prog X.w) X.A (call (.ref C) us) (EP X pins σ Q) X.xe s:=by
  have hq:=h (s.heap.objs.size+1) s.heap.objs.size (I.hok.fresh (Nat.le_succ _)) (I.hok.fresh (Nat.le_refl _)) (Nat.ne_of_lt (Nat.lt_succ_self _))
  have I2:=Inv.made (C:=C) I
  have r2:Vals (V.ref (s.heap.objs.size+1) :: (vs ++ dvs)) (Value.ref (s.heap.objs.size+1) :: (us ++ ds)) := .cons rfl (r.append hd)
  have hl:(Value.ref (s.heap.objs.size+1) :: us ++ ds).length=ps.length:=by
    have e:=r2.length
    rw [F.len _ _ _ _ hq] at e
    exact e.symm
  refine wpAny_call (make_map (f:=f) I.kIn M.makes M.init (beq_iff_eq.mp M.fn) (codeAny_mono (F.run _ X.stack _ _ ⟨Value.ref (s.heap.objs.size+1) :: us, []⟩ (Value.ref (s.heap.objs.size+1) :: (us ++ ds)) _ _ E (hr.make C us [])
    (I2.env0.make C us []) (hb _ (Value.ref (s.heap.objs.size+1) :: us) I2.kIn hl) r2 hq) fun r s' hq' => ?_))
  cases r with
  | error e=>exact hx pins σ _ _ e s' I2 hq'
  | ok fl =>
    cases fl with
    | ret u =>
      obtain ⟨v,H',I3,rv,ev,q3⟩:=I2.after hq'
      subst ev
      exact ⟨rv,⟨V.ref (s.heap.objs.size+1),H',I3,rfl,q3⟩⟩
    | next=>exact False.elim hq'
    | brk=>exact False.elim hq'
    | cont=>exact False.elim hq'
theorem pe_make (M:Mk X.K C f) (F:FnOk X.prog X.w X.K X.mg X.base CX k f fd ps sp) (hr:Room (k+1) X.A) (hg:Gl X x) (hm:X.mg x=some (.ref C)) (hb:Binds X.K fd ps ds) (hd:Vals dvs ds) (hx:Passes CX X E)
    (ha:PA X (e :: es) t) (hdb:(x == ("__debug__" : Str))=false:=by decide) (he:starEach (e :: es) X.env=(false,eval e X.env) :: starEach es X.env:=by rfl) (hpl:(backTo pos (starEach es X.env)).any (·.1)=false:=by rfl) :
    PE X (.Call (.Name x p) (e :: es) [] pos) (tMake C sp dvs E t):=by
  intro pins s σ H Q I h
  refine wpAny_Call_Name_kw (ld_glob I hg hm ?_ hdb)
  refine PySem.W.callWith_K (h₀ := X.base) I.ok.mod.kin M.kp (thn (ha pos pins s σ H _ I h) fun us s1 ⟨vs,H1,I1,r,q⟩=>⟨I1.kIn,?_⟩) he hpl
  exact run_make M F hr hb hd hx I1 r q
end

section
variable {X:Cx} {CX:CXT} {k:Nat} {f C:Addr} {fd:FuncData} {ps ks:List Str} {sp:Sp} {E:XK} {x m:Str} {p pos apos kpos:Pos} {e o:Expr} {es:List Expr} {kws:List Keyword} {te ta:TE} {t tk:TA} {nm:Option Str}

variable {g:List Value→List Value→List Value} {gV:List V→List V→List V}
end

structure FnScope (N P:List Str) (sc:Scope):Prop where
  kind:sc.kind = .function
  co:sc.isCoroutine=false
  gen:sc.isGenerator=false
  nd:N.Nodup
  pre:N.take P.length=P
  par:∀ x∈P,sc.names.lookup x=some .local∨sc.names.lookup x=some .cell
  nofree:∀ y∈sc.names,y.2 ≠ .free

theorem bindL_out {kindOf:Str→Option NameKind} {x:Str}:∀ {binds:List (Str × Value)} {m:Str→Option Value},(∀ v,(x,v) ∉ binds)→bindL kindOf binds m x=m x
  | [],_,_=>rfl
  | (n,v) :: r,m,h=>by
    unfold bindL
    rw [bindL_out fun w hw=>h w (List.mem_cons_of_mem _ hw)]
    split
    · have:x≠n:=by rintro rfl;exact h v List.mem_cons_self
      simp [this]
    · rfl
theorem bindC_out {kindOf:Str→Option NameKind} {x:Str}:∀ {binds:List (Str × Value)} {m:Str→Option Value},(∀ v,(x,v) ∉ binds)→bindC kindOf binds m x=m x
  | [],_,_=>rfl
  | (n,v) :: r,m,h=>by
    unfold bindC
    rw [bindC_out fun w hw=>h w (List.mem_cons_of_mem _ hw)]
    split
    · rfl
    · have:x≠n:=by rintro rfl;exact h v List.mem_cons_self
      simp [this]
theorem bindL_get {kindOf:Str→Option NameKind} {x:Str} {v:Value}:∀ {P:List Str} {vs:List Value} {i:Nat} {m:Str→Option Value},P.Nodup→P[i]? = some x→vs[i]? = some v→kindOf x=some .local →
    bindL kindOf (P.zip vs) m x=some v
  | [],_,_,_,_,h,_,_=>by simp at h
  | _ :: _, [],_,_,_,_,h,_=>by simp at h
  | p :: P,w :: vs,0,m,nd,h1,h2,hk=>by
    simp at h1 h2;subst h1;subst h2
    show bindL kindOf ((p,w) :: P.zip vs) m p=_
    unfold bindL
    rw [bindL_out fun v hv=>(List.nodup_cons.mp nd).1 (List.of_mem_zip hv).1,if_pos hk]
    simp
  | p :: P,w :: vs,i+1,m,nd,h1,h2,hk=>by
    show bindL kindOf ((p,w) :: P.zip vs) m x=_
    unfold bindL
    exact bindL_get (i:=i) (List.nodup_cons.mp nd).2 (by simpa using h1) (by simpa using h2) hk
theorem bindC_get {kindOf:Str→Option NameKind} {x:Str} {v:Value}:∀ {P:List Str} {vs:List Value} {i:Nat} {m:Str→Option Value},P.Nodup→P[i]? = some x→vs[i]? = some v→kindOf x≠some .local →
    bindC kindOf (P.zip vs) m x=some v
  | [],_,_,_,_,h,_,_=>by simp at h
  | _ :: _, [],_,_,_,_,h,_=>by simp at h
  | p :: P,w :: vs,0,m,nd,h1,h2,hk=>by
    simp at h1 h2;subst h1;subst h2
    show bindC kindOf ((p,w) :: P.zip vs) m p=_
    unfold bindC
    rw [bindC_out fun v hv=>(List.nodup_cons.mp nd).1 (List.of_mem_zip hv).1,if_neg hk]
    simp
  | p :: P,w :: vs,i+1,m,nd,h1,h2,hk=>by
    show bindC kindOf ((p,w) :: P.zip vs) m x=_
    unfold bindC
    exact bindC_get (i:=i) (List.nodup_cons.mp nd).2 (by simpa using h1) (by simpa using h2) hk

noncomputable def start (N:List Str) (vs:List V):St:=vs.map some ++ List.replicate (N.length - vs.length) none

noncomputable def cxOf (CX:CXT) (P:Program) (w:World) (K:PySem.W.Frag) (mg:Str→Option Value) (base:Heap) (N:List Str) (qual:Str) (scope:Scope) (f:Addr) (cd:Value) (A:Around) (outer:List Env) (s:Shared) (H:Hp) (E:XK):Cx where
  prog:=P
  w:=w
  K:=K
  mg:=mg
  base:=base
  A:=A.deeper (envOfC qual scope s.heap.objs.size f cd)
  N:=N
  s₀ := s
  H₀ := H
  env:=envOfC qual scope s.heap.objs.size f cd
  outer:=outer
  stack:=envOfC qual scope s.heap.objs.size f cd :: outer
  ex := []
  calm:=true
  fn:=fun _=>true
  pn := []
  xe:=fun e s'=>wpAny (model P w) (A.deeper (envOfC qual scope s.heap.objs.size f cd)) (leaving (envOfC qual scope s.heap.objs.size f cd) e) (fun _ s''=>CX outer H s E e s'') (fun e' s''=>CX outer H s E e' s'') s'

theorem cell_has {sc:Scope} {n:Nat} {x:Str} (h:sc.names.lookup x=some .cell):∃ c,(cellsFrom n sc.names []).lookup x=some c:=by
  have q:=PySem.W.cellsFrom_some sc.names n [] (.inl h)
  exact Option.isSome_iff_exists.mp q

theorem inv_start {CX:CXT} {P:Program} {w:World} {K:PySem.W.Frag} {mg:Str→Option Value} {base:Heap} {N ps:List Str} {qual:Str} {scope:Scope} {f:Addr} {cd:Value} {A:Around} {outer:List Env} {s s1:Shared} {H:Hp} {E:XK} {us:List Value} {vs:List V}
    (S:FnScope N ps scope) (hd:A.handled=none) (e0:Env0 P w K mg base A outer s H) (hl:vs.length=ps.length) (r:Vals vs us)
    (x:InCallC s s.heap.objs.size (bindL (envOfC qual scope s.heap.objs.size f cd).kindOf (ps.zip us) fun _=>none) (cellsFrom (s.heap.objs.size+1) scope.names []) (bindC (envOfC qual scope s.heap.objs.size f cd).kindOf (ps.zip us) fun _=>none) s1) :
    Inv (cxOf CX P w K mg base N qual scope f cd A outer s H E) [] (start N vs) H s1:=by
  have hpl:ps.length≤N.length:=by have:=congrArg List.length S.pre;rw [List.length_take] at this;omega
  obtain ⟨h1,tk,rfl,hk⟩:=x.done
  have noA:∀ b:Addr,b ∉ (cxOf CX P w K mg base N qual scope f cd A outer s H E).ex:=fun b z=>absurd (show b∈([]:List Addr) from z) (by simp)
  refine ⟨⟨e0.mod,S.kind,rfl,rfl,Nat.le_refl _,fun y z c h1 h2 => ?_,fun y hy => ?_,fun y c _ h => ?_,fun _=>hd,Around.frames_deeper e0.frames,.inr ⟨rfl,rfl⟩,fun b z=>absurd z (noA b),e0.bs,e0.bsz,fun b _ _=>noA b,fun b z=>absurd z (noA b),e0.funs,e0.frf⟩,
    rfl,e0.bare,Un.kept hk,⟨_,x.toInCall.ns,fun i y v h1 h2 h3 => ?_⟩,fun y c h=>⟨_,x.cell y c h⟩,e0.hok.fresh (Nat.le_refl _),fun y c h => ?_,fun p hp=>absurd (show p∈([]:List (Addr × Obj)) from hp) (by simp),e0.hok.kept hk,?_⟩
  · exact name_of_addr x.apart (PySem.mem_of_lookup h1) (PySem.mem_of_lookup h2)
  · have hy:scope.names.lookup y=some .cell∨scope.names.lookup y=some .free:=hy
    rcases hy with hy | hy
    · exact cell_has hy
    · exact absurd rfl (S.nofree _ (PySem.mem_of_lookup hy))
  · exact Nat.le_of_lt (x.above y c (PySem.mem_of_lookup h))
  · have hi:i < vs.length:=by
      unfold start at h2
      by_cases hi:i < vs.length
      · exact hi
      · rw [List.getElem?_append_right (by simpa using hi)] at h2
        rw [List.getElem?_replicate] at h2
        split at h2 <;> cases h2
    have ha:vs[i]? = some v:=by
      unfold start at h2
      rw [List.getElem?_append_left (by simpa using hi),List.getElem?_map] at h2
      cases e:vs[i]? with
      | none=>rw [e] at h2;cases h2
      | some a=>rw [e] at h2;cases h2;rfl
    obtain ⟨u,hu,rv⟩:=r.get ha
    have hp:ps[i]? = some y:=by
      rw [← S.pre,List.getElem?_take_of_lt (by omega)];exact h1
    have ndP:ps.Nodup:=by rw [← S.pre];exact S.nd.sublist (List.take_sublist _ _)
    refine ⟨u,rv,?_⟩
    rcases S.par y (List.mem_of_getElem? hp) with k | k
    · exact .inl ⟨k,bindL_get ndP hp hu k⟩
    · obtain ⟨c,e⟩:=cell_has (n:=s.heap.objs.size+1) k
      refine .inr ⟨.inl k,c,e,?_⟩
      have q:=x.cell y c e
      rw [bindC_get ndP hp hu (by show scope.names.lookup y≠_;rw [k];decide)] at q
      exact q
  · exact e0.hok.fresh (Nat.le_of_lt (x.above y c (PySem.mem_of_lookup h)))
  · unfold start
    show _=N.length
    rw [List.length_append,List.length_map,List.length_replicate]
    omega

theorem fn_of {CX:CXT} {P:Program} {w:World} {K:PySem.W.Frag} {mg:Str→Option Value} {base:Heap} {k:Nat} {f:Addr} {name qual:Str} {params:Arguments} {body:List Stmt} {scope:Scope} {dV kV doc pm cdv ct oc:Value} {an od:Option Addr}
    {osl:Array (Option Value)} {N ps:List Str} {sp:Sp} (lk:K.lookup f=some ⟨oc,od,.func (PySem.W.fnOf name qual params body scope dV kV doc pm an cdv ct),osl⟩) (hcd:PySem.W.codeIn K cdv qual=true) (S:FnScope N ps scope)
    (len:∀ vs H Q E,sp vs H Q E→vs.length=ps.length)
    (hbody:∀ (A:Around) (outer:List Env) (s:Shared) (H:Hp) (vs:List V) (Q:VK) (E:XK),Room k (A.deeper (envOfC qual scope s.heap.objs.size f cdv))→sp vs H Q E →
      ∃ t,PSs (cxOf CX P w K mg base N qual scope f cdv A outer s H E) body t∧t { nx:=fun _ H'=>Q .non H',rt:=Q } (start N vs) H) :
    FnOk P w K mg base CX (k+1) f (PySem.W.fnOf name qual params body scope dV kV doc pm an cdv ct) ps sp:=by
  refine ⟨len,fun A outer s H args us vs Q E hr e0 hb r hsp => ?_⟩
  have hl:=len _ _ _ _ hsp
  have KX:K.In s.heap:=e0.mod.kin.keeps fun b o e=>(e0.bs b o e).1
  have lim:s.heap.NoLimit:=e0.mod.nolimit.keeps fun b o e=>(e0.bs b o e).1
  have hkind:∀ y∈ps.zip us,scope.names.lookup y.1=some .local∨(scope.names.lookup y.1=some .cell∧((cellsFrom (s.heap.objs.size+1) scope.names []).lookup y.1).isSome=true):=fun ⟨n,v⟩ hy=>by
    rcases S.par n (List.of_mem_zip hy).1 with q | q
    · exact .inl q
    · exact .inr ⟨q,PySem.W.cellsFrom_some _ _ _ (.inl q)⟩
  refine codeAny_call_function hr.depth (KX _ _ lk) rfl S.co S.gen rfl (PySem.W.codeRec_of KX hcd) (hb _ _ _ _ ?_)
  refine wpAny_newFunctionEnv_cells S.kind hkind fun env he s1 x => ?_
  subst he
  refine ⟨lim.keeps x.toInCall.keep,codeAny_func ?_⟩
  obtain ⟨t,ht,hq⟩:=hbody A outer s H vs Q E (hr.deeper _) hsp
  have I:Inv (cxOf CX P w K mg base N qual scope f cdv A outer s H E) [] (start N vs) H s1:=inv_start S hr.hd e0 hl r x
  refine wpAny_mono (ht [] s1 (start N vs) H _ I hq) (fun fl s' hs => ?_) fun e s' hs=>hs
  have fin:∀ {σ':St} {H':Hp} {v:V} {u:Value},Inv (cxOf CX P w K mg base N qual scope f cdv A outer s H E) [] σ' H' s'→RelV v u→Q v H'→CE outer P w H s Q u s' :=
    fun {σ' H' v u} J rv q=>⟨v,H',J.os,J.bare,J.base,J.hok,rv,q⟩
  cases fl with
  | ret u =>
    obtain ⟨v, σ',H',J,rv,q⟩:=hs
    exact fin J rv q
  | next =>
    obtain ⟨σ',H',J,q⟩:=hs
    exact fin (v:=V.non) (u:=Value.none) J rfl q
  | brk =>
    obtain ⟨_,_,_,q⟩:=hs
    exact False.elim q
  | cont =>
    obtain ⟨_,_,_,q⟩:=hs
    exact False.elim q
end L2

namespace L2
open PySem PySem.Spec PyProof.Rows
section
variable {X:Cx} {x:Str} {p pos:Pos} {e:Expr} {es:List Expr} {t:TA} {id T:String} {r:List V→Hp→VK→Prop}

noncomputable def tCB (r:List V→Hp→VK→Prop) (t:TA):TE:=fun σ H Q=>t σ H fun vs H1=>r vs H1 Q
theorem pe_callB (hc:CallR X (.builtin id) r) (hg:Gl X x) (hm:X.mg x=none) (hv:bootBuiltins x=some (.builtin id)) (ha:PA X (e :: es) t) (hn:x ≠ "__name__" := by decide) (hdb:(x == ("__debug__" : Str))=false:=by decide)
    (he:starEach (e :: es) X.env=(false,eval e X.env) :: starEach es X.env:=by rfl) (hpl:(backTo pos (starEach es X.env)).any (·.1)=false:=by rfl):PE X (.Call (.Name x p) (e :: es) [] pos) (tCB r t):=by
  intro pins s σ H Q I h
  refine wpAny_Call_Name_kw (ld_blt I hg hm hv ?_ hn hdb)
  exact PyProof.Rows.callWith_builtin1 (thn (ha pos pins s σ H _ I h) fun us s1 ⟨vs,H1,I1,r1,q1⟩=>hc pins s1 σ H1 vs us Q I1 r1 q1) he hpl
theorem pe_callTy (hc:CallR X (.type T) r) (hg:Gl X x) (hm:X.mg x=none) (hv:bootBuiltins x=some (.type T)) (ha:PA X (e :: es) t) (hn:x ≠ "__name__" := by decide) (hdb:(x == ("__debug__" : Str))=false:=by decide)
    (he:starEach (e :: es) X.env=(false,eval e X.env) :: starEach es X.env:=by rfl) (hpl:(backTo pos (starEach es X.env)).any (·.1)=false:=by rfl):PE X (.Call (.Name x p) (e :: es) [] pos) (tCB r t):=by
  intro pins s σ H Q I h
  refine wpAny_Call_Name_kw (ld_blt I hg hm hv ?_ hn hdb)
  exact PyProof.Rows.callWith_type1 (thn (ha pos pins s σ H _ I h) fun us s1 ⟨vs,H1,I1,r1,q1⟩=>hc pins s1 σ H1 vs us Q I1 r1 q1) he hpl
end
end L2

namespace HT
open PySem PyProof.Rows

noncomputable def lexLt:List Int→List Int→Bool
  | [], []=>false
  | [],_ :: _=>true
  | _ :: _, []=>false
  | x :: xs,y :: ys=>if x=y then lexLt xs ys else decide (x < y)
theorem lexLt_cons (x y:Int) (xs ys:List Int):lexLt (x :: xs) (y :: ys)=if x=y then lexLt xs ys else decide (x < y):=rfl
theorem lexLt_nil_nil:lexLt [] []=false:=rfl
theorem lexLt_nil_cons (y:Int) (ys:List Int):lexLt [] (y :: ys)=true:=rfl
theorem lexLt_cons_nil (x:Int) (xs:List Int):lexLt (x :: xs) []=false:=rfl

theorem eqAt_int (A:Around) (s:Shared) (a:Int) (t:Tok) (c:Int) (u:Tok):∃ e,SeqAt.EqAt A s (.int a t) (.int c u) e∧(e=true↔a=c) :=
  ⟨(a == c),SeqAt.EqAt.int_int a t c u,by simp⟩
theorem rcLt_int (A:Around) (s:Shared) (a:Int) (t:Tok) (c:Int) (u:Tok) (prog:Program) (w:World) (E:Value→Shared→Prop) (Q:Value→Shared→Prop) (h:Q (.bool (decide (a < c))) s) :
    wpAny (model prog w) A (richCompare .Lt (.int a t) (.int c u)) Q E s :=
  (PyProof.Rows.lt_int h:wpAny (model prog w) A (compareOp .Lt (.int a t) (.int c u)) Q E s)

section
open PySem.SeqAt
open PySem.AutoSeq1 (wpAny_loadPart')
open PySem.MeetsSeq PySem.MeetsSeq2 PySem.MeetsSeq3

theorem tuple_lt_ints (l b:Addr) (items items2:Array Value) (n n2:Nat) (dd dd2:Option Addr) (sl sl2:Array (Option Value)) (ns ms:List Int) (hi:IntsAre items.toList ns) (hj:IntsAre items2.toList ms) :
    Meets (Builtin.«tuple.__lt__» ⟨[.ref l,.ref b], []⟩)
      (fun _ R s=>s.heap.get? l=some { cls := .type "tuple",dict:=dd,data := .seq items n,slots:=sl }∧s.heap.get? b=some { cls := .type "tuple",dict:=dd2,data := .seq items2 n2,slots:=sl2 } ∧
        R (.ok (.ret (.bool (lexLt ns ms)))) s) :=
  .of_wp fun prog w A R s h=>by
    obtain ⟨hp,g,d,tk,os⟩:=s;obtain ⟨hl,hb,h⟩:=h
    have f2:=AutoSeq1.sub_tuple_tuple
    have z1:items.size=ns.length:=by rw [← hi.length];simp
    have z2:items2.size=ms.length:=by rw [← hj.length];simp
    wp_walk using wpAny_loadPart' hl,wpAny_loadPart' hb,wpAny_forIn_list _ (fun rest b s'=>b.1=none∧s'=⟨hp,g,d,tk,os⟩∧∃ (vs ws:List Value) (ns' ms':List Int),rest=vs.zip ws ∧
      IntsAre vs ns'∧IntsAre ws ms'∧ns'.length+items2.size=ms'.length+items.size∧R (.ok (.ret (.bool (lexLt ns' ms')))) ⟨hp,g,d,tk,os⟩) _
    case turn =>
      rintro ⟨y,x⟩ rest b s' ⟨hb',rfl,vs,ws,ns',ms',hz,hvi,hwi,hlen,hR⟩
      cases hvi with
      | nil=>rw [List.zip_nil_left] at hz;cases hz
      | cons a t hvi' =>
        cases hwi with
        | nil=>rw [List.zip_nil_right] at hz;cases hz
        | cons c u hwi' =>
          rw [List.zip_cons_cons] at hz
          injection hz with hyx hrest
          injection hyx with hy hx
          subst hy hx
          rw [lexLt_cons] at hR
          simp only [List.length_cons] at hlen
          obtain ⟨e,he,hiff⟩:=eqAt_int A.in1 ⟨hp,g,d,tk,os⟩ a t c u
          refine wpAny_bind (he prog w _ _ ?_)
          cases e with
          | true =>
            rw [if_pos (hiff.mp rfl)] at hR
            wp_walk
            exact ⟨rfl,rfl,_,_,_,_,hrest,hvi',hwi',by omega,hR⟩
          | false =>
            rw [if_neg (fun q=>absurd (hiff.mpr q) Bool.false_ne_true)] at hR
            have hri:=rcLt_int A.in1 ⟨hp,g,d,tk,os⟩ a t c u prog w
            wp_walk using hri
            exact ⟨_,rfl,by simpa using hR⟩
    case fin =>
      rintro ⟨b1,b2⟩ s' ⟨hb',rfl,vs,ws,ns',ms',hz,hvi,hwi,hlen,hR⟩
      simp only at hb'
      subst hb'
      have hv:lexLt ns' ms'=decide (items.size < items2.size):=by
        cases hvi with
        | nil =>
          cases hwi with
          | nil =>
            simp only [List.length_nil] at hlen
            rw [lexLt_nil_nil]
            exact (decide_eq_false (by omega)).symm
          | cons c u hw =>
            simp only [List.length_nil,List.length_cons] at hlen
            rw [lexLt_nil_cons]
            exact (decide_eq_true (by omega)).symm
        | cons a t hv =>
          cases hwi with
          | nil =>
            simp only [List.length_nil,List.length_cons] at hlen
            rw [lexLt_cons_nil]
            exact (decide_eq_false (by omega)).symm
          | cons c u hw =>
            rw [List.zip_cons_cons] at hz
            cases hz
      rw [hv] at hR
      wp_walk
      exact ⟨_,rfl,by simpa [Builtin.Tuple.tupleCompareSizes] using hR⟩
    case h =>
      exact ⟨rfl,rfl,items.toList,items2.toList,ns,ms,rfl,hi,hj,by omega,h⟩
end

section
variable {prog:Program} {w:World} {A:Around} {E:Value→Shared→Prop} {s:Shared}

theorem lt_tupInts {l b:Addr} {items items2:Array Value} {ns ms:List Int} {Q:Value→Shared→Prop} (hl:IsTup s.heap l items) (hb:IsTup s.heap b items2) (hi:IntsAre items.toList ns) (hj:IntsAre items2.toList ms)
    (hu:A.units < cLine) (h:Q (.bool (lexLt ns ms)) s):wpAny (model prog w) A (compareOp .Lt (.ref l) (.ref b)) Q E s:=by
  obtain ⟨⟨cls,dd,data,sl⟩,ho,hc,n,hd⟩:=id hl
  obtain ⟨⟨cls2,dd2,data2,sl2⟩,ho2,hc2,n2,hd2⟩:=id hb
  simp only at hc hd hc2 hd2
  subst hc hd hc2 hd2
  exact richCompare_meets_room (op := .Lt) ⟨_,ho,rfl⟩ ⟨_,ho2,rfl⟩ PySem.F.slot_tuple_lt PySem.F.entry_tuple_lt (PySem.F.args_tuple_lt_2 _ _) (tuple_lt_ints l b items items2 n n2 dd dd2 sl sl2 ns ms hi hj)
    ⟨ho,ho2,show Value.bool (lexLt ns ms)≠Value.notImplemented∧Q (.bool (lexLt ns ms)) s from ⟨(fun x=>nomatch x),h⟩⟩ hu


noncomputable def sIx (n d:Nat):Option Int→Nat
  | none=>d
  | some v=>if v < 0 then (v+(n:Int)).toNat else min v.toNat n
theorem sIx_none (n d:Nat):sIx n d none=d:=rfl
theorem sIx_nat (n d k:Nat):sIx n d (some (k:Int))=min k n:=by
  show (if (k:Int) < 0 then ((k:Int)+(n:Int)).toNat else min (k:Int).toNat n)=min k n
  rw [if_neg (by omega),Int.toNat_natCast]
theorem sIx_le (n d:Nat) (hd:d≤n) (o:Option Int):sIx n d o≤n:=by
  cases o with
  | none=>exact hd
  | some v =>
    show (if v < 0 then (v+(n:Int)).toNat else min v.toNat n)≤n
    by_cases hv:v < 0
    · rw [if_pos hv];omega
    · rw [if_neg hv];exact Nat.min_le_right _ _

end
end HT

namespace L2
open PySem PySem.Spec PyProof.Rows

noncomputable abbrev TO:=St→Hp→(Option Int→Hp→Prop)→Prop
noncomputable def PO (X:Cx) (e:Option Expr) (t:TO):Prop :=
  ∀ (pins:List (Addr × Obj)) (s:Shared) (σ : St) (H:Hp) (Q:Option Int→Hp→Prop),Inv X pins σ H s→t σ H Q →
    wpAny (model X.prog X.w) X.A (evalPart e X.env) (fun u s'=>∃ o H',Inv X pins σ H' s'∧IsPart u o∧Q o H') X.xe s
noncomputable def tNoPart:TO:=fun _ H Q=>Q none H
inductive J_tPart (Q:Option Int→Hp→Prop) (x:V) (H1:Hp):Prop
  | mk:∀ i,(x = .int i)→(Q (some i) H1)→J_tPart Q x H1
noncomputable def tPart (t:TE):TO:=fun σ H Q=>t σ H fun x H1=>J_tPart Q x H1

theorem intsAre_of {ns:List Int}:∀ {us:List Value},Vals (ns.map V.int) us→IntsAre us ns:=by
  induction ns with
  | nil=>intro us r;rw [List.map_nil] at r;cases r;exact .nil
  | cons n ns ih =>
    intro us r
    rw [List.map_cons] at r
    cases r with
    | cons r1 r2 =>
      obtain ⟨t,e⟩:=r1
      subst e
      exact .cons n t (ih r2)

section
variable {X:Cx} {e:Expr} {te:TE} {lo hi:Option Expr} {tl th:TO} {pos p2:Pos}

theorem po_none:PO X none tNoPart:=by
  intro pins s σ H Q I h
  rw [evalPart_none]
  exact wpAny_pure ⟨none,H,I,.none,h⟩
theorem po_some (h:PE X e te):PO X (some e) (tPart te):=by
  intro pins s σ H Q I hw
  rw [evalPart_some]
  refine thn (h pins s σ H _ I hw) fun u s1 ⟨x,H1,I1,r1,q1⟩ => ?_
  obtain ⟨i,rfl,q⟩:=q1
  obtain ⟨t,rfl⟩:=r1
  exact ⟨some i,H1,I1,.int i t,q⟩

noncomputable def SlR (X:Cx) (r:V→Option Int→Option Int→Hp→VK→Prop):Prop :=
  ∀ (pins:List (Addr × Obj)) (s:Shared) (σ : St) (H:Hp) (x:V) (v vl vu:Value) (lo hi:Option Int) (sl:Addr) (Q:VK),Inv X pins σ H s→RelV x v→s.heap.IsSliceOf sl vl vu .none→IsPart vl lo→IsPart vu hi→r x lo hi H Q →
    ∃ T id,typeLookup (.type T) "__getitem__" = pure (some (.builtin id))∧s.TypeIs v T∧wpAny (model X.prog X.w) X.A (getItem v (.ref sl)) (EP X pins σ Q) X.xe s
noncomputable def tSl (r:V→Option Int→Option Int→Hp→VK→Prop) (te:TE) (tl th:TO):TE:=fun σ H Q=>te σ H fun x H1=>tl σ H1 fun l H2=>th σ H2 fun u H3=>r x l u H3 Q
theorem pe_slice {r:V→Option Int→Option Int→Hp→VK→Prop} (hr:SlR X r) (he:PE X e te) (hl:PO X lo tl) (hu:PO X hi th):PE X (.Subscript e (.Slice lo hi none p2) pos) (tSl r te tl th):=by
  intro pins s σ H Q I h
  refine Subscript_ (thn (he pins s σ H _ I h) fun v s1 ⟨x,H1,I1,r1,q1⟩ => ?_)
  refine wpAny_Slice (thn (hl pins s1 σ H1 _ I1 q1) fun vl s2 ⟨l,H2,I2,pl,q2⟩=>thn (hu pins s2 σ H2 _ I2 q2) fun vu s3 ⟨u,H3,I3,pu,q3⟩ => ?_)
  rw [evalPart_none]
  refine wpAny_pure ?_
  have I4:Inv X pins σ H3 { s3 with heap:=s3.heap.push { cls := .type "slice",data := .fields #[vl,vu,.none] } }:=I3.kept (t':=s3.toks) fun b ob q=>Heap.get?_push_of_some _ q
  obtain ⟨T,id,hT,ht,hg⟩:=hr pins { s3 with heap:=s3.heap.push { cls := .type "slice",data := .fields #[vl,vu,.none] } } σ H3 x v vl vu l u s3.heap.objs.size Q I4 r1 (Heap.IsSliceOf.new ..) pl pu q3
  show wpAny (model X.prog X.w) X.A (subscriptTail e (.Slice lo hi none p2) v (.ref s3.heap.objs.size)) (EP X pins σ Q) X.xe { s3 with heap:=s3.heap.push { cls := .type "slice",data := .fields #[vl,vu,.none] } }
  exact tail_any (ops := [.ref s3.heap.objs.size,v]) ht hT hg (by with_unfolding_all rfl)

noncomputable def cutV (xs:List V) (lo hi:Option Int):List V:=(xs.drop (HT.sIx xs.length 0 lo)).take (HT.sIx xs.length xs.length hi - HT.sIx xs.length 0 lo)
theorem cutV_length (xs:List V) (lo hi:Option Int):(cutV xs lo hi).length≤xs.length:=by
  unfold cutV
  rw [List.length_take,List.length_drop]
  omega

end
end L2

namespace L2
open PySem PySem.Spec PyProof.Rows

noncomputable def ixN (n:Nat) (i:Int):Option Nat:=if 0≤i then (if i < n then some i.toNat else none) else if -(n:Int)≤i then some (i+n).toNat else none
noncomputable def atI {α : Type} (xs:List α) (i:Int):Option α := (ixN xs.length i).bind fun j=>xs[j]?
theorem ixN_seq {n:Nat} {i:Int} {j:Nat} (h:ixN n i=some j):seqIndex? i n=some j∧j < n ∧ -(n:Int)≤i∧i < n:=by
  unfold ixN at h
  by_cases h0:0≤i
  · rw [if_pos h0] at h
    by_cases h1:i < n
    · rw [if_pos h1] at h
      have e:i.toNat=j:=Option.some.inj h
      exact ⟨by rw [seqIndex_of h0 h1,e],by omega,by omega,h1⟩
    · rw [if_neg h1] at h;cases h
  · rw [if_neg h0] at h
    by_cases h1 : -(n:Int)≤i
    · rw [if_pos h1] at h
      have e:(i+n).toNat=j:=Option.some.inj h
      exact ⟨by rw [seqIndex_neg (by omega) h1,e],by omega,h1,by omega⟩
    · rw [if_neg h1] at h;cases h
theorem atI_get {α : Type} {xs:List α} {i:Int} {v : α} (h:atI xs i=some v):∃ j,seqIndex? i xs.length=some j∧xs[j]? = some v∧j < xs.length ∧ -(xs.length:Int)≤i∧i < xs.length:=by
  unfold atI at h
  cases e:ixN xs.length i with
  | none=>rw [e] at h;cases h
  | some j =>
    rw [e] at h
    obtain ⟨h1,h2,h3,h4⟩:=ixN_seq e
    exact ⟨j,h1,h,h2,h3,h4⟩
theorem atI_nat {α : Type} {xs:List α} {j:Nat} {v : α} (h:xs[j]? = some v):atI xs (j:Int)=some v:=by
  have hj:j < xs.length:=(List.getElem?_eq_some_iff.mp h).1
  have e:ixN xs.length (j:Int)=some j:=by
    unfold ixN
    rw [if_pos (by omega),if_pos (by omega)];simp
  unfold atI;rw [e];exact h

noncomputable def PlainIx (b:Expr):Prop := ∀ o i,subscripted b false o i=operate [o,i] (getItem o i)
noncomputable def IxR (X:Cx) (r:R2):Prop :=
  ∀ (value slice:Expr) (pins:List (Addr × Obj)) (s:Shared) (σ : St) (H:Hp) (x y:V) (v u:Value) (Q:VK),Inv X pins σ H s→RelV x v→RelV y u→r x y H Q →
    subscripted slice false v u=operate [v,u] (getItem v u)→wpAny (model X.prog X.w) X.A (subscriptTail value slice v u) (EP X pins σ Q) X.xe s
noncomputable def MtR (X:Cx) (id:String) (r:V→List V→Hp→VK→Prop):Prop :=
  ∀ (pins:List (Addr × Obj)) (s:Shared) (σ : St) (H:Hp) (x:V) (xs:List V) (v:Value) (us:List Value) (Q:VK),Inv X pins σ H s→RelV x v→Vals xs us→r x xs H Q →
    wpAny (model X.prog X.w) X.A (call (.builtin id) (v :: us)) (EP X pins σ Q) X.xe s
section
variable {X:Cx} {a b:Expr} {ta tb:TE} {pos:Pos}
theorem pe_ix {r:R2} (hr:IxR X r) (ha:PE X a ta) (hb:PE X b tb) (hs:PlainIx b):PE X (.Subscript a b pos) (tOp r ta tb):=by
  intro pins s σ H Q I h
  exact Subscript_ (binT ha hb I h fun v u s2 x y H2 I2 rx ry q=>hr a b pins s2 σ H2 x y v u Q I2 rx ry q (hs _ _))

inductive RIxL (K:PySem.W.Frag) (x y:V) (H:Hp) (Q:VK):Prop
  | mk (p:Addr) (xs:List V) (i:Int) (v:V) (hx:x = .ref p) (hy:y = .int i) (hS:SqL K H p xs) (he:atI xs i=some v) (q:Q v H):RIxL K x y H Q
noncomputable def rIxL (K:PySem.W.Frag):R2:=fun x y H Q=>RIxL K x y H Q
inductive RIxT (K:PySem.W.Frag) (x y:V) (H:Hp) (Q:VK):Prop
  | mk (p:Addr) (xs:List V) (i:Int) (v:V) (hx:x = .ref p) (hy:y = .int i) (hS:SqT K H p xs) (he:atI xs i=some v) (q:Q v H):RIxT K x y H Q
noncomputable def rIxT (K:PySem.W.Frag):R2:=fun x y H Q=>RIxT K x y H Q
inductive J_rIxS (x:V) (y:V) (H:Hp) (Q:VK):Prop
  | mk:∀ z i c,(x = .str z)→(y = .int i)→(z.length≤sizeLine)→(atI z.cps.toList i=some c)→(Q (.str ⟨#[c]⟩) H)→J_rIxS x y H Q
noncomputable def rIxS:R2:=fun x y H Q=>J_rIxS x y H Q
theorem ix_list:IxR X (rIxL X.K):=by
  intro value slice pins s σ H x y v u Q I rx ry h hs
  obtain ⟨p,xs,i,z,rfl,rfl,hq,he,q⟩:=h
  cases rx
  obtain ⟨t,rfl⟩:=ry
  obtain ⟨its,r,pl,hz⟩:=I.list hq
  obtain ⟨j,h1,h2,h3,h4,h5⟩:=atI_get he
  obtain ⟨w,ew,rw'⟩:=r.get h2
  have hl:=r.length
  have hn:=line63
  have fin:EP X pins σ Q w s:=⟨z,H,I,rw',q⟩
  by_cases h0:0≤i
  · have hj:i.toNat=j:=by
      rw [seqIndex_of h0 h5] at h1
      exact Option.some.inj h1
    exact item_listR pl.isList h0 (by omega) (by rw [hj];simpa using ew) fin hs
  · have hj:(i+(its.toArray.size:Int)).toNat=j:=by
      rw [seqIndex_neg (by omega) h4] at h1
      rw [List.size_toArray, ← hl]
      exact Option.some.inj h1
    exact subscriptTail_builtinR (x:=w) pl.isList.typeIs slot_list_getitem.lookup
      (wpAny_getItem_list_neg (Q:=fun r s'=>r=w∧EP X pins σ Q r s') pl.isList (by omega) (by rw [List.size_toArray] <;> omega) (by omega) (by rw [hj];simpa using ew) ⟨rfl,fin⟩) hs
theorem ix_tup:IxR X (rIxT X.K):=by
  intro value slice pins s σ H x y v u Q I rx ry h hs
  obtain ⟨p,xs,i,z,rfl,rfl,hq,he,q⟩:=h
  cases rx
  obtain ⟨t,rfl⟩:=ry
  obtain ⟨its,r,pl,hz⟩:=I.tuple hq
  obtain ⟨j,h1,h2,h3,h4,h5⟩:=atI_get he
  obtain ⟨w,ew,rw'⟩:=r.get h2
  have hl:=r.length
  have hn:=line63
  have fin:EP X pins σ Q w s:=⟨z,H,I,rw',q⟩
  exact subscriptTail_builtinR (x:=w) pl.typeIs slot_tuple_getitem.lookup
    (getItem_tuple (j:=j) (Q:=fun r s'=>r=w∧EP X pins σ Q r s') pl (by omega) (by omega) (by rw [List.size_toArray, ← hl];exact h1) (by simpa using ew) ⟨rfl,fin⟩) hs
theorem ix_str:IxR X rIxS:=by
  intro value slice pins s σ H x y v u Q I rx ry h hs
  obtain ⟨z,i,c,rfl,rfl,hz,he,q⟩:=h
  obtain ⟨t,rfl⟩:=rx
  obtain ⟨t',rfl⟩:=ry
  obtain ⟨j,h1,h2,h3,h4,h5⟩:=atI_get he
  have hl:z.cps.toList.length=z.length:=by simp [Str.length]
  rw [hl] at h1 h4 h5
  have hn:=line63
  exact tail_any (typeIs_str s z t) slot_str_getitem.lookup (getItem_str (c:=c) (by
    have e1:decide (i < -(2 ^ 63:Int))=false:=decide_eq_false (by omega)
    have e2:decide (i ≥ 2 ^ 63)=false:=decide_eq_false (by omega)
    rw [e1,e2,Bool.or_false]) (by rw [h1];simpa using h2) ⟨.str ⟨#[c]⟩,H,I.tok _,⟨_,rfl⟩,q⟩) hs

theorem mapSeq_set (its:List Value) (n j:Nat) (u:Value):Obj.mapSeq (·.setIfInBounds j u) { cls := .type "list",data := .seq its.toArray n }={ cls := .type "list",data := .seq (its.set j u).toArray n }:=by
  simp [Obj.mapSeq]
theorem Inv.lst {pins:List (Addr × Obj)} {σ : St} {H:Hp} {s:Shared} {p:Addr} {xs:List V} (I:Inv X pins σ H s) (h:H p=some (.lst xs)) :
    ∃ (its:List Value) (n:Nat),Vals xs its∧s.heap.get? p=some { cls := .type "list",data := .seq its.toArray n }∧xs.length≤sizeLine:=by
  obtain ⟨z,its,n,r,e⟩:=I.hok p _ h
  exact ⟨its,n,r,e,z⟩
theorem Inv.lstUpd {pins:List (Addr × Obj)} {σ : St} {H:Hp} {s:Shared} {p:Addr} {xs ys:List V} {its its':List Value} {n n':Nat} {f:Obj→Obj} (I:Inv X pins σ H s) (h:H p=some (.lst xs))
    (ho:s.heap.get? p=some { cls := .type "list",data := .seq its.toArray n }) (hf:f { cls := .type "list",data := .seq its.toArray n }={ cls := .type "list",data := .seq its'.toArray n' }) (r:Vals ys its') (hz:ys.length≤sizeLine) (t:Nat) :
    Inv X pins σ (upd H p (.lst ys)) { s with heap:=s.heap.update p f,toks:=t }:=by
  have e:(s.heap.update p f).get? p=some { cls := .type "list",data := .seq its'.toArray n' }:=by
    rw [Heap.get?_update_self f ho (by rw [hf] <;> rfl),hf]
  refine I.write (x:=p) (e:=p) (by rw [h];trivial) (.inl rfl) (fun b u hb q=>(Heap.get?_update_other _ _ (Ne.symm hb)).trans q) ⟨_,e⟩ ?_
  exact ⟨hz,its',n',r,e⟩
inductive J_rSetL (o:V) (i:V) (v:V) (H:Hp) (Q:Hp→Prop):Prop
  | mk:∀ p xs k j,(o = .ref p)→(i = .int k)→(H p=some (.lst xs))→(ixN xs.length k=some j)→(Q (upd H p (.lst (xs.set j v))))→J_rSetL o i v H Q
noncomputable def rSetL:V→V→V→Hp→(Hp→Prop)→Prop:=fun o i v H Q=>J_rSetL o i v H Q
theorem set_list:PSet X rSetL:=by
  intro pins s σ H o i v ov iv u Q I ro ri rv h
  obtain ⟨p,xs,k,j,rfl,rfl,hp,hj,q⟩:=h
  cases ro
  obtain ⟨t,rfl⟩:=ri
  obtain ⟨its,n,r,ho,hz⟩:=I.lst hp
  obtain ⟨h1,h2,h3,h4⟩:=ixN_seq hj
  have hl:=r.length
  have hn:=line63
  have I':Inv X pins σ (upd H p (.lst (xs.set j v))) { s with heap:=s.heap.update p (Obj.mapSeq (·.setIfInBounds j u)) } :=
    I.lstUpd hp ho (mapSeq_set its n j u) (r.set rv j) (by rw [List.length_set];exact hz) s.toks
  by_cases h0:0≤k
  · have hk:k.toNat=j:=by
      rw [seqIndex_of h0 h4] at h1
      exact Option.some.inj h1
    exact PySem.W.ki_setAt ho h0 (by omega) (by rw [List.size_toArray, ← hl];exact h4) (by rw [hk];exact ⟨_,I',q⟩)
  · have hk:(k+(its.toArray.size:Int)).toNat=j:=by
      rw [seqIndex_neg (by omega) h3] at h1
      rw [List.size_toArray, ← hl]
      exact Option.some.inj h1
    exact PySem.W.ki_setBack ho (by omega) (by rw [List.size_toArray, ← hl];exact h3) (by omega) (by rw [hk];exact ⟨_,I',q⟩)

theorem slice_bounds (lo hi:Option Int) (n:Nat):(sliceBounds lo hi none n).1=((HT.sIx n 0 lo:Nat):Int)∧(sliceBounds lo hi none n).2.1=((HT.sIx n n hi:Nat):Int)∧(sliceBounds lo hi none n).2.2=1:=by
  refine ⟨?_,?_,rfl⟩
  · cases lo with
    | none=>simp [sliceBounds,HT.sIx]
    | some i =>
      simp only [sliceBounds,HT.sIx,Option.getD_none,show (1:Int) > 0 by decide,if_true]
      by_cases h:i < 0
      · simp only [h,if_true] <;> omega
      · simp only [h,if_false] <;> omega
  · cases hi with
    | none=>simp [sliceBounds,HT.sIx]
    | some i =>
      simp only [sliceBounds,HT.sIx,Option.getD_none,show (1:Int) > 0 by decide,if_true]
      by_cases h:i < 0
      · simp only [h,if_true] <;> omega
      · simp only [h,if_false] <;> omega
theorem slicePick_cut (its:List Value) (lo hi:Option Int):slicePick its.toArray lo hi none=((its.drop (HT.sIx its.length 0 lo)).take (HT.sIx its.length its.length hi - HT.sIx its.length 0 lo)).toArray:=by
  obtain ⟨h1,h2,h3⟩:=slice_bounds lo hi its.toArray.size
  unfold slicePick
  rw [h1,h2,h3]
  simp only [sliceRange_one,pick_run,List.size_toArray] <;> rfl
inductive J_rSlL (K:PySem.W.Frag) (x:V) (lo:Option Int) (hi:Option Int) (H:Hp) (Q:VK):Prop
  | mk:∀ a xs,(x = .ref a)→(SqL K H a xs)→(∀ p,H p=none→Q (.ref p) (upd H p (.lst (cutV xs lo hi))))→J_rSlL K x lo hi H Q
noncomputable def rSlL (K:PySem.W.Frag):V→Option Int→Option Int→Hp→VK→Prop:=fun x lo hi H Q=>J_rSlL K x lo hi H Q
theorem sl_list:SlR X (rSlL X.K):=by
  intro pins s σ H x v vl vu lo hi sl Q I rx hs pl pu h
  obtain ⟨a,xs,rfl,hx,q⟩:=h
  cases rx
  obtain ⟨its,r,ht,hz⟩:=I.list hx
  have hlen:=r.length
  refine ⟨"list",_,slot_list_getitem.lookup,ht.isList.typeIs,?_⟩
  refine wpAny_getItem_list_slice ht.isList hs pl pu .none (by simp) ?_ (by rw [List.size_toArray] <;> omega)
  rw [slicePick_cut, ← hlen]
  refine ⟨.ref s.heap.objs.size,_,I.laid (t':=s.toks) (o := .lst (cutV xs lo hi)) (fun b ob q=>Heap.get?_push_of_some _ q) (Nat.le_refl _) ?_,rfl,q _ (I.hok.fresh (Nat.le_refl _))⟩
  exact ⟨Nat.le_trans (cutV_length xs lo hi) hz,_,0,(r.drop (HT.sIx xs.length 0 lo)).take (HT.sIx xs.length xs.length hi - HT.sIx xs.length 0 lo),Heap.get?_push_size _ rfl⟩


inductive J_len (K:PySem.W.Frag) (xs:List V) (H:Hp) (Q:VK):Prop
  | mk:∀ p ys,(xs = [.ref p])→(SqL K H p ys∨SqT K H p ys)→(Q (.int ys.length) H)→J_len K xs H Q
theorem call_len_seq:CallR X (.builtin "len") (fun xs H Q=>J_len X.K xs H Q):=by
  intro pins s σ H xs us Q I r h
  obtain ⟨p,ys,rfl,hq,q⟩:=h
  obtain ⟨u,rfl,rx⟩:=vals1 r
  cases rx
  have hn:=line63
  rcases hq with hq | hq
  · obtain ⟨its,r',pl,hz⟩:=I.list hq
    have hlen:=r'.length
    exact Calls.call_len_list pl.isList (by simp only [List.size_toArray] <;> omega) ⟨.int ys.length,H,I.tok _,⟨s.toks+1,by rw [List.size_toArray,hlen]⟩,q⟩
  · obtain ⟨its,r',pl,hz⟩:=I.tuple hq
    have hlen:=r'.length
    exact len_tuple pl (by simp only [List.size_toArray] <;> omega) ⟨.int ys.length,H,I.tok _,⟨s.toks+1,by rw [List.size_toArray,hlen]⟩,q⟩
inductive J_call_len_str (xs:List V) (H:Hp) (Q:VK):Prop
  | mk:∀ z,(xs = [.str z])→(z.length≤sizeLine)→(Q (.int z.length) H)→J_call_len_str xs H Q
theorem call_len_str:CallR X (.builtin "len") (fun xs H Q=>J_call_len_str xs H Q):=by
  intro pins s σ H xs us Q I r h
  obtain ⟨z,rfl,hz,q⟩:=h
  obtain ⟨u,rfl,t,rfl⟩:=vals1 r
  have hn:=line63
  exact len_str (by omega) ⟨.int z.length,H,I.tok _,⟨_,rfl⟩,q⟩
inductive J_call_list_of (kK:PySem.W.Frag) (xs:List V) (H:Hp) (Q:VK):Prop
  | mk:∀ p ys,(xs = [.ref p])→((SqL kK H p ys∨SqT kK H p ys))→(∀ l,H l=none→Q (.ref l) (upd H l (.lst ys)))→J_call_list_of kK xs H Q
theorem call_list_of:CallR X (.type "list") (fun xs H Q=>J_call_list_of X.K xs H Q):=by
  intro pins s σ H xs us Q I r h
  obtain ⟨p,ys,rfl,hq,q⟩:=h
  obtain ⟨u,rfl,rx⟩:=vals1 r
  cases rx
  have fin:∀ (its:List Value),Vals ys its→ys.length≤sizeLine→∀ (h':Heap) (c':Nat),(∀ b o',s.heap.get? b=some o'→h'.get? b=some o') →
      h'.get? s.heap.objs.size=some { cls := .type "list",dict:=none,data := .seq its.toArray c',slots := #[] }→EP X pins σ Q (.ref s.heap.objs.size) { s with heap:=h' }:=fun its r' hz h' c' kp e =>
    ⟨.ref s.heap.objs.size,_,I.laid (t':=s.toks) kp (Nat.le_refl _) (show ObjOk X.prog X.w _ h' _ (.lst ys) from ⟨hz,its,c',r',e⟩),rfl,q _ (I.hok.fresh (Nat.le_refl _))⟩
  rcases hq with hq | hq
  · obtain ⟨its,r',pl,hz⟩:=I.list hq
    have hlen:=r'.length
    obtain ⟨o,ho,hc,n,hd⟩:=pl.isList
    exact call_list_seq p (.inl rfl) ho hc hd (fun h' c' kp e=>fin its r' hz h' c' kp e) (by simp only [List.size_toArray] <;> omega)
  · obtain ⟨its,r',pl,hz⟩:=I.tuple hq
    have hlen:=r'.length
    obtain ⟨o,ho,hc,n,hd⟩:=pl
    exact call_list_seq p (.inr rfl) ho hc hd (fun h' c' kp e=>fin its r' hz h' c' kp e) (by simp only [List.size_toArray] <;> omega)
inductive J_call_tuple_of (kK:PySem.W.Frag) (xs:List V) (H:Hp) (Q:VK):Prop
  | mk:∀ p ys,(xs = [.ref p])→(((SqL kK H p ys∧∀ l,H l=none→Q (.ref l) (upd H l (.tup ys)))∨(SqT kK H p ys∧Q (.ref p) H)))→J_call_tuple_of kK xs H Q
theorem call_tuple_of:CallR X (.type "tuple") (fun xs H Q=>J_call_tuple_of X.K xs H Q):=by
  intro pins s σ H xs us Q I r h
  obtain ⟨p,ys,rfl,h⟩:=h
  obtain ⟨u,rfl,rx⟩:=vals1 r
  cases rx
  rcases h with ⟨hq,q⟩ | ⟨hq,q⟩
  · obtain ⟨its,r',pl,hz⟩:=I.list hq
    have hlen:=r'.length
    refine call_tuple_list pl.isList (fun h' kp => ?_) (by simp only [List.size_toArray] <;> omega)
    have I1:Inv X pins σ H { s with heap:=h' }:=I.kept (t':=s.toks) kp
    have I2:Inv X pins σ (upd H h'.objs.size (.tup ys)) { s with heap:=h'.push { cls := .type "tuple",data := .seq its.toArray } } :=
      I1.laid (t':=s.toks) (fun b o e=>Heap.get?_push_of_some _ e) (Nat.le_refl _) (show ObjOk X.prog X.w _ _ _ (.tup ys) from ⟨hz,its,r',IsTupN.new _ _⟩)
    exact ⟨.ref h'.objs.size,_,I2,rfl,q _ (I1.hok.fresh (Nat.le_refl _))⟩
  · obtain ⟨its,r',pl,hz⟩:=I.tuple hq
    exact call_tuple_same pl ⟨.ref p,H,I,rfl,q⟩

noncomputable def tyV (K:PySem.W.Frag) (T:String) (x:V) (H:Hp):Prop:=match x with
  | .str _=>T = "str"
  | .int _=>T = "int"
  | .ref p=>(T = "list" ∧ ∃ xs,SqL K H p xs)∨(T = "tuple" ∧ ((∃ o,K.lookup p=some o∧o.cls = .type "tuple" ∧ o.dict=none)∨∃ xs,H p=some (.tup xs))) ∨
      (T = "dict" ∧ ((∃ kvs,H p=some (.dK kvs))∨∃ kvs,H p=some (.dT kvs)))∨(T = "set" ∧ ∃ S n,H p=some (.set S n))
  | _=>False
theorem tyV_is {pins:List (Addr × Obj)} {σ : St} {H:Hp} {s:Shared} {T:String} {x:V} {v:Value} (I:Inv X pins σ H s) (r:RelV x v) (ty:tyV X.K T x H) :
    s.TypeIs v T∧∀ a,v = .ref a→∃ ob,s.heap.get? a=some ob∧ob.dict=none:=by
  cases x with
  | str z =>
    obtain ⟨t,rfl⟩:=r
    cases (show T = "str" from ty)
    exact ⟨typeIs_str s z t,fun _ e=>nomatch e⟩
  | int i =>
    obtain ⟨t,rfl⟩:=r
    cases (show T = "int" from ty)
    exact ⟨typeIs_int s i t,fun _ e=>nomatch e⟩
  | ref p =>
    cases r
    rcases ty with ⟨rfl,xs,hq⟩ | ⟨rfl,⟨o,hk,hc,hd⟩ | ⟨xs,hk⟩⟩ | ⟨rfl,hk⟩ | ⟨rfl,S,n,hk⟩
    · obtain ⟨its,_,pl,_⟩:=I.list hq
      refine ⟨pl.isList.typeIs,fun a e => ?_⟩
      cases e
      obtain ⟨o,n,e,c,hd,_⟩:=pl
      exact ⟨o,e,hd⟩
    · refine ⟨⟨o,I.kIn p o hk,hc⟩,fun a e => ?_⟩
      cases e
      exact ⟨o,I.kIn _ o hk,hd⟩
    · obtain ⟨_,_,_,o,e,c,n,d,hd⟩:=I.hok p _ hk
      refine ⟨⟨o,e,c⟩,fun a e2 => ?_⟩
      cases e2
      exact ⟨o,e,hd⟩
    · have z:∃ o,s.heap.get? p=some o∧o.ExactDict:=by
        rcases hk with ⟨kvs,hk⟩ | ⟨kvs,hk⟩
        · obtain ⟨_,_,_,_,o,_,_,e,ex,_⟩:=I.hok p _ hk
          exact ⟨o,e,ex⟩
        · obtain ⟨_,_,_,_,o,_,_,e,ex,_⟩:=I.hok p _ hk
          exact ⟨o,e,ex⟩
      obtain ⟨o,e,ex⟩:=z
      refine ⟨⟨o,e,ex.1⟩,fun a e2 => ?_⟩
      cases e2
      exact ⟨o,e,ex.2.1⟩
    · obtain ⟨o,_,_,_,e,ex,_⟩:=I.hok p _ hk
      refine ⟨⟨o,e,ex.1⟩,fun a e2 => ?_⟩
      cases e2
      exact ⟨o,e,ex.2.1⟩
  | _=>exact False.elim ty
noncomputable def tBM0 (K:PySem.W.Frag) (T:String) (r:V→List V→Hp→VK→Prop) (to:TE):TE:=fun σ H Q=>to σ H fun x H1=>tyV K T x H1∧r x [] H1 Q
noncomputable def tBM (K:PySem.W.Frag) (T:String) (r:V→List V→Hp→VK→Prop) (to:TE) (t:TA):TE:=fun σ H Q=>to σ H fun x H1=>tyV K T x H1∧t σ H1 fun xs H2=>r x xs H2 Q
variable {o e:Expr} {es:List Expr} {to:TE} {t:TA} {name:Str} {apos cpos:Pos} {T id:String} {r:V→List V→Hp→VK→Prop}
theorem pe_bm0 (pa:PlainAttrs T) (slot:Slot T name id) (hty:typeOf (.builtin id)=pure (.type "method_descriptor")) (hm:MtR X id r) (ho:PE X o to)
    (hbase:attributeBase o name X.env (eval o X.env)=eval o X.env:=by rfl) (hline:(apos.endLine == cpos.line)=true:=by rfl):PE X (.Call (.Attribute o name apos) [] [] cpos) (tBM0 X.K T r to):=by
  intro pins s σ H Q I h
  refine wpAny_Call_method0_late hbase hline (thn (ho pins s σ H _ I h) fun v s1 ⟨x,H1,I1,r1,ty,q1⟩ => ?_)
  obtain ⟨h1,h2⟩:=tyV_is I1 r1 ty
  exact ⟨T,id,pa,slot,hty,h1,h2,Calls.callWith_builtin rfl (PySem.evalArgs_none (hm pins s1 σ H1 x [] v [] Q I1 r1 .nil q1))⟩
theorem pe_bm (pa:PlainAttrs T) (slot:Slot T name id) (hty:typeOf (.builtin id)=pure (.type "method_descriptor")) (hm:MtR X id r) (ho:PE X o to) (ha:PA X (e :: es) t)
    (hbase:attributeBase o name X.env (eval o X.env)=eval o X.env:=by rfl)
    (hfew:((backTo cpos (starEach (e :: es) X.env)).all (fun x => !x.1) && (backToKw cpos (keywordEach [] X.env)).all (fun x=>x.1.isSome)
      && decide ((e :: es).length+([]:List Keyword).length+(if ([]:List Keyword).isEmpty then 0 else 1) < 30))=true:=by rfl)
    (hline:(apos.endLine == cpos.line)=true:=by rfl) (hs:starEach (e :: es) X.env=(false,eval e X.env) :: starEach es X.env:=by rfl) (hplain:(backTo cpos (starEach es X.env)).any (·.1)=false:=by rfl) :
    PE X (.Call (.Attribute o name apos) (e :: es) [] cpos) (tBM X.K T r to t):=by
  intro pins s σ H Q I h
  refine wpAny_Call_method_late hbase hfew hline rfl (thn (ho pins s σ H _ I h) fun v s1 ⟨x,H1,I1,r1,ty,q1⟩ => ?_)
  obtain ⟨h1,h2⟩:=tyV_is I1 r1 ty
  refine ⟨T,id,pa,slot,hty,h1,h2,?_⟩
  have hA:=ha cpos pins s1 σ H1 _ I1 q1
  rw [hs] at hA ⊢
  refine Calls.callWith_builtin (by show (false || (backTo cpos (starEach es X.env)).any (·.1))=false;rw [hplain] <;> rfl) (Calls.evalArgs_plain ?_)
  exact thn hA fun us s2 ⟨vs,H2,I2,r2,q2⟩=>hm pins s2 σ H2 x vs v us Q I2 r1 r2 q2
/- xs.append(e),list.index on a module's tuple .. are MtR facts of 06m -/
end
end L2

namespace L2
open PySem PySem.Spec PyProof.Rows

noncomputable def MtM (X:Cx) (id:String) (r:V→List V→Hp→VK→Prop):Prop :=
  ∀ (pins:List (Addr × Obj)) (s:Shared) (σ : St) (H:Hp) (x:V) (xs:List V) (v:Value) (us:List Value) (Q:VK),Inv X pins σ H s→RelV x v→Vals xs us→r x xs H Q →
    wpAny (model X.prog X.w) X.A (call (.builtin id) (v :: us)) (EP X pins σ Q) X.xe s

theorem Vals.one:∀ {x:V} {us:List Value},Vals [x] us→∃ u,us = [u]∧RelV x u
  | _,_,.cons r .nil=>⟨_,rfl,r⟩
theorem Vals.zero:∀ {us:List Value},Vals [] us→us = []
  | _,.nil=>rfl
theorem Vals.rep {xs:List V} {us:List Value} (h:Vals xs us):∀ k:Nat,Vals (List.replicate k xs).flatten (List.replicate k us).flatten
  | 0 => .nil
  | k+1=>by
    rw [List.replicate_succ,List.replicate_succ,List.flatten_cons,List.flatten_cons]
    exact Vals.append h (Vals.rep h k)
theorem foldl_rep (its:List Value):∀ (k:Nat) (acc:List Value),
    List.foldl (fun x1 x2=>x1 ++ x2) acc.toArray (List.replicate k its.toArray)=(acc ++ (List.replicate k its).flatten).toArray
  | 0,acc=>by simp
  | k+1,acc=>by
    have e:acc.toArray ++ its.toArray=(acc ++ its).toArray:=by simp
    have e2:(acc ++ its) ++ (List.replicate k its).flatten=acc ++ (List.replicate (k+1) its).flatten:=by
      rw [List.replicate_succ,List.flatten_cons,List.append_assoc]
    rw [← e2, ← foldl_rep its k (acc ++ its), ← e,List.replicate_succ,List.foldl_cons]

section
variable {X:Cx} {pins:List (Addr × Obj)} {σ : St} {H:Hp} {s:Shared} {l b:Addr} {xs ys zs:List V}

theorem Inv.lset {its its':List Value} {n:Nat} {f:Array Value→Array Value} {t':Nat} (I:Inv X pins σ H s) (hH:H l=some (.lst xs))
    (e:s.heap.get? l=some { cls := .type "list",data := .seq its.toArray n }) (hf:f its.toArray=its'.toArray) (hv:Vals ys its') (hz:ys.length≤sizeLine) :
    Inv X pins σ (upd H l (.lst ys)) { s with heap:=s.heap.update l (Obj.mapSeq f),toks:=t' }:=by
  have q:=PySem.IsL.update e f
  rw [hf] at q
  refine I.write (x:=l) (e:=l) (by rw [hH];exact trivial) (.inl rfl) (fun b' u hb hu=>(Heap.get?_update_other s.heap (Obj.mapSeq f) (Ne.symm hb)).trans hu) ⟨_,q⟩ ?_
  exact ⟨hz,its',_,hv,q⟩
theorem Inv.lnew {its:List Value} {t':Nat} (I:Inv X pins σ H s) (hv:Vals ys its) (hz:ys.length≤sizeLine) :
    Inv X pins σ (upd H s.heap.objs.size (.lst ys)) { s with heap:=s.heap.push { cls := .type "list",data := .seq its.toArray },toks:=t' } :=
  I.laid (fun _ _ q=>Heap.get?_push_of_some _ q) (Nat.le_refl _) ⟨hz,its,0,hv,Heap.get?_push_size _ rfl⟩
theorem Inv.fresh (I:Inv X pins σ H s):H s.heap.objs.size=none:=I.hok.fresh (Nat.le_refl _)
theorem Inv.lstM (I:Inv X pins σ H s) (hH:H l=some (.lst xs)):xs.length≤sizeLine∧∃ (its:List Value) (n:Nat),Vals xs its∧xs.length=its.length∧s.heap.get? l=some { cls := .type "list",data := .seq its.toArray n }:=by
  obtain ⟨z,its,n,r,e⟩:=I.hok l _ hH
  exact ⟨z,its,n,r,r.length,e⟩

theorem notLongL {n:Nat} (h:n≤sizeLine):Builtin.List.listTooLong n=false:=by
  unfold Builtin.List.listTooLong
  exact decide_eq_false (by omega)
end

section
variable {X:Cx}

inductive J_rAppend (x:V) (vs:List V) (H:Hp) (Q:VK):Prop
  | mk:∀ l xs y,(x = .ref l)→(vs = [y])→(H l=some (.lst xs))→(xs.length < sizeLine)→(Q .non (upd H l (.lst (xs ++ [y]))))→J_rAppend x vs H Q
noncomputable def rAppend:V→List V→Hp→VK→Prop:=fun x vs H Q=>J_rAppend x vs H Q
theorem mt_append:MtM X "list.append" rAppend:=by
  intro pins s σ H x vs v us Q I rx rv h
  obtain ⟨l,xs,y,rfl,rfl,hH,hz,q⟩:=h
  cases rx
  obtain ⟨u,rfl,ru⟩:=rv.one
  obtain ⟨z,its,n,r,hl,e⟩:=I.lstM hH
  refine call_meets F.slot_list_append ⟨_,e,rfl⟩ F.entry_list_append (F.args_list_append_2 _ _) (PySem.list_append l its.toArray n u (by rw [List.size_toArray];omega)) ⟨e,?_⟩
  refine ⟨.non,_,I.lset (its':=its ++ [u]) hH e (by simp) (r.append (.cons ru .nil)) ?_,rfl,q⟩
  rw [List.length_append,List.length_singleton]
  omega





noncomputable def rClear:V→List V→Hp→VK→Prop:=fun x vs H Q=>∃ l xs,x = .ref l∧vs = []∧H l=some (.lst xs)∧Q .non (upd H l (.lst []))
theorem mt_clear:MtM X "list.clear" rClear:=by
  intro pins s σ H x vs v us Q I rx rv h
  obtain ⟨l,xs,rfl,rfl,hH,q⟩:=h
  cases rx
  have hus:=rv.zero
  subst hus
  obtain ⟨z,its,n,r,hl,e⟩:=I.lstM hH
  refine call_meets F.slot_list_clear ⟨_,e,rfl⟩ F.entry_list_clear (F.args_list_clear_1 _) (AutoSeq1.list_clear_list_0 l its.toArray n (by rw [List.size_toArray];omega)) ⟨e,?_⟩
  exact ⟨.non,_,I.lset (its' := []) (ys := []) hH e rfl .nil (Nat.zero_le _),rfl,q⟩

inductive J_rRep (x:V) (y:V) (H:Hp) (Q:VK):Prop
  | mk:∀ l k xs,(x = .ref l)→(y = .int k)→(H l=some (.lst xs))→(-(2 ^ 63)≤k)→(k < 2 ^ 63)→(xs.length * k.toNat≤sizeLine)→(∀ p,H p=none→Q (.ref p) (upd H p (.lst (List.replicate k.toNat xs).flatten)))→J_rRep x y H Q
noncomputable def rRep:R2:=fun x y H Q=>J_rRep x y H Q
theorem len_rep {α : Type} (xs:List α) (k:Nat):(List.replicate k xs).flatten.length=k * xs.length:=by
  induction k with
  | zero=>simp
  | succ k ih=>rw [List.replicate_succ,List.flatten_cons,List.length_append,ih,Nat.succ_mul,Nat.add_comm]
theorem op_rep:OpR X (binaryOp .Mult) rRep:=by
  intro pins s σ H x y v u Q I rx ry h
  obtain ⟨l,k,xs,rfl,rfl,hH,h1,h2,hz,q⟩:=h
  cases rx
  obtain ⟨t,rfl⟩:=ry
  obtain ⟨z,its,n,r,hl,e⟩:=I.lstM hH
  have hlen:its.toArray.size * k.toNat≤sizeLine:=by rw [List.size_toArray, ← hl];exact hz
  have hcap:¬ its.toArray.size * k.toNat > (2 ^ 63 - 1) / 8:=by
    have:(sizeLine:Nat)≤(2 ^ 63 - 1) / 8:=by decide
    omega
  have hfit:¬ (!Builtin.List.listFitsIndex k)=true:=by
    rw [fitsIndex_both h1 h2]
    exact Bool.false_ne_true
  have hlong:¬ Builtin.List.listTooLong (its.toArray.size * k.toNat)=true:=by
    rw [notLongL hlen]
    exact Bool.false_ne_true
  have hnew:List.foldl (fun x1 x2=>x1 ++ x2) #[] (List.replicate (if its.toArray.isEmpty=true then 0 else k.toNat) its.toArray)=(List.replicate k.toNat its).flatten.toArray:=by
    have f0:∀ m:Nat,List.foldl (fun x1 x2=>x1 ++ x2) #[] (List.replicate m its.toArray)=(List.replicate m its).flatten.toArray:=fun m=>by
      have:=foldl_rep its m []
      rw [List.nil_append] at this
      exact this
    rw [f0]
    cases its with
    | nil=>simp
    | cons a r'=>rw [if_neg (by simp)]
  refine wpAny_binaryOp_repeat_ref (T := "list") (U := "int") (by decide) ⟨_,e,rfl⟩ (fun s'=>typeIs_int s' k t) noFill_list_mul F.fills_int_mul F.slot_int_rmul repeat_list F.slot_int_index.lookup
    (call_meets F.slot_int_rmul (typeIs_int s k t) F.entry_int_rmul (F.args_int_rmul_2 _ _) (int___rmul___int_list k t l its.toArray n)
      ⟨e,rfl,⟨_,e,rfl⟩,call_meets F.slot_list_mul ⟨_,e,rfl⟩ F.entry_list_mul (F.args_list_mul_2 _ _) (AutoListH.list___mul___list_int_3 l its.toArray n k t hfit hcap hlong) ⟨e,?_⟩⟩)
  rw [hnew]
  exact ⟨.ref _,_,I.lnew (t':=s.toks) (r.rep k.toNat) (by rw [len_rep,Nat.mul_comm];exact hz),rfl,q _ I.fresh⟩

end

section
variable {prog:Program} {w:World} {A:Around} {E:Value→Shared→Prop} {s:Shared}
end

section
variable {X:Cx}
end
end L2

namespace Att
open PySem PySem.W PySem.Calls PyProof.Rows

theorem ints_of_wellAll {P:Params} {h:Heap}:∀ (ns:List Int) (vs:List Value),WellAll P h vs (ns.map WData.int)→IntsAre vs ns:=by
  intro ns
  induction ns with
  | nil =>
    intro vs w
    rw [List.map_nil] at w
    cases w
    exact .nil
  | cons n ns ih =>
    intro vs w
    rw [List.map_cons] at w
    cases w with
    | cons a b =>
      cases a
      exact .cons _ _ (ih _ b)

theorem script_of {l:OpenLaw} {n:Nat} (hn:l.most=some n) {P:Params} {h:Heap} {args:List WData} {vals:List Value}
    (hpre:l.row.toRowW.claim.pre args=true) (hwl:WellAll P h vals args) :
    ∃ a vs ns,vals = [Value.ref a]∧args = [WData.list (ns.map WData.int)]∧h.get? a=some { cls := .type "list",data := .seq vs.toArray }∧IntsAre vs ns∧ns.length≤n:=by
  have hsh:WShape.hasAll [] args [.list .int]=true:=(pre_splitW hpre).1
  have hc:l.pre.holds [] { args:=args }=true:=(pre_splitW hpre).2
  obtain ⟨d,r,rfl,h1,h2⟩:=hasAllW_cons hsh
  obtain rfl:=hasAllW_nil h2
  obtain ⟨xs,rfl,h3⟩:=hasW_list h1
  obtain ⟨ns,rfl⟩:=items_int h3
  have hlen:ns.length≤n:=by
    unfold OpenLaw.pre at hc
    have h4:(WTm.not (.lt (.lit (.int (n:Int))) (.len (.arg 0)))).holds [] { args := [.list (ns.map .int)] }=true:=by
      have h4:=(holds_andW hc).1
      rw [hn] at h4
      exact h4
    have h5:=condW_of h4 (w_not (w_lt w_lit (w_len_list (w_arg rfl))))
    rw [List.length_map] at h5
    refine Nat.le_of_not_lt fun q => ?_
    have q':(n:Int) < ((ns.length:Nat):Int):=by omega
    first
      | (rw [decide_eq_true q'] at h5;exact absurd h5 (by decide))
      | (simp at h5;omega)
  cases hwl with
  | cons w1 w2 =>
    cases w2
    cases w1 with
    | list ho hall=>exact ⟨_,_,ns,rfl,rfl,ho,ints_of_wellAll ns _ hall,hlen⟩

theorem post_true (l:OpenLaw) (args:List WData):l.row.toRowW.claim.post args (.bool true) args=true :=
  postW_of (r:=l.row.toRowW) (X:=(true == true))
    (show WShape.has [] (.bool true) .bool=true by first | rfl | decide | simp [WShape.has,WShape.arms,WShape.armsAll])
    (show (WTm.eq .res (.lit (.bool true))).value [] { args:=args,res:=some (.bool true),after:=args }=some (.bool (true == true)) from w_eq_bool (w_res rfl) w_lit) rfl


theorem attach_call {l:OpenLaw} {n:Nat} {q:Program} {loose:List Str} {XP:(Str→Option Value)→Heap→Prop} {YP:World→Heap→Prop} {d:DefRec}
    (hn:l.most=some n) (hdf:d.params.defaults = [])
    (call:∀ (w:World) (s₀ s₁ : Shared) (mg mb:Str→Option Value) (fa:Addr) (o:Obj) (pm cd doc:Value) (a:Addr) (vs:List Value) (ns:List Int),
      Ground q loose [] XP w s₀ mg mb s₁.heap→YP w s₁.heap →
      s₁.heap.get? fa=some o→o.data = .func (docDef d.name d.params d.body d.scope pm cd doc)→s₁.heap.CodeRec cd d.name→mg d.name=some (.ref fa) →
      s₁.heap.get? a=some { cls := .type "list",data := .seq vs.toArray }→IntsAre vs ns→ns.length≤n→s₁.gens = #[] →
      codeAny (model l.prog w) callerA (.call (.ref fa) ⟨[.ref a], []⟩) (fun r s'=>r = .ok (.ret (.bool true))∧OldK s₁.heap s'.heap∧s'.os=s₁.os∧AllBare s'.gens) s₁) :
    WalkO q loose XP YP l.row.toRowW d [] (fun f vs=>PySem.call f vs):=by
  intro w s₀ s₁ mg mb G Y fa o pm cd doc dV kV ho hd hcd hD hmg hg args vals as hpre hlay hrd hwl hlo
  obtain rfl:dV = .none:=Dflts.none hD hdf
  obtain rfl:kV = .none:=Dflts.noKw hD
  obtain ⟨a,vs,ns,rfl,rfl,hobj,hints,hlen⟩:=script_of hn hpre hwl
  refine enter_call (codeAny_mono (call w s₀ s₁ mg mb fa o pm cd doc a vs ns G Y ho (fd_plain hd) hcd hmg hobj hints hlen hg) fun r s' hq => ?_)
  obtain ⟨rfl,h2,h3,h4⟩:=hq
  exact ⟨.inl ⟨.bool true,.bool true, [],rfl,fun _=>rfl,.bool true,post_true l _,fun _=>⟨List.Pairwise.nil,fun _ hm=>(nomatch hm)⟩⟩,h2,h3,h4⟩


section
variable {prog:Program} {w:World} {A:Around} {E:Value→Shared→Prop} {s:Shared} {K:Frag}






end
end Att

namespace L2
open PySem PySem.Spec PyProof.Rows

theorem vals_ints:∀ {vs:List Value} {ns:List Int},IntsAre vs ns→Vals (ns.map V.int) vs
  | _,_,.nil => .nil
  | _,_,.cons n t h => .cons ⟨t,rfl⟩ (vals_ints h)

noncomputable def Only (H:Hp):Prop := ∀ b,H b=none∨∃ o xs,H b=some (.frz o (.lst xs))

theorem law_call {P:Program} {w:World} {K:PySem.W.Frag} {mg mb:Str→Option Value} {CX:CXT} {k:Nat} {fa a:Addr} {fd:FuncData} {x:Str} {sp:Sp} {s₁ : Shared} {vs:List Value} {ns:List Int}
    (KX:K.In s₁.heap) (hns:s₁.heap.Ns mainGlobals mg) (hb:s₁.heap.Ns builtinsNs mb) (hbb:∀ x:Str,x ≠ "__name__" → mb x=bootBuiltins x) (hlim:s₁.heap.NoLimit) (hg:s₁.gens = #[])
    (ha:s₁.heap.get? a=some { cls := .type "list",data := .seq vs.toArray }) (hi:IntsAre vs ns) (hl:ns.length≤sizeLine) (hr:Room k callerA)
    (F:∀ base:Heap,K.In base→base.Ns mainGlobals mg→FnOk P w K mg base CX k fa fd [x] sp) (hbind:∀ (s:Shared) (u:Value),BindsTo s fd ⟨[u], []⟩ [(x,u)])
    (hsp:∀ H:Hp,Only H→SqL K H a (ns.map V.int)→sp [.ref a] H (fun v _=>v = .bl true) fun _ _ _=>False)
    (hCX:∀ H e s',CX [] H s₁ (fun _ _ _=>False) e s'→False) :
    codeAny (model P w) callerA (.call (.ref fa) ⟨[.ref a], []⟩) (fun r s'=>r = .ok (.ret (.bool true))∧OldK s₁.heap s'.heap∧s'.os=s₁.os∧AllBare s'.gens) s₁ := by
  have rv:=vals_ints hi
  have lenV:=hi.length
  -- from an abstract heap in which nothing but the script may be tracked
  have core:∀ H:Hp,Only H→SqL K H a (ns.map V.int)→HOk P w H s₁.heap→(∀ b,H b≠none→b=a)→(H a≠none→K.lookup a=none) →
      codeAny (model P w) callerA (.call (.ref fa) ⟨[.ref a], []⟩) (fun r s'=>r = .ok (.ret (.bool true))∧OldK s₁.heap s'.heap∧s'.os=s₁.os∧AllBare s'.gens) s₁ := by
    intro H hO hS hok hA hK
    have base_of:∀ {b:Addr} {o:Obj},s₁.heap.get? b=some o→H b=none→(hidT s₁.heap H).get? b=some o:=fun e n=>hidT_get e n
    have noA:∀ {b:Addr} {o:Obj} {es:Array DictEntry} {ep:Nat},s₁.heap.get? b=some o→o.data = .dict es ep→H b=none:=fun {b o es ep} e d=>by
      cases q:H b with
      | none=>rfl
      | some u =>
        have e':b=a:=hA b (by rw [q];simp)
        subst e'
        rw [ha] at e;cases e
        have d':Data.seq vs.toArray _=Data.dict es ep:=d
        cases d'
    have nsK:∀ {b:Addr} {m:Str→Option Value},s₁.heap.Ns b m→(hidT s₁.heap H).Ns b m:=fun {b m} ⟨o,es,ep,e,d,r⟩=>⟨o,es,ep,base_of e (noA e d),d,r⟩
    have hKb:K.In (hidT s₁.heap H):=fun b o e=>base_of (KX b o e) (by
      cases q:H b with
      | none=>rfl
      | some u =>
        have e':b=a:=hA b (by rw [q];simp)
        subst e'
        rw [hK (by rw [q];simp)] at e;cases e)
    have hM:Mod K mg (hidT s₁.heap H):=⟨hKb,nsK hns,⟨mb,nsK hb,hbb⟩,let ⟨mc,h1,h2⟩:=hlim; ⟨mc,nsK h1,h2⟩⟩
    have e0:Env0 P w K mg (hidT s₁.heap H) callerA [] s₁ H:=⟨rfl,hM,fun b o e=>of_hidT e,Nat.le_of_eq (hidT_size _ _),trivial,fun b hb=>absurd (show b∈([]:List Addr) from hb) (by simp),hok,.of_eq hg⟩
    refine codeAny_mono ((F _ hKb (nsK hns)).run callerA [] s₁ H ⟨[.ref a], []⟩ [.ref a] [.ref a] _ _ hr e0 (hbind s₁ (.ref a)) (.cons rfl .nil) (hsp H hO hS)) fun r s' h => ?_
    cases r with
    | error e=>exact (hCX H e s' h).elim
    | ok fl =>
      cases fl with
      | next=>exact False.elim h
      | brk=>exact False.elim h
      | cont=>exact False.elim h
      | ret u =>
        obtain ⟨v,H',os,bare,un,hok',r',q⟩:=h
        have q':v = .bl true:=q
        subst q'
        obtain rfl:u=Value.bool true:=r'
        refine ⟨rfl,OldK.of_keep fun b o e => ?_,os,bare⟩
        cases q:H b with
        | none=>exact un.keep b o e q (by intro z;exact absurd (show b∈([]:List Addr) from z) (by simp)) (by simp)
        | some u =>
          rcases hO b with z | ⟨ob,xs,z⟩
          · rw [q] at z;cases z
          · have z2:=un.frzs b ob _ z
            obtain ⟨e1,_⟩:=hok b _ z
            obtain ⟨e2,_⟩:=hok' b _ z2
            rw [e] at e1;cases e1
            exact e2
  cases hk:K.lookup a with
  | some o =>
    -- the script is one of the module's own objects
    have e:=KX a o hk
    rw [ha] at e
    cases e
    refine core (fun _=>none) (fun _ => .inl rfl) (.inr ⟨_,vs.toArray,_,hk,rfl,rfl,rfl,by rw [List.size_toArray,lenV];exact hl,by simpa using rv⟩) (fun b u z=>by have z':(none:Option HO)=some u:=z;cases z') (fun b z=>absurd rfl z) fun z=>absurd rfl z
  | none =>
    refine core (fun b=>if b=a then some (.frz { cls := .type "list",data := .seq vs.toArray } (.lst (ns.map V.int))) else none) (fun b => ?_) (.inl (.inr ⟨{ cls := .type "list",data := .seq vs.toArray },if_pos rfl⟩)) (fun b u z => ?_) (fun b z => ?_) fun _=>hk
    · by_cases hb:b=a
      · exact .inr ⟨_,_,if_pos hb⟩
      · exact .inl (if_neg hb)
    · by_cases hb:b=a
      · have z':=(if_pos hb).symm.trans z
        cases z'
        subst hb
        exact ⟨ha,by rw [List.length_map];exact hl,vs,_,rv,ha⟩
      · have z':=(if_neg hb).symm.trans z
        cases z'
    · by_cases hb:b=a
      · exact hb
      · exact absurd (if_neg hb) z
end L2

namespace L2
open PySem PySem.Spec PyProof.Rows


theorem walk_of {l:PySem.W.OpenLaw} {n k:Nat} {q:Program} {loose:List Str} {XP:(Str→Option Value)→Heap→Prop} {YP:World→Heap→Prop} {d:DefRec} {K:Params→PySem.W.Frag} {CX:World→CXT} {sp:World→Sp} {x:Str}
    (hn:l.most=some n) (hn2:n≤sizeLine) (hdf:d.params.defaults = []) (hr:Room k callerA)
    (hY:∀ (w:World) (h:Heap),YP w h→(K w.params).In h)
    (F:∀ (w:World) (mg:Str→Option Value) (fa:Addr) (h:Heap),(K w.params).In h→h.Ns mainGlobals mg→mg d.name=some (.ref fa) →
      ∃ fd:FuncData,(∀ (s:Shared) (u:Value),BindsTo s fd ⟨[u], []⟩ [(x,u)]) ∧
        ∀ base:Heap,(K w.params).In base→base.Ns mainGlobals mg→FnOk l.prog w (K w.params) mg base (CX w) k fa fd [x] (sp w))
    (hsp:∀ (w:World) (H:Hp) (a:Addr) (ns:List Int),ns.length≤n→Only H→SqL (K w.params) H a (ns.map V.int)→sp w [.ref a] H (fun v _=>v = .bl true) fun _ _ _=>False)
    (hCX:∀ (w:World) (H:Hp) (s:Shared) (e:Value) (s':Shared),CX w [] H s (fun _ _ _=>False) e s'→False) :
    PySem.W.WalkO q loose XP YP l.row.toRowW d [] (fun f vs=>PySem.call f vs):=by
  refine Att.attach_call hn hdf fun w s₀ s₁ mg mb fa o pm cd doc a vs ns G Y ho hd hcd hmg hobj hints hlen hg => ?_
  have KX:=hY w _ Y
  obtain ⟨fd,hb,hF⟩:=F w mg fa _ KX G.T.g hmg
  exact law_call KX G.T.g G.T.b G.T.builtins G.T.nolimit hg hobj hints (Nat.le_trans hlen hn2) hr hF hb (fun H hO hS=>hsp w H a ns hlen hO hS) fun H e s'=>hCX w H s₁ e s'
end L2



namespace L2
open PySem PySem.Spec PyProof.Rows

noncomputable def inClass (s:Stmt) (j:Nat):Stmt:=match s with
  | .ClassDef _ _ _ body _ _ _ _ _ _ _=>body.getD j (.Pass ⟨0,0,0,0⟩)
  | _ => .Pass ⟨0,0,0,0⟩
noncomputable def defArgs (s:Stmt):Arguments:=match s with
  | .FunctionDef _ a _ _ _ _ _ _ _ _=>a
  | _=>{ posonlyargs := [],args := [],vararg:=none,kwonlyargs := [],kw_defaults := [],kwarg:=none,defaults := [] }
noncomputable def defBody (s:Stmt):List Stmt:=match s with
  | .FunctionDef _ _ b _ _ _ _ _ _ _=>b
  | _ => []
noncomputable def defScope (s:Stmt):Scope:=match s with
  | .FunctionDef _ _ _ _ _ _ sc _ _ _=>sc
  | _=>{ kind := .function,names := [],isGenerator:=false,isCoroutine:=false }

noncomputable abbrev CX0:CXT:=fun _ _ _ _ _ _=>False
noncomputable abbrev E0:XK:=fun _ _ _=>False
theorem pass0 {X:Cx}:Passes CX0 X E0:=fun _ _ _ _ _ _ _ h=>h.elim

structure Fun (K:PySem.W.Frag) (x qual:Str) (st:Stmt) (f:Addr) (fd:FuncData):Prop where
  ex:∃ (oc:Value) (od:Option Addr) (kV doc pm:Value) (an:Option Addr) (cdv ct:Value) (osl:Array (Option Value)),
    fd=PySem.W.fnOf x qual (defArgs st) (defBody st) (defScope st) .none kV doc pm an cdv ct∧K.lookup f=some ⟨oc,od,.func fd,osl⟩∧PySem.W.codeIn K cdv qual=true
  kp:PySem.W.keepIn K (.ref f)=true
section
variable {P:Program} {w:World} {K:PySem.W.Frag} {mg:Str→Option Value} {base:Heap}
theorem Fun.ok {x qual:Str} {st:Stmt} {f:Addr} {fd:FuncData} {N ps:List Str} {k:Nat} {sp:Sp} (F:Fun K x qual st f fd) (S:FnScope N ps (defScope st)) (len:∀ vs H Q E,sp vs H Q E→vs.length=ps.length)
    (hbody:∀ (cdv:Value) (A:Around) (outer:List Env) (s:Shared) (H:Hp) (vs:List V) (Q:VK) (E:XK),Room k (A.deeper (envOfC qual (defScope st) s.heap.objs.size f cdv))→sp vs H Q E →
      ∃ t,PSs (cxOf CX0 P w K mg base N qual (defScope st) f cdv A outer s H E).nox (defBody st) t∧t { nx:=fun _ H'=>Q .non H',rt:=Q } (start N vs) H):FnOk P w K mg base CX0 (k+1) f fd ps sp:=by
  obtain ⟨oc,od,kV,doc,pm,an,cdv,ct,osl,rfl,lk,hcd⟩:=F.ex
  refine fn_of lk hcd S len fun A outer s H vs Q E hr hsp => ?_
  obtain ⟨t,h,q⟩:=hbody cdv A outer s H vs Q E hr hsp
  exact ⟨t,h.nox,q⟩
theorem Fun.binds {x qual:Str} {st:Stmt} {f:Addr} {fd:FuncData} {ps:List Str} (F:Fun K x qual st f fd)
    (h:∀ (kV doc pm:Value) (an:Option Addr) (cdv ct:Value) (us:List Value),us.length=ps.length→bindArgs (PySem.W.fnOf x qual (defArgs st) (defBody st) (defScope st) .none kV doc pm an cdv ct) ⟨us, []⟩=pure (ps.zip us)):Binds K fd ps []:=by
  obtain ⟨oc,od,kV,doc,pm,an,cdv,ct,osl,rfl,lk,hcd⟩:=F.ex
  exact .all (h kV doc pm an cdv ct)
theorem fun_mk {x qual:Str} {st:Stmt} {f:Addr} {oc:Value} {od an:Option Addr} {osl:Array (Option Value)} {kV doc pm cdv ct:Value} (l:K.lookup f=some ⟨oc,od,.func (PySem.W.fnOf x qual (defArgs st) (defBody st) (defScope st) .none kV doc pm an cdv ct),osl⟩)
    (c:PySem.W.codeIn K cdv qual=true) (k:PySem.W.keepIn K (.ref f)=true):Fun K x qual st f (PySem.W.fnOf x qual (defArgs st) (defBody st) (defScope st) .none kV doc pm an cdv ct):=⟨⟨oc,od,kV,doc,pm,an,cdv,ct,osl,rfl,l,c⟩,k⟩
end
theorem hu_of {A:Around} {k:Nat} (hr:Room k A):A.units+1 < cLine:=Nat.lt_of_le_of_lt (Nat.add_le_add_left (by decide:1≤64) _) hr.units
theorem small1000 {n:Nat} (h:n≤1000):n < sizeLine:=Nat.lt_of_le_of_lt h (by decide)

section
variable {X:Cx}
theorem pv (i:Nat) {x:Str} {pos:Pos} (hN:X.N[i]? = some x:=by rfl) (hv:Vis X.env.scope x:=by first | exact Or.inl rfl | exact Or.inr (Or.inl rfl) | exact Or.inr (Or.inr rfl)) (hd:(x == ("__debug__" : Str))=false:=by decide)
    (hcd:(x == ("__classdict__" : Str))=false:=by decide):PE X (.Name x pos) (tVar i):=pe_var hN hv hd hcd
end

theorem iteF {A B:Prop} (h:B):if false=true then A else B:=by
  rw [if_neg Bool.false_ne_true]
  exact h
theorem iteT {A B:Prop} (h:A):if true=true then A else B:=by
  rw [if_pos rfl]
  exact h

noncomputable def Same (H H':Hp):Prop := ∀ b o,H b=some o→H' b=some o
theorem Same.refl (H:Hp):Same H H:=fun _ _ h=>h
theorem Same.trans {H H1 H2:Hp} (a:Same H H1) (b:Same H1 H2):Same H H2:=fun c o h=>b c o (a c o h)
theorem Same.free {H H':Hp} (e:Same H H') {l:Addr} (h:H' l=Option.none):H l=Option.none:=by
  cases q:H l with
  | none=>rfl
  | some o =>
    rw [e l o q] at h
    cases h
theorem Same.seq {K:PySem.W.Frag} {H H':Hp} {a:Addr} {xs:List V} (e:Same H H') (h:SqL K H a xs):SqL K H' a xs:=by
  rcases h with (h | ⟨o,h⟩) | h
  · exact .inl (.inl (e _ _ h))
  · exact .inl (.inr ⟨o,e _ _ h⟩)
  · exact .inr h

end L2
namespace L2
open PySem PySem.Spec PyProof.Rows

section
variable {X:Cx} {pins:List (Addr × Obj)} {σ : St} {H:Hp} {s:Shared} {h':Heap}
theorem Inv.turnedLaid {ch:List Addr} {a:Addr} {o:HO} {t':Nat} (I:Inv X pins σ H s) (k:∀ b u,b ∉ ch→s.heap.get? b=some u→h'.get? b=some u)
    (hch:∀ b∈ch,FpOk X pins H b) (hp:s.heap.objs.size≤a) (new:ObjOk X.prog X.w (upd H a o) h' a o):Inv X pins σ (upd H a o) { s with heap:=h',toks:=t' }:=by
  have hfr:H a=none:=I.hok.fresh hp
  have old:∀ b ob,s.heap.get? b=some ob→b≠a:=fun b ob e z=>by subst z;exact absurd (Nat.lt_of_lt_of_le (Heap.lt_size e) hp) (Nat.lt_irrefl _)
  have tr:∀ b u,H b=some u→b≠a:=fun b u e z=>by rw [z,hfr] at e;cases e
  have trc:∀ b u,H b=some u→b ∉ ch:=fun b u e z=>by rw [(hch b z).1] at e;cases e
  refine I.step (g':=s.gens) (d':=s.drawn) (ch:=ch) (fun b hb => ?_) (fun b ob _ _ hc e _=>k b ob hc e) (fun b ob _ _ hc e _=>⟨ob.slots,k b ob hc e⟩) (fun b ob _ e n => ?_)
    (fun b ob hc e=>⟨ob,k b ob hc e⟩) (fun b xs e => ?_) (fun b ob u e => ?_) (fun b ps e=>⟨#[],?_⟩) (fun m hm => ?_) (fun b u e => ?_) I.bare
  · obtain ⟨_,f1,_,f3,f4,f5⟩:=hch b hb
    exact ⟨f3,f1,f4,f5⟩
  · rw [upd_ne (old b ob e)];exact n
  · rw [upd_ne (tr b _ e)];exact e
  · rw [upd_ne (tr b _ e)];exact e
  · rw [upd_ne (tr b _ e),e];simp
  · obtain ⟨ob,es,ep,ho,r⟩:=hm
    exact ⟨ob,es,ep,k _ ob (fun z=>(hch _ z).2.1 rfl) ho,r⟩
  · by_cases hb:b=a
    · subst hb
      rw [upd_same] at e;cases e
      exact new
    · rw [upd_ne hb] at e
      refine (I.hok b u e).stay (fun c v hc q=>k c v ?_ q) (fun c q=>by rw [upd_ne (tr c _ q)];exact q) fun c xs q=>by rw [upd_ne (tr c _ q)];exact q
      rcases hc with z | z
      · rw [z];exact trc b u e
      · exact trc c _ z
end

noncomputable def Ite (K:PySem.W.Frag) (a:Addr):It :=
  ⟨fun i H=>∃ xs x,SqL K H a xs∧xs[i]? = some x,
   fun i H x H'=>∃ p v,H p=none∧x = .ref p∧(∀ xs,SqL K H a xs→xs[i]? = some v)∧H'=upd H p (.tup [.int (i:Int),v]),
   fun i H=>∃ xs,SqL K H a xs∧xs.length=i⟩
theorem turn_enum {P:Program} {w:World} {K:PySem.W.Frag} {elts:List Expr} {k:Nat} {tp:Pos} (a e it:Addr) (hne:e≠it) :
    Turn P w K (.Tuple elts k tp) (Ite K a) [e,it] e (fun i h=>(∃ old,IsEnum h e it (i:Int) old)∧h.IsListIter it a i) where
  mem:=by simp
  obj:=fun i h st b hb=>by
    obtain ⟨⟨old,he⟩,hit⟩:=st
    rcases List.mem_cons.mp hb with rfl | hb
    · exact ⟨_,he,fun v z=>by
        have z':Data.fields _=Data.cell v:=z
        cases z'⟩
    · have e:b=it:=by simpa using hb
      subst e
      obtain ⟨o,e,c,d⟩:=hit
      exact ⟨o,e,fun v z=>by rw [d] at z;cases z⟩
  keep:=fun i h h' st k=>by
    obtain ⟨⟨old,he⟩,hit⟩:=st
    exact ⟨⟨old,k e (by simp) _ he⟩,hit.at fun o q=>k it (by simp) o q⟩
  item:=by
    intro X hP hw hK hc i pins s σ H E I hf st hg
    subst hP hw hK
    obtain ⟨⟨old,he⟩,hit⟩:=st
    obtain ⟨xs,x,hq,hx⟩:=hg
    obtain ⟨its,rv,p,hz⟩:=I.list hq
    obtain ⟨u,hu,ru⟩:=rv.get hx
    have hai:a≠it:=fun z=>by
      obtain ⟨o,n,e1,c1,_⟩:=p
      obtain ⟨o',e2,c2,_⟩:=hit
      rw [z,e2] at e1;cases e1
      rw [c1] at c2
      exact absurd (Value.type.inj c2) (by decide)
    have hae:a≠e:=fun z=>by
      obtain ⟨o,n,e1,c1,_⟩:=p
      rw [z,he] at e1;cases e1
      exact absurd (Value.type.inj c1) (by decide)
    have hlt:i < its.toArray.size:=by
      rw [List.size_toArray]
      exact (List.getElem?_eq_some_iff.mp hu).1
    have hel:e < s.heap.objs.size:=Heap.lt_size he
    have hil:it < s.heap.objs.size:=by obtain ⟨o,q,_⟩:=hit;exact Heap.lt_size q
    refine wpAny_pyNext_enum_itemD (Draws.list (A:=X.A.in1) (I.ok.hd hc) it a hai its.toArray) he ⟨hit,p.isList⟩ hlt hne (by
      intro z
      rcases List.mem_cons.mp z with z | z
      · exact hne z
      · exact hae (List.mem_singleton.mp z).symm) fun y h1 tk hy ho hs1 hT hsz hk => ?_
    have hyu:y=u:=by
      have e1:its[i]? = some y:=by simpa using hy
      rw [hu] at e1
      exact (Option.some.inj e1).symm
    subst hyu
    refine ⟨_,rfl,wpAny_letOwnedTupleGo_enum ho fun h2 he2 hs2 => ?_⟩
    have kk:∀ b o,b ∉ [e,it]→s.heap.get? b=some o→h2.get? b=some o:=fun b o hb q=>by
      have b1:b≠e:=fun z=>hb (by simp [z])
      have b2:b≠it:=fun z=>hb (by simp [z])
      exact (hs2.2 b b1).trans (hk b o b1 b2 q)
    have hTe:s.heap.objs.size≠e:=Nat.ne_of_gt hel
    refine ⟨.ref s.heap.objs.size,upd H s.heap.objs.size (.tup [.int (i:Int),x]),?_,rfl,⟨_,x,I.hok.fresh (Nat.le_refl _),rfl,fun ys hy=>by rw [I.list_inj hy hq];exact hx,rfl⟩,
      ⟨⟨_,by simpa using he2⟩,hs1.1.at fun o q=>(hs2.2 it (Ne.symm hne)).trans q⟩,fun b hb => ?_⟩
    · refine I.turnedLaid (ch := [e,it]) (t':=tk+1) kk hf (Nat.le_refl _) ⟨by show 2≤sizeLine;decide, [.int (i:Int) tk,y],.cons ⟨_,rfl⟩ (.cons ru .nil),?_⟩
      exact ⟨_,(hs2.2 _ hTe).trans hT,rfl,_,rfl,rfl⟩
    · have hb':=hf b hb
      have:b≠s.heap.objs.size:=by
        rcases List.mem_cons.mp hb with rfl | hb
        · exact Nat.ne_of_lt hel
        · rw [List.mem_singleton.mp hb];exact Nat.ne_of_lt hil
      rw [upd_ne this]
      exact hb'.1
  done:=by
    intro X hP hw hK hc i pins s σ H E I hf st hg
    subst hP hw hK
    obtain ⟨⟨old,he⟩,hit⟩:=st
    obtain ⟨xs,hq,hx⟩:=hg
    obtain ⟨its,rv,p,hz⟩:=I.list hq
    have hai:a≠it:=fun z=>by
      obtain ⟨o,n,e1,c1,_⟩:=p
      obtain ⟨o',e2,c2,_⟩:=hit
      rw [z,e2] at e1;cases e1
      rw [c1] at c2
      exact absurd (Value.type.inj c2) (by decide)
    have hl:=rv.length
    have hi:i=its.toArray.size:=by rw [List.size_toArray];omega
    subst hi
    obtain ⟨f0,f1,f2,f3,f4,f5⟩:=hf it (by simp)
    exact wpAny_pyNext_enum_endD (Draws.list (A:=X.A.in1) (I.ok.hd hc) it a hai its.toArray) he ⟨hit,p.isList⟩ fun h1 eb=>⟨rfl,I.turned (t':=s.toks) (fun b o hb q=>eb b o hb q) f0 f1 f3 f4 f5⟩
  self:=fun _ _ _ _ _ st h=>by
    obtain ⟨⟨old,he⟩,_⟩:=st
    exact wpAny_pyIter_enum he h
inductive J_iEnum (K:PySem.W.Frag) (R:It→Hp→Prop) (vs:List V) (H1:Hp):Prop
  | mk:∀ a,(vs = [.ref a])→((∃ xs,SqL K H1 a xs))→(R (Ite K a) H1)→J_iEnum K R vs H1
noncomputable def iEnum (K:PySem.W.Frag) (ta:TA):TI:=fun σ H R=>ta σ H fun vs H1=>J_iEnum K R vs H1
theorem boot_enum:bootBuiltins "enumerate" = some (.type "enumerate"):=by decide +kernel
section
variable {X:Cx}
theorem pi_enum {l:Expr} {ta:TA} {elts:List Expr} {k:Nat} {tp p pos:Pos} (hg:Gl X "enumerate") (hm:X.mg "enumerate" = none) (ha:PA X [l] ta) (hs:starEach [l] X.env = [(false,eval l X.env)]:=by rfl) :
    PI X (.Tuple elts k tp) (.Call (.Name "enumerate" p) [l] [] pos) (iEnum X.K ta):=by
  intro pins s σ H R I h
  refine Call_ (ld_blt I hg hm boot_enum (PyProof.Rows.callWith_type1 (thn (ha pos pins s σ H _ I h) fun us s1 ⟨vs,H1,I1,r1,q1⟩ => ?_) hs rfl))
  obtain ⟨a,e,⟨xs,hq⟩,q⟩:=q1
  subst e
  obtain ⟨u,rfl,ru⟩:=vals1 r1
  cases ru
  obtain ⟨its,rv,pl,hz⟩:=I1.list hq
  refine call_enumerate_list pl.isList fun h1 he hit hsz hk => ?_
  have I2:Inv X pins σ H1 { s1 with heap:=h1 }:=I1.kept (t':=s1.toks) hk
  have hne:s1.heap.objs.size+1≠s1.heap.objs.size:=Nat.succ_ne_self _
  refine wpAny_pyIter_enum (s := { s1 with heap:=h1 }) he ⟨_, [s1.heap.objs.size+1,s1.heap.objs.size],_,_,H1,rfl,I2,turn_enum a _ _ hne,⟨⟨_,he⟩,hit⟩,fun b hb => ?_,q⟩
  rcases List.mem_cons.mp hb with rfl | hb
  · exact I1.fpOk (Nat.le_succ _) (I1.hok.fresh (Nat.le_succ _))
  · rw [List.mem_singleton.mp hb]
    exact I1.fpOk (Nat.le_refl _) (I1.hok.fresh (Nat.le_refl _))

end

theorem for_enum {K:PySem.W.Frag} {a:Addr} {xs:List V} {g:TG} {tb:TS} {D:Ends} {σ : St} {H:Hp} (Pv:Nat→St→Hp→Prop) (h0:Pv 0 σ H) (hl:∀ i σ H,i≤xs.length→Pv i σ H→SqL K H a xs)
    (hs:∀ i x p σ H,xs[i]? = some x→Pv i σ H→H p=none→g (.ref p) σ (upd H p (.tup [.int (i:Int),x])) fun σ2 H2=>tb { D with nx:=Pv (i+1),ct:=Pv (i+1),bk:=D.nx } σ2 H2) (hd:∀ σ H,Pv xs.length σ H→D.nx σ H) :
    ∃ W:Nat→Nat→St→Hp→Prop,(∃ m,W 0 m σ H)∧∀ i m σ H,W i m σ H →
      ((Ite K a).stop i H∧D.nx σ H)∨((Ite K a).go i H∧∃ N:St→Hp→Prop,(∀ σ' H',N σ' H'→∃ m',m' < m∧W (i+1) m' σ' H')∧∀ x H',(Ite K a).yld i H x H'→g x σ H' fun σ2 H2=>tb { D with nx:=N,ct:=N,bk:=D.nx } σ2 H2):=by
  refine ⟨fun i m σ H=>m=xs.length - i∧i≤xs.length∧Pv i σ H,⟨xs.length,by simp,Nat.zero_le _,h0⟩,?_⟩
  rintro i m σ H ⟨rfl,hi,p⟩
  have q:=hl i σ H hi p
  by_cases hlt:i < xs.length
  · refine .inr ⟨⟨xs,xs[i],q,by simp [hlt]⟩,Pv (i+1),fun σ' H' p'=>⟨xs.length - (i+1),by omega,rfl,hlt,p'⟩,fun x H' y => ?_⟩
    obtain ⟨pa,v,hpa,rfl,hv,rfl⟩:=y
    exact hs i v pa σ H (hv xs q) p hpa
  · have e:i=xs.length:=by omega
    subst e
    exact .inl ⟨⟨xs,q,rfl⟩,hd σ H p⟩

section
variable {X:Cx}
inductive J_rSlS (x:V) (lo:Option Int) (hi:Option Int) (H:Hp) (Q:VK):Prop
  | mk:∀ z,(x = .str z)→(z.length≤sizeLine)→(Q (.str (Txt.slice z lo hi)) H)→J_rSlS x lo hi H Q
noncomputable def rSlS:V→Option Int→Option Int→Hp→VK→Prop:=fun x lo hi H Q=>J_rSlS x lo hi H Q
theorem sl_str:SlR X rSlS:=by
  intro pins s σ H x v vl vu lo hi sl Q I rx hs pl pu h
  obtain ⟨z,rfl,hz,q⟩:=h
  obtain ⟨t,rfl⟩:=rx
  refine ⟨"str",_,F.slot_str_getitem.lookup,typeIs_str _ _ _,?_⟩
  obtain ⟨o,ho,hc,hd⟩:=hs
  have fin:∀ t' k,EP X pins σ Q (.str (Txt.slice z lo hi) t') { s with toks:=k }:=fun t' k=>⟨.str _,H,I.tok _,⟨_,rfl⟩,q⟩
  cases pl with
  | none =>
    cases pu with
    | none=>exact wpAny_getItem_str_slice (l:=none) (u:=none) (st:=none) ⟨o,ho,hc,hd⟩ rfl (post_val_or_str ⟨Nat.le_trans (Txt.slice_le z _ _) hz,fin⟩)
    | int j uj=>exact wpAny_getItem_str_slice (l:=none) (u:=some (j,uj)) (st:=none) ⟨o,ho,hc,hd⟩ rfl (post_val_or_str ⟨Nat.le_trans (Txt.slice_le z _ _) hz,fin⟩)
  | int i ui =>
    cases pu with
    | none=>exact wpAny_getItem_str_slice (l:=some (i,ui)) (u:=none) (st:=none) ⟨o,ho,hc,hd⟩ rfl (post_val_or_str ⟨Nat.le_trans (Txt.slice_le z _ _) hz,fin⟩)
    | int j uj=>exact wpAny_getItem_str_slice (l:=some (i,ui)) (u:=some (j,uj)) (st:=none) ⟨o,ho,hc,hd⟩ rfl (post_val_or_str ⟨Nat.le_trans (Txt.slice_le z _ _) hz,fin⟩)
inductive J_call_isT (kK:PySem.W.Frag) (xs:List V) (H:Hp) (Q:VK):Prop
  | mk:∀ x T t b,(xs = [x,.ty T])→(TyOf kK H x t)→(PySem.W.kitOne kK t (.type T)=some b)→(Q (.bl b) H)→J_call_isT kK xs H Q
theorem call_isT:CallR X (.builtin "isinstance") (fun xs H Q=>J_call_isT X.K xs H Q):=by
  intro pins s σ H xs us Q I r h
  obtain ⟨x,T,t,b,rfl,ty,e,q⟩:=h
  obtain ⟨u,w',rfl,rx,ry⟩:=vals2 r
  cases ry
  exact isinst_ok I rx ty e fun tk=>⟨.bl b,H,I.tok _,rfl,q⟩
end
end L2
namespace L2
open PySem PySem.Spec PyProof.Rows

noncomputable def capsOf (cells:List (Str × Addr)):List (Str × NameKind)→List (Str × Addr)→List (Str × Addr)
  | [],acc=>acc
  | (n,k) :: r,acc=>if k == .free then (match cells.lookup n with | some c=>capsOf cells r ((n,c) :: acc) | none=>capsOf cells r acc) else capsOf cells r acc
theorem capsOf_cells {cells:List (Str × Addr)}:∀ {names:List (Str × NameKind)} {acc:List (Str × Addr)} {x:Str} {c:Addr},(∀ x c,acc.lookup x=some c→cells.lookup x=some c)→(capsOf cells names acc).lookup x=some c→cells.lookup x=some c
  | [],_,x,c,ha,h=>ha x c h
  | (n,k) :: r,acc,x,c,ha,h=>by
    unfold capsOf at h
    by_cases hk:(k == NameKind.free)=true
    · rw [if_pos hk] at h
      cases e:cells.lookup n with
      | none =>
        rw [e] at h
        exact capsOf_cells ha h
      | some d =>
        rw [e] at h
        refine capsOf_cells (fun y z hy => ?_) h
        rw [List.lookup_cons] at hy
        cases q:y == n with
        | true =>
          rw [q] at hy
          have:y=n:=by simpa using q
          rw [this,e];exact hy
        | false =>
          rw [q] at hy
          exact ha y z hy
    · rw [if_neg hk] at h
      exact capsOf_cells ha h
theorem capsOf_acc {cells:List (Str × Addr)}:∀ {names:List (Str × NameKind)} {acc:List (Str × Addr)} {x:Str},(acc.lookup x).isSome=true→((capsOf cells names acc).lookup x).isSome=true
  | [],_,_,h=>h
  | (n,k) :: r,acc,x,h=>by
    unfold capsOf
    by_cases hk:(k == NameKind.free)=true
    · rw [if_pos hk]
      cases e:cells.lookup n with
      | none=>exact capsOf_acc h
      | some d =>
        refine capsOf_acc ?_
        rw [List.lookup_cons]
        cases q:x == n with
        | true=>rfl
        | false=>exact h
    · rw [if_neg hk];exact capsOf_acc h
theorem capsOf_has {cells:List (Str × Addr)}:∀ {names:List (Str × NameKind)} {acc:List (Str × Addr)} {x:Str},(x,NameKind.free)∈names→(cells.lookup x).isSome=true→((capsOf cells names acc).lookup x).isSome=true
  | [],_,_,h,_=>nomatch h
  | (n,k) :: r,acc,x,h,hc=>by
    unfold capsOf
    rcases List.mem_cons.mp h with e | h
    · cases e
      rw [if_pos (show (NameKind.free == NameKind.free)=true from rfl)]
      cases e:cells.lookup n with
      | none=>rw [e] at hc;cases hc
      | some d =>
        refine capsOf_acc ?_
        rw [List.lookup_cons]
        simp
    · by_cases hk:(k == NameKind.free)=true
      · rw [if_pos hk]
        cases e:cells.lookup n with
        | none=>exact capsOf_has h hc
        | some d=>exact capsOf_has h hc
      · rw [if_neg hk];exact capsOf_has h hc
theorem caps_cells {cells:List (Str × Addr)} {names:List (Str × NameKind)} {x:Str} {c:Addr} (h:(capsOf cells names []).lookup x=some c):cells.lookup x=some c :=
  capsOf_cells (fun _ _ z=>by simp at z) h
theorem forIn_caps {env:Env}:∀ (names:List (Str × NameKind)) (acc:List (Str × Addr)),(∀ y∈names,y.2 = .free→∃ c,env.cells.lookup y.1=some c) →
    (forIn names acc fun x r=>match x with
      | (name,kind)=>if (kind == NameKind.free)=true then (do let c ← cellOf env name;pure (ForInStep.yield ((name,c) :: r))) else pure (ForInStep.yield r):Sem (List (Str × Addr)))=pure (capsOf env.cells names acc)
  | [],acc,_=>rfl
  | (n,k) :: r,acc,h=>by
    have hr:∀ y∈r,y.2 = .free→∃ c,env.cells.lookup y.1=some c:=fun y hy=>h y (List.mem_cons_of_mem _ hy)
    rw [List.forIn_cons]
    by_cases hk:(k == NameKind.free)=true
    · have ek:k = .free:=by simpa using hk
      obtain ⟨c,hc⟩:=h (n,k) List.mem_cons_self ek
      have e1:cellOf env n=pure c:=by
        have hc':env.cells.lookup n=some c:=hc
        unfold cellOf
        rw [hc']
      unfold capsOf
      rw [if_pos hk]
      have hc':env.cells.lookup n=some c:=hc
      rw [hc']
      simp only [hk,if_true,e1]
      exact forIn_caps r ((n,c) :: acc) hr
    · unfold capsOf
      rw [if_neg hk]
      simp only [hk]
      exact forIn_caps r acc hr
theorem closure_caps {scope:Scope} {env:Env} (h:∀ y∈scope.names,y.2 = .free→∃ c,env.cells.lookup y.1=some c):closureFor scope env=pure (capsOf env.cells scope.names []):=by
  have e:=forIn_caps scope.names [] h
  unfold closureFor
  show (Bind.bind (forIn scope.names [] fun x r=>match x with
      | (name,kind)=>if (kind == NameKind.free)=true then (do let c ← cellOf env name;pure (ForInStep.yield ((name,c) :: r))) else pure (ForInStep.yield r):Sem (List (Str × Addr))) fun r=>pure r)=_
  rw [e]
  rfl

theorem relabel_free {scope:Scope} {env:Env} {x:Str} (hc:∀ y∈scope.names,y.2 ≠ .cell) (h:(relabel scope env).names.lookup x=some .cell∨(relabel scope env).names.lookup x=some .free):(x,NameKind.free)∈scope.names:=by
  unfold relabel at h
  simp only at h
  generalize scope.names=names at h hc
  induction names with
  | nil=>rcases h with h | h <;> cases h
  | cons y r ih =>
    obtain ⟨n,k⟩:=y
    have hr:∀ y∈r,y.2≠NameKind.cell:=fun y hy=>hc y (List.mem_cons_of_mem _ hy)
    rw [List.map_cons] at h
    by_cases hk:(k == NameKind.free && env.scope.kind == .function && env.kindOf n == some .cell)=true
    · simp only [hk,if_true,List.lookup_cons] at h
      cases q:x == n with
      | true =>
        have e:x=n:=by simpa using q
        have ek:k = .free:=by
          have:=(Bool.and_eq_true_iff.mp (Bool.and_eq_true_iff.mp hk).1).1
          simpa using this
        rw [e,ek];exact List.mem_cons_self
      | false =>
        rw [q] at h
        exact List.mem_cons_of_mem _ (ih h hr)
    · simp only [hk,Bool.false_eq_true,if_false,List.lookup_cons] at h
      cases q:x == n with
      | true =>
        rw [q] at h
        have e:x=n:=by simpa using q
        have hk0:k ≠ .cell:=hc (n,k) List.mem_cons_self
        rcases h with h | h
        · exact absurd (Option.some.inj h) hk0
        · rw [e,Option.some.inj h];exact List.mem_cons_self
      | false =>
        rw [q] at h
        exact List.mem_cons_of_mem _ (ih h hr)

theorem relabel_of_free {scope:Scope} {env:Env} {x:Str} (h:scope.names.lookup x=some .free):(relabel scope env).names.lookup x=some .cell∨(relabel scope env).names.lookup x=some .free:=by
  unfold relabel
  simp only
  generalize scope.names=names at h
  induction names with
  | nil=>cases h
  | cons y r ih =>
    obtain ⟨n,k⟩:=y
    rw [List.map_cons]
    rw [List.lookup_cons] at h
    by_cases hk:(k == NameKind.free && env.scope.kind == .function && env.kindOf n == some .cell)=true
    · simp only [hk,if_true,List.lookup_cons]
      cases q:x == n with
      | true=>exact .inl rfl
      | false=>rw [q] at h;exact ih h
    · simp only [hk,Bool.false_eq_true,if_false,List.lookup_cons]
      cases q:x == n with
      | true=>rw [q] at h;exact .inr h
      | false=>rw [q] at h;exact ih h

noncomputable def cxComp (X:Cx) (scope:Scope) (N:List Str) (fp:List Addr) (s:Shared) (H:Hp):Cx :=
  { X with N:=N,s₀ := s,H₀ := H,env:=compEnvC scope (capsOf X.env.cells scope.names []) s.heap.objs.size X.env,outer:=X.stack,ex:=fp,fn:=fun _=>false,pn := [],xe:=fun _ _=>False }

structure CompScope (X:Cx) (scope:Scope) (own:List Str) (caps:List (Str × Nat)):Prop where
  kind:scope.kind = .function
  nocell:∀ y∈scope.names,y.2 ≠ .cell
  locs:∀ y∈scope.names,y.2 = .local→scope.names.lookup y.1=some .local
  frees:∀ y∈scope.names,y.2 = .free→X.env.kindOf y.1=some .cell
  own:∀ x∈own,scope.names.lookup x=some .local
  caps:∀ p∈caps,X.N[p.2]? = some p.1∧X.env.kindOf p.1=some .cell∧scope.names.lookup p.1=some .free

noncomputable def capt (σ : St) (caps:List (Str × Nat)):St:=caps.map fun p=>(σ[p.2]?).join
section
variable {X:Cx} {scope:Scope} {own:List Str} {caps:List (Str × Nat)} {pins:List (Addr × Obj)} {σ : St} {H:Hp} {s:Shared} {fp:List Addr}
theorem comp_ok (S:CompScope X scope own caps) (I:Inv X pins σ H s) (hf:∀ b∈fp,FpOk X pins H b) (hl:∀ b∈fp,b < s.heap.objs.size):(cxComp X scope (own ++ caps.map (·.1)) fp s H).Ok where
  mod:=I.ok.mod
  kind:=S.kind
  glob:=I.ok.glob
  blt:=I.ok.blt
  above:=Nat.le_refl _
  inj:=fun x y c h1 h2=>I.ok.inj x y c (caps_cells h1) (caps_cells h2)
  has:=fun x h=>by
    have hm:=relabel_free S.nocell h
    obtain ⟨c,hc⟩:=I.ok.has x (.inl (S.frees _ hm rfl))
    exact Option.isSome_iff_exists.mp (capsOf_has hm (by rw [hc];rfl))
  cab:=fun x c h _=>nomatch h
  hd:=I.ok.hd
  frames:=I.ok.frames
  stk := .inl rfl
  exf:=fun b hb=>⟨Nat.ne_of_lt (hl b hb),fun x c h=>(hf b hb).2.2.2.2.1 x c (caps_cells h)⟩
  bs:=I.bs
  bsz:=Nat.le_trans I.ok.bsz I.sz
  noex:=fun b o e hb=>by
    rcases (hf b hb).2.2.2.1 with z | z
    · exact I.ok.noex b o e z
    · exact absurd (Nat.lt_of_lt_of_le (Nat.lt_of_lt_of_le (Heap.lt_size e) I.ok.bsz) z) (Nat.lt_irrefl _)
  exfs:=fun b hb z=>by
    rcases List.mem_cons.mp (I.stkSub b z) with e | e
    · exact (hf b hb).2.1 e
    · exact (hf b hb).2.2.1 e
  funs:=I.stack
  frf:=I.stkFree
theorem comp_start (S:CompScope X scope own caps) (I:Inv X pins σ H s) (hf:∀ b∈fp,FpOk X pins H b) (hl:∀ b∈fp,b < s.heap.objs.size) {h1:Heap} {m:Str→Option Value} {t:Nat} (hn:h1.Ns s.heap.objs.size m)
    (hk:∀ b o,s.heap.get? b=some o→h1.get? b=some o):Inv (cxComp X scope (own ++ caps.map (·.1)) fp s H) [] (List.replicate own.length none ++ capt σ caps) H { s with heap:=h1,toks:=t }:=by
  refine ⟨comp_ok S I hf hl,rfl,I.bare,Un.kept hk,⟨m,hn,fun i y v e1 e2 e3 => ?_⟩,fun x c e => ?_,I.hok.fresh (Nat.le_refl _),fun x c e=>I.freeC x c (caps_cells e),(fun p hp=>by cases hp),I.hok.kept hk,?_⟩
  · have hi:own.length≤i:=by
      by_cases hi:i < own.length
      · rw [List.getElem?_append_left (by simpa using hi),List.getElem?_replicate,if_pos hi] at e2
        cases e2
      · omega
    rw [List.getElem?_append_right (by simpa using hi),List.length_replicate] at e2
    unfold capt at e2
    rw [List.getElem?_map] at e2
    have e1':(own ++ caps.map (·.1))[i]? = some y:=e1
    rw [List.getElem?_append_right hi,List.getElem?_map] at e1'
    cases q:caps[i - own.length]? with
    | none=>rw [q] at e2;cases e2
    | some p =>
      rw [q] at e1' e2
      have ey:p.1=y:=Option.some.inj e1'
      have ev:(σ[p.2]?).join=some v:=Option.some.inj e2
      have eσ : σ[p.2]? = some (some v):=by
        cases z : σ[p.2]? with
        | none=>rw [z] at ev;cases ev
        | some w'=>rw [z] at ev;rw [show w'=some v from ev]
      obtain ⟨hN,hkind,hfree⟩:=S.caps p (List.mem_of_getElem? q)
      rw [ey] at hN hkind hfree
      obtain ⟨mX,hnX,hlX⟩:=I.loc
      obtain ⟨u,ru,lk⟩:=hlX p.2 y v hN eσ (.inr (.inl hkind))
      refine ⟨u,ru,?_⟩
      rcases lk with ⟨k1,_⟩ | ⟨_,c,hc,hcell⟩
      · rw [hkind] at k1;cases k1
      · have hm:=relabel_free S.nocell (relabel_of_free (env:=X.env) hfree)
        obtain ⟨c',hc'⟩:=Option.isSome_iff_exists.mp (capsOf_has (acc := []) hm (by rw [hc];rfl))
        have:=caps_cells hc'
        rw [hc] at this;cases this
        obtain ⟨o,ho,hd⟩:=hcell
        exact .inr ⟨relabel_of_free (env:=X.env) hfree,c,hc',⟨o,hk _ _ ho,hd⟩⟩
  · obtain ⟨v,o,ho,hd⟩:=I.cell x c (caps_cells e)
    exact ⟨v,o,hk _ _ ho,hd⟩
  · show _=(own ++ caps.map (·.1)).length
    simp [capt]
theorem comp_back {N:List Str} {τ : St} {H':Hp} {s':Shared} (I:Inv X pins σ H s) (J:Inv (cxComp X scope N fp s H) [] τ H' s') (hf:∀ b∈fp,FpOk X pins H b):Inv X pins σ H' s' :=
  I.call' (ch:=fp) J.os J.base J.hok J.bare fun b hb=>by
    obtain ⟨_,f1,_,f3,f4,f5⟩:=hf b hb
    exact ⟨f3,f1,f4,f5⟩
theorem comp_go {prog:Program} {w:World} {A:Around} {R:Result→Shared→Prop} {elt target iter:Expr} {pos:Pos} {it acc:Value} {env:Env} (Iv:Nat→Shared→Prop)
    (turn:∀ n s,Iv n s→wpAny (model prog w) A (pyNext it) (fun r s₁ => match r with
      | none=>R (.ok .next) s₁
      | some v=>wpAny (model prog w) A (letOwnedTupleGo target it v) (fun _ s₂ => wpAny (model prog w) A (assign target env v) (fun _ s₃ => wpAny (model prog w) A (eval elt env) (fun x s₄ =>
              wpAny (model prog w) A (call (.builtin "list.append") [acc,x]) (fun _ s₅ => ∃ m,m < n∧Iv m s₅) (fun _ _=>False) s₄) (fun _ _=>False) s₃) (fun _ _=>False) s₂) (fun _ _=>False) s₁) (fun _ _=>False) s)
    (n:Nat) (h:Iv n s):codeAny (model prog w) A (.compLoop (.ListComp elt [⟨target,iter, [],0⟩] scope pos) 0 it acc env) R s:=by
  refine codeAny_loop rfl Iv (fun n s hI => ?_) n h
  show wpAny _ A ((compTurn (.ListComp elt [⟨target,iter, [],0⟩] scope pos) 0 it acc env).onRaise (fun x=>do noteFrame x env;theTreesLotGoes x)) _ _ s
  refine wpAny_noted ?_
  rw [compTurn_list]
  refine wpAny_bind (wpAny_standAt (wpAny_bind (wpAny_mono (turn n s hI) (fun r s₁ h₁ => ?_) fun _ _ z=>z.elim)))
  cases r with
  | none=>exact wpAny_pure h₁
  | some v =>
    refine wpAny_bind (wpAny_mono h₁ (fun _ s₂ h₂ => wpAny_bind (wpAny_mono h₂ (fun _ s₃ h₃ => wpAny_bind (wpAny_tests_nil ?_)) fun _ _ z=>z.elim)) fun _ _ z=>z.elim)
    exact wpAny_bind (wpAny_bind (wpAny_mono h₃ (fun x s₄ h₄ => wpAny_bind (wpAny_mono h₄ (fun _ s₅ h₅ => wpAny_pure (wpAny_pure ⟨rfl,h₅⟩)) fun _ _ z=>z.elim)) fun _ _ z=>z.elim))

noncomputable def CompBody (J:It) (g:TG) (te:TE) (τ0:St) (H1:Hp) (Q:VK):Prop := ∀ D,H1 D=none→∃ W:Nat→Nat→St→List V→Hp→Prop,
  (∃ m,W 0 m τ0 [] (upd H1 D (.lst []))) ∧
  ∀ i m τ ys H,W i m τ ys H→H D=some (.lst ys)∧((J.stop i H∧Q (.ref D) H)∨(J.go i H∧ys.length < sizeLine∧∀ x H',J.yld i H x H'→g x τ H' fun τ2 H2=>te τ2 H2 fun y H3 =>
    H3 D=some (.lst ys)∧∃ m',m' < m∧W (i+1) m' τ2 (ys ++ [y]) (upd H3 D (.lst (ys ++ [y])))))
noncomputable def tComp (wi:TI) (g:TG) (te:TE) (k:Nat) (caps:List (Str × Nat)):TE:=fun σ H Q=>wi σ H fun J H1=>CompBody J g te (List.replicate k none ++ capt σ caps) H1 Q

theorem comp_core {tg elt iter:Expr} {wi:TI} {g:TG} {te:TE} {pos p2:Pos} {use:Option (Value→Sem Unit)} {Q:VK} {Q':Value→Shared→Prop} (S:CompScope X scope own caps) (hi:PI X tg iter wi) (hc:X.calm=true)
    (hg:∀ fp s H,PG (cxComp X scope (own ++ caps.map (·.1)) fp s H) tg g) (he:∀ fp s H,PE (cxComp X scope (own ++ caps.map (·.1)) fp s H) elt te)
    (I:Inv X pins σ H s) (h:tComp wi g te own.length caps σ H Q)
    (fin:∀ D C H5 s5,Inv X pins σ H5 s5→Q (.ref D) H5→(∃ m,s5.heap.Ns C m)→H5 C=none→C≠X.env.locals→X.s₀.heap.objs.size≤C→(∀ x c,X.env.cells.lookup x=some c→c≠C)→(∀ p∈X.pn ++ pins,p.1≠C) →
      compPost (model X.prog X.w) X.A X.xe use Q' (.ref D) C (.ok .next) s5)
    (hs:∀ x,foldedSetIterable iter X.env x=pure x:=by intro _;rfl) :
    wpAny (model X.prog X.w) X.A (comprehension (.ListComp elt [⟨tg,iter, [],0⟩] scope pos) scope X.env p2 (newList []) false (eval iter X.env) use) Q' X.xe s:=by
  have hclos:closureFor scope X.env=pure (capsOf X.env.cells scope.names []):=closure_caps fun y hy hk=>I.ok.has y.1 (.inl (S.frees y hy hk))
  refine wpAny_comprehension_free (g:=⟨tg,iter, [],0⟩) (gs := []) rfl hs hclos S.kind S.locs (thn (hi pins s σ H _ I h) fun v s1 h1=>thn h1 fun itv s2 h2 => ?_)
  obtain ⟨it,fp,tn,J,H2,e,I2,T,st2,f2,R⟩:=h2
  subst e
  refine wpAny_newObj_type (wpAny_newFunctionEnv S.nocell (by intro y hy;simp at hy) (fun h₁ hns₁ hsb₁ => ?_) S.kind)
  have fr2:H2 s2.heap.objs.size=none:=I2.hok.fresh (Nat.le_refl _)
  obtain ⟨W,⟨m0,w0⟩,turn⟩:=R s2.heap.objs.size fr2
  have I3:Inv X pins σ (upd H2 s2.heap.objs.size (.lst [])) { s2 with heap:=s2.heap.push { cls := .type "list",dict:=none,data := .seq ([]:List Value).toArray } }:=I2.lnew (its := []) (t':=s2.toks) .nil (Nat.zero_le _)
  have lt2:∀ b∈fp,b < s2.heap.objs.size:=fun b hb=>by
    obtain ⟨o,ho,_⟩:=T.obj _ _ st2 b hb
    exact Heap.lt_size ho
  have f3:∀ b∈fp,FpOk X pins (upd H2 s2.heap.objs.size (.lst [])) b:=fun b hb=>⟨by rw [upd_ne (Nat.ne_of_lt (lt2 b hb))];exact (f2 b hb).1,(f2 b hb).2⟩
  generalize hs3:({ s2 with heap:=s2.heap.push { cls := .type "list",dict:=none,data := .seq ([]:List Value).toArray } }:Shared)=s3 at I3
  have hz3:s3.heap.objs.size=s2.heap.objs.size+1:=by rw [← hs3];exact Heap.size_push _ _
  have kp23:∀ b o,s2.heap.get? b=some o→s3.heap.get? b=some o:=fun b o e=>by rw [← hs3];exact Heap.get?_push_of_some _ e
  have lt3:∀ b∈fp,b < s3.heap.objs.size:=fun b hb=>by rw [hz3];exact Nat.lt_succ_of_lt (lt2 b hb)
  have hns₁':h₁.Ns s3.heap.objs.size (fun x=>([]:List (Str × Value)).reverse.lookup x):=by rw [← hs3];exact hns₁
  have kp31:∀ b o,s3.heap.get? b=some o→h₁.get? b=some o:=fun b o e=>by
    have hb:b≠s3.heap.objs.size:=Nat.ne_of_lt (Heap.lt_size e)
    rw [← hs3] at e hb
    exact hsb₁.extBut b o hb (Heap.get?_push_of_some _ e)
  have J1:=comp_start S I3 f3 lt3 (t:=s2.toks+([]:List (Str × Value)).length) hns₁' kp31
  have st1:tn 0 h₁ := T.keep _ _ _ st2 fun b hb o e=>kp31 b o (kp23 b o e)
  -- the loop
  have loop:∀ s₃ : Shared,s₃ = { s3 with heap:=h₁,toks:=s2.toks+([]:List (Str × Value)).length } →
      codeAny (model X.prog X.w) X.A (.compLoop (.ListComp elt [⟨tg,iter, [],0⟩] scope pos) 0 (.ref it) (.ref s2.heap.objs.size) (cxComp X scope (own ++ caps.map (·.1)) fp s3 (upd H2 s2.heap.objs.size (.lst []))).env)
        (compPost (model X.prog X.w) X.A X.xe use Q' (.ref s2.heap.objs.size) s3.heap.objs.size) s₃ := by
    rintro s₃ rfl
    refine comp_go (fun n s'=>∃ i τ ys H',Inv (cxComp X scope (own ++ caps.map (·.1)) fp s3 (upd H2 s2.heap.objs.size (.lst []))) [] τ H' s'∧tn i s'.heap∧(∀ b∈fp,H' b=none)∧W i n τ ys H') ?_ m0
      ⟨0,_, [],_,J1,st1,fun b hb=>(f3 b hb).1,w0⟩
    rintro n s' ⟨i, τ,ys,H',J',st',fr',w'⟩
    have fY:∀ {H'':Hp},(∀ b∈fp,H'' b=none)→∀ b∈fp,FpOk (cxComp X scope (own ++ caps.map (·.1)) fp s3 (upd H2 s2.heap.objs.size (.lst []))) [] H'' b:=fun hn b hb =>
      ⟨hn b hb,Nat.ne_of_lt (lt3 b hb),fun z=>by
          rcases List.mem_cons.mp (I3.stkSub b z) with e | e
          · exact (f3 b hb).2.1 e
          · exact (f3 b hb).2.2.1 e,.inl hb,fun x c e=>(f3 b hb).2.2.2.2.1 x c (caps_cells e),(fun p hp=>by cases hp)⟩
    obtain ⟨hD,tt⟩:=turn i n τ ys H' w'
    rcases tt with ⟨stop,qn⟩ | ⟨go,hlen,step⟩
    · refine thn (T.done (cxComp X scope (own ++ caps.map (·.1)) fp s3 (upd H2 s2.heap.objs.size (.lst []))) rfl rfl rfl hc i [] s' τ H' (fun _ _=>False) J' (fY fr') st' stop) fun r s4 ⟨hr,J4⟩ => ?_
      subst hr
      obtain ⟨m4,hn4,_⟩:=J4.loc
      have I5:=comp_back I3 J4 f3
      refine fin _ _ _ s4 I5 qn ⟨m4,hn4⟩ J4.free ?_ ?_ (fun x c e z => ?_) fun p hp z => ?_
      · exact Nat.ne_of_gt I3.lt
      · exact I3.sz
      · obtain ⟨v,q⟩:=I3.cell x c e
        rw [z] at q
        exact absurd q.lt (Nat.lt_irrefl _)
      · have q:=(I3.pin p hp).1
        rw [z] at q
        exact absurd (Heap.lt_size q) (Nat.lt_irrefl _)
    · refine thn (T.item (cxComp X scope (own ++ caps.map (·.1)) fp s3 (upd H2 s2.heap.objs.size (.lst []))) rfl rfl rfl hc i [] s' τ H' (fun _ _=>False) J' (fY fr') st' go) fun r s4 ⟨u,hr,h4⟩ => ?_
      subst hr
      refine thn h4 fun _ s5 ⟨x,H5,J5,r5,y5,st5,fr5⟩ => ?_
      have J5':=J5.pinned (fY fr5) (T.obj _ _ st5)
      refine thn (hg fp s3 _ _ s5 τ H5 x u _ J5' r5 (step x H5 y5)) fun _ s6 ⟨τ6,H6,J6,q6⟩ => ?_
      refine thn (he fp s3 _ _ s6 τ6 H6 _ J6 q6) fun yv s7 ⟨y,H7,J7,r7,hD7,m',hm',w7⟩ => ?_
      refine thn (mt_append (X:=cxComp X scope (own ++ caps.map (·.1)) fp s3 (upd H2 s2.heap.objs.size (.lst []))) _ s7 τ6 H7 (.ref s2.heap.objs.size) [y] _ [yv] (fun _ H8=>H8=upd H7 s2.heap.objs.size (.lst (ys ++ [y]))) J7 rfl (.cons r7 .nil) ⟨_,ys,y,rfl,rfl,hD7,hlen,rfl⟩) fun _ s8 ⟨_,H8,J8,_,e8⟩ => ?_
      subst e8
      refine ⟨m',hm',i+1, τ6,ys ++ [y],_,J8.unpinned,T.keep _ _ _ st5 fun b hb o e=>(J8.pin (b,o) (List.mem_append_right _ (List.mem_append_right _ (mem_pinsAt hb e)))).1,fun b hb => ?_,w7⟩
      obtain ⟨o,e,d⟩:=T.obj _ _ st5 b hb
      exact (J8.pin (b,o) (List.mem_append_right _ (List.mem_append_right _ (mem_pinsAt hb e)))).2.1
  have hloop:=loop _ rfl
  subst hs3
  exact codeAny_compStart_list hloop (T.self _ 0 _ _ _ st1 hloop)
theorem pe_comp {tg elt iter:Expr} {wi:TI} {g:TG} {te:TE} {pos:Pos} (S:CompScope X scope own caps) (hi:PI X tg iter wi) (hc:X.calm=true)
    (hg:∀ fp s H,PG (cxComp X scope (own ++ caps.map (·.1)) fp s H) tg g) (he:∀ fp s H,PE (cxComp X scope (own ++ caps.map (·.1)) fp s H) elt te)
    (hs:∀ x,foldedSetIterable iter X.env x=pure x:=by intro _;rfl):PE X (.ListComp elt [⟨tg,iter, [],0⟩] scope pos) (tComp wi g te own.length caps):=by
  intro pins s σ H Q I h
  rw [eval_ListComp]
  refine comp_core (use:=none) (Q:=Q) S hi hc hg he I h (fun D C H5 s5 I5 q ⟨m,hn⟩ hC hL hz hcell hpin => ?_) hs
  refine ⟨m,hn,fun h' hs' => ?_⟩
  exact ⟨.ref D,H5,I5.turned (t':=s5.toks) (fun b o hb e=>(hs'.2 b hb).trans e) hC hL (.inr hz) hcell hpin,rfl,q⟩
theorem ps_setComp {i:Nat} {y:Str} {tg elt iter:Expr} {wi:TI} {g:TG} {te:TE} {pos spos py:Pos} (hN:X.N.Nodup) (hiN:X.N[i]? = some y) (hy:X.env.scope.names.lookup y=some .local) (S:CompScope X scope own caps) (hi:PI X tg iter wi) (hc:X.calm=true)
    (hg:∀ fp s H,PG (cxComp X scope (own ++ caps.map (·.1)) fp s H) tg g) (he:∀ fp s H,PE (cxComp X scope (own ++ caps.map (·.1)) fp s H) elt te)
    (hsw:swapsWith (.ListComp elt [⟨tg,iter, [],0⟩] scope pos) (some (.Name y py)) spos.line X.env=pure true)
    (hs:∀ x,foldedSetIterable iter X.env x=pure x:=by intro _;rfl):PS X (.Assign [.Name y py] (.ListComp elt [⟨tg,iter, [],0⟩] scope pos) spos) (tAsg (tComp wi g te own.length caps) (gName i)):=by
  intro pins s σ H D I h
  rw [exec_Assign_Name_used _ _ _ _ hsw]
  refine wpAny_bind (wpAny_standAt (wpAny_bind ?_))
  show wpAny _ X.A (do let _ ← comprehension (.ListComp elt [⟨tg,iter, [],0⟩] scope pos) scope X.env _ (newList []) false (eval iter X.env) (some (assign (.Name y py) X.env))) _ _ s
  refine wpAny_bind (wpAny_mono (comp_core (use:=some (assign (.Name y py) X.env)) (Q:=fun x H1=>D.nx (σ.set i (some x)) H1) (Q':=fun _ s'=>SP X pins D .next s') S hi hc hg he I h (fun A C H5 s5 I5 q ⟨m,hn⟩ hC hL hz hcell hpin => ?_) hs)
    (fun _ s' hq=>wpAny_pure (wpAny_pure hq)) fun _ _ e=>e)
  show wpAny _ X.A (assign (.Name y py) X.env (.ref A)) _ _ _
  refine wpAny_assign_Name (store_ok2 I5 hN hiN (.inl hy) (v := .ref A) rfl (fun s6 I6 ⟨a,hsb,ha⟩ => ?_) (.inr hy))
  have haC:C≠a:=by
    rcases ha with ha | ha
    · rw [ha];exact hL
    · exact fun z=>hcell y a ha z.symm
  refine ⟨m,hn.sameBut hsb haC,fun h' hs' => ?_⟩
  exact ⟨_,H5,I6.turned (t':=s6.toks) (fun b o hb e=>(hs'.2 b hb).trans e) hC hL (.inr hz) hcell hpin,q⟩
end
end L2
namespace L2
open PySem PySem.Spec PyProof.Rows

structure Has (P:Program) (w:World) (K:PySem.W.Frag) (mg:Str→Option Value) (base:Heap) (k:Nat) (x:Str) (ps:List Str) (sp:Sp):Prop where
  ex:∃ f fd,FnOk P w K mg base CX0 k f fd ps sp∧mg x=some (.ref f)∧PySem.W.keepIn K (.ref f)=true∧Binds K fd ps []
section
variable {X:Cx} {k k':Nat} {x:Str} {ps:List Str} {sp:Sp} {p pos:Pos} {e:Expr} {es:List Expr} {t:TA}
theorem pe_callH (h:Has X.prog X.w X.K X.mg X.base k x ps sp) (hr:Room k' X.A) (hk:k≤k') (hg:Gl X x) (ha:PA X (e :: es) t) (hdb:(x == ("__debug__" : Str))=false:=by decide)
    (he:starEach (e :: es) X.env=(false,eval e X.env) :: starEach es X.env:=by rfl) (hpl:(backTo pos (starEach es X.env)).any (·.1)=false:=by rfl) :
    PE X (.Call (.Name x p) (e :: es) [] pos) (tCall sp [] E0 t):=by
  obtain ⟨f,fd,F,hm,hkp,hb⟩:=h.ex
  exact pe_call F (hr.mono hk) hg hm hkp hb .nil pass0 ha hdb he hpl
end
structure Def (K:PySem.W.Frag) (mg:Str→Option Value) (x:Str) (st:Stmt) (ps:List Str):Prop where
  ex:∃ f fd,Fun K x x st f fd∧mg x=some (.ref f)∧Binds K fd ps []
theorem Def.has {P:Program} {w:World} {K:PySem.W.Frag} {mg:Str→Option Value} {base:Heap} {x:Str} {st:Stmt} {N ps:List Str} {k:Nat} {sp:Sp} (D:Def K mg x st ps) (S:FnScope N ps (defScope st)) (len:∀ vs H Q E,sp vs H Q E→vs.length=ps.length)
    (hbody:∀ (f:Addr) (cdv:Value) (A:Around) (outer:List Env) (s:Shared) (H:Hp) (vs:List V) (Q:VK) (E:XK),Room k (A.deeper (envOfC x (defScope st) s.heap.objs.size f cdv))→sp vs H Q E →
      ∃ t,PSs (cxOf CX0 P w K mg base N x (defScope st) f cdv A outer s H E).nox (defBody st) t∧t { nx:=fun _ H'=>Q .non H',rt:=Q } (start N vs) H):Has P w K mg base (k+1) x ps sp:=by
  obtain ⟨f,fd,F,hm,hb⟩:=D.ex
  exact ⟨f,fd,F.ok S len (hbody f),hm,F.kp,hb⟩

theorem same_new {H:Hp} {p:Addr} (h:H p=none) (o:HO):Same H (upd H p o):=fun b u q=>by rw [upd_ne (ne_of_none q h)];exact q
theorem Same.tup {K:PySem.W.Frag} {H H':Hp} {a:Addr} {xs:List V} (e:Same H H') (h:SqT K H a xs):SqT K H' a xs:=by
  rcases h with (h | ⟨o,h⟩) | h
  · exact .inl (.inl (e _ _ h))
  · exact .inl (.inr ⟨o,e _ _ h⟩)
  · exact .inr h
theorem Same.put {H0 H:Hp} {p:Addr} {o:HO} (e:Same H0 H) (h:H0 p=none):Same H0 (upd H p o):=fun b u q=>by rw [upd_ne (ne_of_none q h)];exact e b u q

noncomputable def checkComp (xsc:Scope) (xN:List Str) (scope:Scope) (own:List Str) (caps:List (Str × Nat)):Bool :=
  scope.names.all (fun y=>y.2 != .cell) && scope.names.all (fun y=>y.2 != .local || scope.names.lookup y.1 == some .local) && scope.names.all (fun y=>y.2 != .free || xsc.names.lookup y.1 == some .cell)
    && own.all (fun x=>scope.names.lookup x == some .local) && caps.all (fun p=>xN[p.2]? == some p.1 && xsc.names.lookup p.1 == some .cell && scope.names.lookup p.1 == some .free)
theorem comp_scope {X:Cx} {scope:Scope} {own:List Str} {caps:List (Str × Nat)} (xsc:Scope) (xN:List Str) (hx:X.env.scope=xsc) (hN:X.N=xN) (hk:scope.kind = .function) (c:checkComp xsc xN scope own caps=true):CompScope X scope own caps:=by
  unfold checkComp at c
  simp only [Bool.and_eq_true,List.all_eq_true,Bool.or_eq_true,bne_iff_ne,beq_iff_eq,ne_eq] at c
  obtain ⟨⟨⟨⟨c1,c2⟩,c3⟩,c4⟩,c5⟩:=c
  refine ⟨hk,c1,fun y hy e => ?_,fun y hy e => ?_,c4,fun p hp => ?_⟩
  · rcases c2 y hy with z | z
    · exact absurd e z
    · exact z
  · rcases c3 y hy with z | z
    · exact absurd e z
    · show X.env.scope.names.lookup y.1=_
      rw [hx];exact z
  · obtain ⟨⟨z1,z2⟩,z3⟩:=c5 p hp
    refine ⟨by rw [hN];exact z1,?_,z3⟩
    show X.env.scope.names.lookup p.1=_
    rw [hx];exact z2
structure Blt (mg:Str→Option Value):Prop where
  len_:mg "len" = none
  min_:mg "min" = none
  max_:mg "max" = none
  sum_:mg "sum" = none
  range_:mg "range" = none
  enumerate_:mg "enumerate" = none
  isinstance_:mg "isinstance" = none
  tuple_:mg "tuple" = none
  int_:mg "int" = none
  bool_:mg "bool" = none
  str_:mg "str" = none
  list_:mg "list" = none
theorem boot_min_:bootBuiltins "min" = some (.builtin "min"):=by decide +kernel
theorem boot_max_:bootBuiltins "max" = some (.builtin "max"):=by decide +kernel
theorem boot_isinstance_:bootBuiltins "isinstance" = some (.builtin "isinstance"):=by decide +kernel
theorem boot_tuple_:bootBuiltins "tuple" = some (.type "tuple"):=by decide +kernel
theorem boot_int_:bootBuiltins "int" = some (.type "int"):=by decide +kernel
theorem boot_bool_:bootBuiltins "bool" = some (.type "bool"):=by decide +kernel
theorem boot_list_:bootBuiltins "list" = some (.type "list"):=by decide +kernel
theorem Paired.at {α β : Type} {F : α → β → Prop}:∀ {l₁ : List α} {l₂ : List β} {i:Nat} {a : α},Paired F l₁ l₂ → l₁[i]? = some a→∃ b,l₂[i]? = some b∧F a b
  | _,_,_,_,.nil,e=>by simp at e
  | _,_,0,_,.cons h _,e=>by simp at e;subst e;exact ⟨_,rfl,h⟩
  | _,_,i+1,a,.cons _ t,e=>by
    obtain ⟨b,h1,h2⟩:=Paired.at (i:=i) (a:=a) t (by simpa using e)
    exact ⟨b,by simpa using h1,h2⟩
theorem pos' {j:Int} (h:decide (0 < j)=true:=by decide):0 < j:=of_decide_eq_true h
theorem div' {i j:Int} (h:(decide (0 < j) && decide (j < 1073741824))=true:=by decide):CDiv i j :=
  ⟨of_decide_eq_true (Bool.and_eq_true_iff.mp h).1,of_decide_eq_true (Bool.and_eq_true_iff.mp h).2⟩
theorem iteD {c A B:Prop} [Decidable c] (h1:c→A) (h2:¬ c→B):if decide c=true then A else B:=by
  by_cases h:c
  · rw [decide_eq_true h];exact iteT (h1 h)
  · rw [decide_eq_false h];exact iteF (h2 h)
theorem iteDN {c A B:Prop} [Decidable c] (h1:¬ c→A) (h2:c→B):if (!decide c)=true then A else B:=by
  by_cases h:c
  · rw [decide_eq_true h];exact iteF (h2 h)
  · rw [decide_eq_false h];exact iteT (h1 h)
end L2
namespace L2
open PySem PySem.Spec PyProof.Rows

noncomputable def F2 (h:Heap) (e:Addr) (x:Value):Prop := ∃ o vs,h.get? e=some o∧o.data = .fields vs∧vs[2]? = some x
noncomputable def Ctx0 (h:Heap) (e:Addr):Prop:=F2 h e .none
theorem F2.other {h:Heap} {e b:Addr} {x:Value} {f:Obj→Obj} (c:F2 h e x) (n:b≠e):F2 (h.update b f) e x:=by
  obtain ⟨o,vs,a,d,i⟩:=c
  exact ⟨o,vs,(Heap.get?_update_other _ _ n).trans a,d,i⟩
section
variable {M:Model} {A:Around} {E:Value→Shared→Prop} {s:Shared}
inductive Entered (l:List Env) (e:Addr) (oe:Obj) (L:Addr) (h h':Heap):Prop
  | mk (T:Addr) (oT:Obj) (ts:Array Value) (old:∀ b o,b≠e→b ∉ l.filterMap (·.frame)→h.get? b=some o→h'.get? b=some o) (slots:∀ b o,b≠e→h.get? b=some o→∃ sl,h'.get? b=some { o with slots:=sl })
    (own:h'.get? e=some (oe.mapFields (·.setIfInBounds 1 (.ref T)))) (new:h.get? T=none) (ne:T≠e) (size:h.objs.size≤T) (there:h'.get? T=some oT) (data:oT.data = .fields ts) (fl:ts[3]? = some (rawInt L)):Entered l e oe L h h'
theorem entry_on {base:Heap} {env:Env} {outer:List Env} {L e:Addr} {oe:Obj} {vs:Array Value} {hd:Value} {nx:Bool} {Q:Unit→Shared→Prop}
    (af:A.frames=some (env :: outer)) (ff:s.heap.FunFrames base (env :: outer)) (fL:env.frame=some L) (ge:s.heap.get? e=some oe) (gd:oe.data = .fields vs) (gz:1 < vs.size)
    (k:∀ h',Entered (env :: outer) e oe L s.heap h'→Q () { s with heap:=h' }) :
    wpAny M A (do let a ← frameOf env;let pl ← entryPlaceOf L nx;let b ← EntryCells.newEntry hd a .none (rawInt L) .none pl;setField (.ref e) 1 b) Q E s:=by
  have hne:e ∉ (env :: outer).filterMap (·.frame):=fun m=>by
    obtain ⟨_,o,q,nf⟩:=ff.mem m
    rw [ge] at q
    cases q
    exact nf vs gd
  refine wpAny_bind (wpAny_frameOf_fun af ff fL fun h1 sl => ?_)
  refine wpAny_bind (wpAny_entryPlaceOf fun pl hp => ?_)
  unfold EntryCells.newEntry newFields
  refine wpAny_bind (wpAny_newObj_type ?_ (hp.sizeOk5 _ _ _ _ _))
  have g1:h1.get? e=some oe:=(sl.2.1 e hne).trans ge
  generalize hO:({ cls := .type "traceback",dict:=none,data := .fields ([hd,.ref L,.none,rawInt L,.none] ++ (if pl.isEmpty then List.replicate 6 Value.none else pl)).toArray }:Obj)=oT
  have g2:=Heap.get?_push_of_some (h:=h1) oT g1
  refine wpAny_setField g2 gd gz (k _ ?_)
  have nT:h1.objs.size≠e:=Nat.ne_of_gt (Heap.lt_size g1)
  have dd:=Obj.data_mapFields gd (·.setIfInBounds 1 (Value.ref h1.objs.size))
  have up:∀ b o,b≠e→h1.get? b=some o→((h1.push oT).update e (Obj.mapFields (·.setIfInBounds 1 (Value.ref h1.objs.size)))).get? b=some o:=fun b o n q=>by
    rw [Heap.get?_update_other _ _ (Ne.symm n)]
    exact Heap.get?_push_of_some _ q
  refine ⟨h1.objs.size,oT,_,fun b o n m q=>up b o n ((sl.2.1 b m).trans q),fun b o n q => ?_,Heap.get?_update_self _ g2 (Obj.isFreed_of_fields dd),Heap.get?_none_of_le (Nat.le_of_eq sl.1.symm),nT,Nat.le_of_eq sl.1.symm,?_,(by rw [← hO]),?_⟩
  · obtain ⟨x,q'⟩:=sl.2.2 b o q
    exact ⟨x,up b _ n q'⟩
  · rw [Heap.get?_update_other _ _ (Ne.symm nT)]
    exact Heap.get?_push_size h1 (by rw [← hO];rfl)
  · first
      | (simp;done)
      | (rcases hp with rfl | ⟨_,_,_,_,_,_,_,rfl⟩ <;> simp)
theorem Entered.noted {base:Heap} {l:List Env} {e L:Addr} {oe:Obj} {vs:Array Value} {a0:Value} {h h':Heap} (x:Entered l e oe L h h') (kb:base.StaysIn h) (be:base.get? e=none) (ff:h.FunFrames base l) (gd:oe.data = .fields vs) (gz:1 < vs.size) (g0:vs[0]? = some a0) (ge:h.get? e=some oe) :
    Heap.NotedW base l e oe.cls a0 (rawInt L) h h':=by
  obtain ⟨T,oT,ts,old,slots,own,new,ne,size,there,data,fl⟩:=x
  have nr:∀ b o,h.get? b=some o→(∀ ws,o.data ≠ .fields ws)→b≠e:=fun b o q nf z=>by
    rw [z,ge] at q
    cases q
    exact nf vs gd
  refine ⟨fun b o q=>old b o (fun z=>by rw [z,be] at q;cases q) (fun m=>by rw [(ff.mem m).1] at q;cases q) (kb b o q),ff.of_keeps fun b o q nf => ?_,?_,fun b o q nf=>slots b o (nr b o q nf) q⟩
  · obtain ⟨sl,q'⟩:=slots b o (nr b o q nf) q
    exact ⟨_,q',rfl⟩
  · refine ⟨_,_,T,oT,ts,own,⟨Obj.cls_mapFields _ _,?_⟩,Obj.data_mapFields gd _,by simp [gz],?_,ne,there,data,fl⟩
    · rw [Array.getElem?_setIfInBounds_ne (by decide)];exact g0
    · cases q:base.get? T with
      | none=>rfl
      | some o=>have:=kb _ _ q;rw [new] at this;cases this
theorem Entered.ctx {l:List Env} {e L:Addr} {oe:Obj} {vs:Array Value} {h h':Heap} {y:Value} (x:Entered l e oe L h h') (gd:oe.data = .fields vs) (ge:h.get? e=some oe) (c:F2 h e y):F2 h' e y:=by
  obtain ⟨T,oT,ts,old,slots,own,new,ne,size,there,data,fl⟩:=x
  obtain ⟨o,ws,q1,q2,q3⟩:=c
  rw [ge] at q1
  cases q1
  rw [gd] at q2
  cases q2
  exact ⟨_,_,own,Obj.data_mapFields gd _,by rw [Array.getElem?_setIfInBounds_ne (by decide)];exact q3⟩
theorem note_on {base:Heap} {env:Env} {outer:List Env} {L e:Addr} {cls a0:Value} {Q:Unit→Shared→Prop} (af:A.frames=some (env :: outer)) (fL:env.frame=some L) (fl:Heap.FlyingW base (env :: outer) e cls a0 s.heap)
    (k:∀ h',Heap.HeldW base (env :: outer) e cls a0 L h'→s.heap.UpToSlots h'→(∀ y,F2 s.heap e y→F2 h' e y)→Q () { s with heap:=h' }):wpAny M A (noteFrame (.ref e) env) Q E s:=by
  obtain ⟨kb,be,ff,oe,vs,Tr,oT,ts,ge,⟨gc,g0⟩,gd,g1,bT,nTe,gT,dT,g3⟩:=fl
  subst gc
  have gz:=(Array.getElem?_eq_some_iff.mp g1).1
  unfold noteFrame
  simp only [fL]
  refine wpAny_bind (wpAny_field ge gd g1 ?_)
  rw [if_pos (show (Value.ref Tr != Value.none)=true by simp)]
  refine wpAny_bind (wpAny_field gT dT g3 ?_)
  rw [if_neg (show ¬ ((Value.none == rawInt L)=true) by simp [rawInt])]
  refine wpAny_bind (wpAny_setField gT dT (Array.getElem?_eq_some_iff.mp g3).1 ?_)
  have ot:∀ b,b≠Tr→(s.heap.update Tr (Obj.mapFields (·.setIfInBounds 3 Value.none))).get? b=s.heap.get? b:=fun b n=>Heap.get?_update_other _ _ (Ne.symm n)
  have nr:∀ b o,s.heap.get? b=some o→(∀ ws,o.data ≠ .fields ws)→b≠Tr:=fun b o q nf z=>by
    rw [z,gT] at q
    cases q
    exact nf ts dT
  have ff1:=ff.of_keeps (h':=s.heap.update Tr (Obj.mapFields (·.setIfInBounds 3 Value.none))) fun b o q nf=>⟨o,(ot b (nr b o q nf)).trans q,rfl⟩
  have kb1:base.StaysIn (s.heap.update Tr (Obj.mapFields (·.setIfInBounds 3 Value.none))):=fun b o q=>(ot b fun z=>by rw [z,bT] at q;cases q).trans (kb b o q)
  have ge1:=(ot e (Ne.symm nTe)).trans ge
  refine entry_on (s := { s with heap:=_ }) af ff1 fL ge1 gd gz fun h' x => ?_
  obtain ⟨n1,n2,n3,n4⟩:=x.noted kb1 be ff1 gd gz g0 ge1
  exact k h' ⟨n1,be,n2,n3⟩ (fun b o q nf=>n4 b o ((ot b (nr b o q nf)).trans q) nf) fun y c=>x.ctx gd ge1 (c.other nTe)
theorem flight_off {base:Heap} {l:List Env} {e:Addr} {cls a0 m:Value} {Q:Unit→Shared→Prop} (kb:base.StaysIn s.heap) (be:base.get? e=none) (ff:s.heap.FunFrames base l) (tr:s.heap.TracedAtW base e cls a0 m)
    (k:∀ h',Heap.FlyingW base l e cls a0 h'→s.heap.UpToSlots h'→(∀ y,F2 s.heap e y→F2 h' e y)→Q () { s with heap:=h' }):wpAny M A (setFlight (.ref e) none) Q E s:=by
  obtain ⟨oe,vs,Tr,oT,ts,ge,gc,gd,g1,bT,nTe,gT,dT,g3⟩:=tr
  have z3:=(Array.getElem?_eq_some_iff.mp g3).1
  have ot:∀ b,b≠Tr→(s.heap.update Tr (Obj.mapFields (·.setIfInBounds 3 ((none:Option Addr).elim Value.none fun f=>rawInt f)))).get? b=s.heap.get? b:=fun b n=>Heap.get?_update_other _ _ (Ne.symm n)
  have nr:∀ b o,s.heap.get? b=some o→(∀ ws,o.data ≠ .fields ws)→b≠Tr:=fun b o q nf z=>by
    rw [z,gT] at q
    cases q
    exact nf ts dT
  unfold setFlight
  refine wpAny_bind (wpAny_field ge gd g1 ?_)
  rw [if_pos (show (Value.ref Tr != Value.none)=true by simp)]
  refine wpAny_setField gT dT z3 (k _ ⟨fun b o q=>(ot b fun z=>by rw [z,bT] at q;cases q).trans (kb b o q),be,ff.of_keeps fun b o q nf=>⟨o,(ot b (nr b o q nf)).trans q,rfl⟩,?_⟩ (fun b o q nf=>⟨o.slots,(ot b (nr b o q nf)).trans q⟩) fun y c=>c.other nTe)
  exact ⟨oe,vs,Tr,_,_,(ot e (Ne.symm nTe)).trans ge,gc,gd,g1,bT,nTe,Heap.get?_update_self _ gT (Obj.isFreed_of_fields (Obj.data_mapFields dT _)),Obj.data_mapFields dT _,by simp [z3]⟩
theorem leave_on {base:Heap} {env:Env} {outer:List Env} {L e:Addr} {cls a0:Value} {Q:Unit→Shared→Prop} (af:A.frames=some (env :: outer)) (fL:env.frame=some L) (fl:Heap.FlyingW base (env :: outer) e cls a0 s.heap)
    (k:∀ h',Heap.FlyingW base outer e cls a0 h'→s.heap.UpToSlots h'→(∀ y,F2 s.heap e y→F2 h' e y)→Q () { s with heap:=h' }):wpAny M A (leaving env (.ref e)) Q E s:=by
  unfold leaving
  refine wpAny_bind (note_on af fL fl fun h1 hh sl c1 => ?_)
  obtain ⟨n1,n2,n3,n4⟩:=hh
  refine flight_off (s := { s with heap:=h1 }) n1 n2 n3 n4 fun h2 f2 sl2 c2 => ?_
  obtain ⟨m1,m2,⟨_,_,m3⟩,m4⟩:=f2
  exact k h2 ⟨m1,m2,m3,m4⟩ (sl.trans sl2) fun y c=>c2 y (c1 y c)
end
end L2
namespace L2
open PySem PySem.Spec PyProof.Rows

section
variable {P:Program} {w:World} {H H':Hp} {h h':Heap} {a:Addr} {o:HO}
end
theorem Un.fly {fs:List Addr} {L:Addr} {H₀ H H':Hp} {h0 h h1 h2 B:Heap} (U1:Un fs [] H₀ H h0 h) (U2:Un (L :: fs) [] H H' h h1) (hL:h0.get? L=none)
    (cov:∀ b o,h.get? b=some o→b ∉ L :: fs→∃ o',B.get? b=some o') (k1:∀ b o,B.get? b=some o→h1.get? b=some o) (k2:∀ b o,B.get? b=some o→h2.get? b=some o)
    (sl:h1.UpToSlots h2) (nf:∀ b∈fs,∃ o,h1.get? b=some o∧∀ vs,o.data ≠ .fields vs):Un fs [] H₀ H' h0 h2:=by
  have nL:∀ b o,h0.get? b=some o→b ∉ fs→b ∉ L :: fs:=fun b o q hb z=>by
    rcases List.mem_cons.mp z with z | z
    · rw [z,hL] at q;cases q
    · exact hb z
  refine ⟨fun b o q n hb hx => ?_,fun b o q n hb hx => ?_,fun b o q n hx => ?_,fun b o q hx => ?_,fun b xs q=>U2.tups _ _ (U1.tups _ _ q),fun b o u q=>U2.frzs _ _ _ (U1.frzs _ _ _ q),fun b ps q => ?_⟩
  · have q1:=U1.keep b o q n hb hx
    have q2:=U2.keep b o q1 (U1.free b o q n hx) (nL b o q hb) hx
    obtain ⟨o',e⟩:=cov b o q1 (nL b o q hb)
    have e1:=k1 _ _ e
    rw [q2] at e1
    cases e1
    exact k2 _ _ e
  · obtain ⟨s1,q1⟩:=U1.slot b o q n hb hx
    obtain ⟨s2,q2⟩:=U2.slot b _ q1 (U1.free b o q n hx) (List.mem_cons_of_mem _ hb) hx
    obtain ⟨ob,q3,d⟩:=nf b hb
    rw [q2] at q3
    cases q3
    obtain ⟨s4,q4⟩:=sl b _ q2 d
    exact ⟨s4,q4⟩
  · obtain ⟨o1,q1⟩:=U1.there b o q hx
    exact U2.free b o1 q1 (U1.free b o q n hx) hx
  · by_cases hb:b∈fs
    · obtain ⟨ob,q3,d⟩:=nf b hb
      obtain ⟨s4,q4⟩:=sl b _ q3 d
      exact ⟨_,q4⟩
    · obtain ⟨o1,q1⟩:=U1.there b o q hx
      obtain ⟨o',e⟩:=cov b o1 q1 (nL b o q hb)
      exact ⟨_,k2 _ _ e⟩
  · obtain ⟨m1,e1⟩:=U1.tbls b ps q
    obtain ⟨m2,e2⟩:=U2.tbls b _ e1
    exact ⟨m1 ++ m2,by rw [e2,Array.append_assoc]⟩

noncomputable def CXE (P:Program) (w:World):CXT:=fun outer H s E e s'=>∃ (ea C:Addr) (a0:Value) (B:Heap) (H':Hp),e = .ref ea∧Heap.FlyingW B outer ea (.ref C) a0 s'.heap∧s'.os=s.os∧AllBare s'.gens ∧
  HOk P w H' B∧Un (frs outer) [] H H' s.heap s'.heap∧(∀ b o,s.heap.get? b=some o→b ∉ frs outer→∃ o',B.get? b=some o')∧∃ m:Option Addr,(m=none→Ctx0 s'.heap ea)∧E (.ref C) m H'

section
variable {P:Program} {w:World} {K:PySem.W.Frag} {mg:Str→Option Value} {base:Heap} {N:List Str} {qual:Str} {scope:Scope} {f:Addr} {cdv:Value} {A:Around} {outer:List Env} {s0 s:Shared} {H0 H:Hp} {E E':XK}
  {pins:List (Addr × Obj)} {σ : St} {CX:CXT}
theorem stack_frs {e:Env} {L:Addr} {l:List Env} (h:e.frame=some L):frs (e :: l)=L :: frs l:=by
  unfold frs
  rw [List.filterMap_cons,h]
theorem passE (hE:∀ c m H',E' c m H'→E c m H'):Passes (CXE P w) (cxOf (CXE P w) P w K mg base N qual scope f cdv A outer s0 H0 E) E':=by
  intro pins σ H s e s' I h
  obtain ⟨ea,C,a0,B,H',rfl,fl,os,bare,hok,un,cov,m,hm,q⟩:=h
  have es:frs (envOfC qual scope s0.heap.objs.size f cdv :: outer)=s0.heap.objs.size :: frs outer:=stack_frs rfl
  have Ib:Un (frs outer) [] H0 H s0.heap s.heap:=I.base
  have un':Un (s0.heap.objs.size :: frs outer) [] H H' s.heap s'.heap:=by rw [← es];exact un
  have cov':∀ b o,s.heap.get? b=some o→b ∉ s0.heap.objs.size :: frs outer→∃ o',B.get? b=some o':=fun b o z hb=>cov b o z (by show b ∉ frs (envOfC qual scope s0.heap.objs.size f cdv :: outer);rw [es];exact hb)
  show wpAny _ _ (leaving _ _) _ _ _
  refine leave_on I.ok.frames rfl fl fun h'' x1 x2 x3 => ?_
  refine ⟨ea,C,a0,B,H',rfl,x1,os.trans I.os,bare,hok,?_,?_,m,fun z=>x3 _ (hm z),hE _ _ _ q⟩
  · refine Un.fly Ib un' (Heap.get?_none_of_le (Nat.le_refl _)) cov' fl.1 x1.1 x2 fun b hb => ?_
    obtain ⟨_,o,z,d⟩:=fl.2.2.1.mem (b:=b) (by show b∈frs (envOfC qual scope s0.heap.objs.size f cdv :: outer);rw [es];exact List.mem_cons_of_mem _ hb)
    exact ⟨o,z,d⟩
  · intro b o z hb
    obtain ⟨o1,z1⟩:=Ib.there b o z (by simp)
    refine cov' b o1 z1 fun hm => ?_
    rcases List.mem_cons.mp hm with y | y
    · rw [y,Heap.get?_none_of_le (Nat.le_refl _)] at z;cases z
    · exact hb y
end

end L2
namespace L2
open PySem PySem.Spec PyProof.Rows PySem.W

section
variable {prog:Program} {w:World} {A:Around} {E:Value→Shared→Prop} {h:Heap} {g:Array GenState} {d:Drawn} {t:Nat} {os:OsState} {a:Addr} {o:Obj}
  {nm q:Str} {C N:Addr} {bs bm:List Value} {hdct:Bool} {sn:List Str} {sub:List Value} {ab:Bool} {col:Option Bool} {dd:Option Addr} {k0 k1 k2 k3 k5:Option Value} {newId:String}





end
end L2
namespace L2
open PySem PySem.Spec PyProof.Rows

section
variable {X:Cx} {pins:List (Addr × Obj)} {σ : St} {H:Hp} {s:Shared} {xe:Value→Shared→Prop} {A:Around}
end
section
variable {X:Cx} {pins:List (Addr × Obj)} {σ : St} {H0 H':Hp} {s0 s':Shared} {ea C:Addr} {a0:Value} {B h5:Heap} {env:Env} {outer:List Env}
end

section
variable {X:Cx} {k:Nat} {f:Addr} {fd:FuncData} {ps:List Str} {sp:Sp} {dvs:List V} {ds:List Value} {x:Str} {p pos:Pos} {e:Expr} {es:List Expr} {t:TA}
end


end L2
namespace L2
open PySem PySem.Spec PyProof.Rows

section
variable {X:Cx}
end

theorem Fun.okE {P:Program} {w:World} {K:PySem.W.Frag} {mg:Str→Option Value} {base:Heap} {x qual:Str} {st:Stmt} {f:Addr} {fd:FuncData} {N ps:List Str} {k:Nat} {sp:Sp} (F:Fun K x qual st f fd) (S:FnScope N ps (defScope st)) (len:∀ vs H Q E,sp vs H Q E→vs.length=ps.length)
    (hbody:∀ (cdv:Value) (A:Around) (outer:List Env) (s:Shared) (H:Hp) (vs:List V) (Q:VK) (E:XK),Room k (A.deeper (envOfC qual (defScope st) s.heap.objs.size f cdv))→sp vs H Q E →
      ∃ t,PSs (cxOf (CXE P w) P w K mg base N qual (defScope st) f cdv A outer s H E) (defBody st) t∧t { nx:=fun _ H'=>Q .non H',rt:=Q } (start N vs) H):FnOk P w K mg base (CXE P w) (k+1) f fd ps sp:=by
  obtain ⟨oc,od,kV,doc,pm,an,cdv,ct,osl,rfl,lk,hcd⟩:=F.ex
  exact fn_of lk hcd S len fun A outer s H vs Q E hr hsp=>hbody cdv A outer s H vs Q E hr hsp
structure HasM (P:Program) (w:World) (K:PySem.W.Frag) (mg:Str→Option Value) (base:Heap) (k:Nat) (C:Addr) (m:Str) (ps:List Str) (sp:Sp):Prop where
  ex:∃ f fd,FnOk P w K mg base (CXE P w) k f fd ps sp∧Meth K C m f∧Binds K fd ps []
structure HasC (P:Program) (w:World) (K:PySem.W.Frag) (mg:Str→Option Value) (base:Heap) (k:Nat) (x:Str) (C:Addr) (ps:List Str) (sp:Sp):Prop where
  ex:∃ f fd,FnOk P w K mg base (CXE P w) k f fd ps sp∧mg x=some (.ref C)∧Mk K C f∧Binds K fd ps []
structure DefM (K:PySem.W.Frag) (C:Addr) (m qual:Str) (st:Stmt) (ps:List Str):Prop where
  ex:∃ f fd,Fun K m qual st f fd∧Meth K C m f∧Binds K fd ps []
structure DefC (K:PySem.W.Frag) (mg:Str→Option Value) (x:Str) (C:Addr) (qual:Str) (st:Stmt) (ps:List Str):Prop where
  ex:∃ f fd,Fun K "__init__" qual st f fd∧mg x=some (.ref C)∧Mk K C f∧Binds K fd ps []
section
variable {P:Program} {w:World} {K:PySem.W.Frag} {mg:Str→Option Value} {base:Heap} {x m qual:Str} {C:Addr} {st:Stmt} {N ps:List Str} {k:Nat} {sp:Sp}
theorem DefM.has (D:DefM K C m qual st ps) (S:FnScope N ps (defScope st)) (len:∀ vs H Q E,sp vs H Q E→vs.length=ps.length)
    (hbody:∀ (f:Addr) (cdv:Value) (A:Around) (outer:List Env) (s:Shared) (H:Hp) (vs:List V) (Q:VK) (E:XK),Room k (A.deeper (envOfC qual (defScope st) s.heap.objs.size f cdv))→sp vs H Q E →
      ∃ t,PSs (cxOf (CXE P w) P w K mg base N qual (defScope st) f cdv A outer s H E) (defBody st) t∧t { nx:=fun _ H'=>Q .non H',rt:=Q } (start N vs) H):HasM P w K mg base (k+1) C m ps sp:=by
  obtain ⟨f,fd,F,hm,hb⟩:=D.ex
  exact ⟨f,fd,F.okE S len (hbody f),hm,hb⟩
theorem DefC.has (D:DefC K mg x C qual st ps) (S:FnScope N ps (defScope st)) (len:∀ vs H Q E,sp vs H Q E→vs.length=ps.length)
    (hbody:∀ (f:Addr) (cdv:Value) (A:Around) (outer:List Env) (s:Shared) (H:Hp) (vs:List V) (Q:VK) (E:XK),Room k (A.deeper (envOfC qual (defScope st) s.heap.objs.size f cdv))→sp vs H Q E →
      ∃ t,PSs (cxOf (CXE P w) P w K mg base N qual (defScope st) f cdv A outer s H E) (defBody st) t∧t { nx:=fun _ H'=>Q .non H',rt:=Q } (start N vs) H):HasC P w K mg base (k+1) x C ps sp:=by
  obtain ⟨f,fd,F,hm,hb⟩:=D.ex
  exact ⟨f,fd,F.okE S len (hbody f),hm,hb⟩
end
section
variable {X:Cx} {k k':Nat} {x m:Str} {C:Addr} {ps:List Str} {sp:Sp} {p pos apos:Pos} {e o:Expr} {es:List Expr} {ta:TE} {t:TA} {E:XK}
theorem pe_mE {pl:Sem Bool} (h:HasM X.prog X.w X.K X.mg X.base k C m ps sp) (c:Cls X.K C) (hr:Room k' X.A) (hk:k≤k') (hx:Passes (CXE X.prog X.w) X E) (he:PE X o ta) (ha:PA X (e :: es) t)
    (hst:starEach (e :: es) X.env=(false,eval e X.env) :: starEach es X.env:=by rfl) (hpl:(backTo pos (starEach es X.env)).any (·.1)=false:=by rfl)
    (ht:eval (.Call (.Attribute o m apos) (e :: es) [] pos) X.env=(do
      let ov ← eval o X.env
      standAt apos.atName
      let (f,first) ← holding [ov] (getMethod ov m pl)
      callWith pos f first (backTo pos (starEach (e :: es) X.env)) (backToKw pos (keywordEach [] X.env))):=by rfl) :
    PE X (.Call (.Attribute o m apos) (e :: es) [] pos) (tMeth C m sp [] E ta t):=by
  obtain ⟨f,fd,F,hm,hb⟩:=h.ex
  exact pe_meth he c hm F (hr.mono hk) hb .nil hx ha hst hpl ht
theorem pe_mE0 {pl:Sem Bool} (h:HasM X.prog X.w X.K X.mg X.base k C m ps sp) (c:Cls X.K C) (hr:Room k' X.A) (hk:k≤k') (hx:Passes (CXE X.prog X.w) X E) (he:PE X o ta)
    (ht:eval (.Call (.Attribute o m apos) [] [] pos) X.env=(do
      let ov ← eval o X.env
      standAt apos.atName
      let (f,first) ← holding [ov] (getMethod ov m pl)
      callWith pos f first (backTo pos (starEach [] X.env)) (backToKw pos (keywordEach [] X.env))):=by rfl) :
    PE X (.Call (.Attribute o m apos) [] [] pos) (tMeth C m sp [] E ta tNil):=by
  obtain ⟨f,fd,F,hm,hb⟩:=h.ex
  exact pe_meth0 he c hm F (hr.mono hk) hb .nil hx ht
theorem pe_makeE (h:HasC X.prog X.w X.K X.mg X.base k x C ps sp) (hr:Room k' X.A) (hk:k+1≤k') (hx:Passes (CXE X.prog X.w) X E) (hg:Gl X x) (ha:PA X (e :: es) t) (hdb:(x == ("__debug__" : Str))=false:=by decide)
    (he:starEach (e :: es) X.env=(false,eval e X.env) :: starEach es X.env:=by rfl) (hpl:(backTo pos (starEach es X.env)).any (·.1)=false:=by rfl) :
    PE X (.Call (.Name x p) (e :: es) [] pos) (tMake C sp [] E t):=by
  obtain ⟨f,fd,F,hm,M,hb⟩:=h.ex
  exact pe_make M F (hr.mono hk) hg hm hb .nil hx ha hdb he hpl
end
end L2
namespace L2
open PySem PySem.Spec PyProof.Rows
end L2
namespace L2
open PySem PySem.Spec PyProof.Rows
section
variable {X:Cx}
end
theorem comp_tupS {K:PySem.W.Frag} {a:Addr} {xs ys:List V} {te:TE} {σ : St} {caps:List (Str × Nat)} {H:Hp} {Q:VK} (hS:SqT K H a xs) (hz:xs.length≤1000) (hy:ys.length=xs.length)
    (hel:∀ (i:Nat) (x y:V),xs[i]? = some x→ys[i]? = some y→∀ H',Same H H'→∀ Q':VK,(∀ H'',Same H' H''→Q' y H'')→te (some x :: capt σ caps) H' Q') (hq:∀ D H',H D=none→Same H H'→H' D=some (.lst ys)→Q (.ref D) H') :
    CompBody (Itt K a) (gName 0) te (List.replicate 1 none ++ capt σ caps) H Q:=by
  intro D hD
  refine ⟨fun i m τ zs H'=>m=xs.length - i∧i≤xs.length∧(∃ o, τ = o :: capt σ caps)∧zs=ys.take i∧Same H H'∧H' D=some (.lst zs),⟨xs.length,by simp,Nat.zero_le _,⟨none,rfl⟩,by simp,same_new hD _,upd_same⟩,?_⟩
  rintro i m τ zs H' ⟨rfl,hi,⟨o,rfl⟩,rfl,sm,hDl⟩
  refine ⟨hDl,?_⟩
  by_cases hlt:i < xs.length
  · refine .inr ⟨⟨xs,xs[i],sm.tup hS,by simp [hlt]⟩,?_,fun x H'' y => ?_⟩
    · rw [List.length_take]
      exact small1000 (by omega)
    obtain ⟨e,y⟩:=y
    subst e
    have hx:=y xs (sm.tup hS)
    have hyi:ys[i]? = some ys[i]:=List.getElem?_eq_getElem (by omega)
    show te (some x :: capt σ caps) _ _
    refine hel i x ys[i] hx hyi _ sm _ (fun H2 s2 => ?_)
    refine ⟨s2 _ _ hDl,xs.length - (i+1),by omega,rfl,hlt,⟨_,rfl⟩,?_,(sm.trans s2).put hD,?_⟩
    · rw [List.take_add_one,hyi];rfl
    · rw [upd_same]
  · have e:i=xs.length:=by omega
    subst e
    refine .inl ⟨⟨xs,sm.tup hS,Nat.le_refl _⟩,?_⟩
    rw [← hy,List.take_length] at hDl
    exact hq D H' hD sm hDl
end L2
namespace L2
open PySem PySem.Spec PyProof.Rows
end L2
namespace L2
open PySem PySem.Spec PyProof.Rows

inductive D where
  | non | int (i:Int) | str (x:Str) | tup (ds:List D) | lst (ds:List D)
noncomputable instance:DecidableEq D:=fun _ _=>Classical.propDecidable _
mutual
noncomputable def D.deep:D→Nat
  | .tup ds=>D.deeps ds+1
  | .lst ds=>D.deeps ds+1
  | .non=>0
  | .int _=>0
  | .str _=>0
noncomputable def D.deeps:List D→Nat
  | []=>0
  | d :: ds=>max d.deep (D.deeps ds)
end
theorem deeps_le:∀ {ds:List D} {d:D},d∈ds→d.deep≤D.deeps ds
  | e :: ds,d,h=>by
    rw [D.deeps]
    rcases List.mem_cons.mp h with rfl | h
    · omega
    · have:=deeps_le h;omega
mutual
noncomputable def DenR (h:Heap):D→Value→Prop
  | .non,u=>u=Value.none
  | .int i,u=>(∃ t,u=Value.int i t)∨∃ b,u=Value.bool b∧i=(if b then 1 else 0)
  | .str x,u=>∃ t,u=Value.str x t
  | .tup ds,u=>∃ a us,u=Value.ref a∧h.IsTuple a us.toArray∧DenRs h ds us
  | .lst ds,u=>∃ a us,u=Value.ref a∧h.IsList a us.toArray∧DenRs h ds us
noncomputable def DenRs (h:Heap):List D→List Value→Prop
  | [],us=>us = []
  | d :: ds,us=>∃ u us',us=u :: us'∧DenR h d u∧DenRs h ds us'
end
mutual
noncomputable def Den (H:Hp):D→V→Prop
  | .non,v=>v = .non
  | .int i,v=>v = .int i∨∃ b,v = .bl b∧i=(if b then 1 else 0)
  | .str x,v=>v = .str x
  | .tup ds,v=>∃ a vs,v = .ref a∧H a=some (.tup vs)∧Dens H ds vs
  | .lst ds,v=>∃ a vs,v = .ref a∧H a=some (.lst vs)∧Dens H ds vs
noncomputable def Dens (H:Hp):List D→List V→Prop
  | [],vs=>vs = []
  | d :: ds,vs=>∃ v vs',vs=v :: vs'∧Den H d v∧Dens H ds vs'
end
theorem denRs_len {h:Heap}:∀ {ds:List D} {us:List Value},DenRs h ds us→us.length=ds.length
  | [],us,r=>by rw [DenRs] at r;subst r;rfl
  | d :: ds,us,r=>by
    rw [DenRs] at r
    obtain ⟨u,us',rfl,_,r⟩:=r
    rw [List.length_cons,List.length_cons,denRs_len r]
theorem denRs_at {h:Heap}:∀ {ds:List D} {us:List Value} {j:Nat} {d:D},DenRs h ds us→ds[j]? = some d→∃ u,us[j]? = some u∧DenR h d u
  | [],us,j,d,r,e=>by simp at e
  | c :: ds,us,0,d,r,e=>by
    rw [DenRs] at r
    obtain ⟨u,us',rfl,r1,_⟩:=r
    simp at e;subst e
    exact ⟨u,rfl,r1⟩
  | c :: ds,us,j+1,d,r,e=>by
    rw [DenRs] at r
    obtain ⟨u,us',rfl,_,r⟩:=r
    obtain ⟨u',e',r'⟩:=denRs_at (j:=j) (d:=d) r (by simpa using e)
    exact ⟨u',by simpa using e',r'⟩
theorem dens_cons {H:Hp} {d:D} {v:V} {ds:List D} {vs:List V} (r:Den H d v) (q:Dens H ds vs):Dens H (d :: ds) (v :: vs):=by
  rw [Dens];exact ⟨v,vs,rfl,r,q⟩
theorem dens_nil {H:Hp}:Dens H [] []:=by rw [Dens]
mutual
theorem den_keep {H H':Hp} (k:∀ a vs,(H a=some (.tup vs)→H' a=some (.tup vs))∧(H a=some (.lst vs)→H' a=some (.lst vs))):∀ {d:D} {v:V},Den H d v→Den H' d v
  | .non,v,r=>by rw [Den] at r ⊢;exact r
  | .int i,v,r=>by rw [Den] at r ⊢;exact r
  | .str x,v,r=>by rw [Den] at r ⊢;exact r
  | .tup ds,v,r=>by
    rw [Den] at r ⊢
    obtain ⟨a,vs,rfl,e,r⟩:=r
    exact ⟨a,vs,rfl,(k a vs).1 e,dens_keep k r⟩
  | .lst ds,v,r=>by
    rw [Den] at r ⊢
    obtain ⟨a,vs,rfl,e,r⟩:=r
    exact ⟨a,vs,rfl,(k a vs).2 e,dens_keep k r⟩
theorem dens_keep {H H':Hp} (k:∀ a vs,(H a=some (.tup vs)→H' a=some (.tup vs))∧(H a=some (.lst vs)→H' a=some (.lst vs))):∀ {ds:List D} {vs:List V},Dens H ds vs→Dens H' ds vs
  | [],vs,r=>by rw [Dens] at r ⊢;exact r
  | d :: ds,vs,r=>by
    rw [Dens] at r ⊢
    obtain ⟨v,vs',rfl,r1,r⟩:=r
    exact ⟨v,vs',rfl,den_keep k r1,dens_keep k r⟩
end
theorem dens_same {H H':Hp} {d:List D} {v:List V} (sm:Same H H') (r:Dens H d v):Dens H' d v:=dens_keep (fun a vs=>⟨sm _ _,sm _ _⟩) r
mutual
noncomputable def D.noL:D→Bool
  | .tup ds=>D.noLs ds
  | .lst _=>false
  | .non=>true
  | .int _=>true
  | .str _=>true
noncomputable def D.noLs:List D→Bool
  | []=>true
  | d :: ds=>d.noL && D.noLs ds
end
mutual
theorem den_keepT {H H':Hp} (k:∀ a vs,H a=some (.tup vs)→H' a=some (.tup vs)):∀ {d:D} {v:V},d.noL=true→Den H d v→Den H' d v
  | .non,v,_,r=>by rw [Den] at r ⊢;exact r
  | .int i,v,_,r=>by rw [Den] at r ⊢;exact r
  | .str x,v,_,r=>by rw [Den] at r ⊢;exact r
  | .tup ds,v,n,r=>by
    rw [D.noL] at n
    rw [Den] at r ⊢
    obtain ⟨a,vs,rfl,e,r⟩:=r
    exact ⟨a,vs,rfl,k a vs e,dens_keepT k n r⟩
  | .lst ds,v,n,r=>by rw [D.noL] at n;cases n
theorem dens_keepT {H H':Hp} (k:∀ a vs,H a=some (.tup vs)→H' a=some (.tup vs)):∀ {ds:List D} {vs:List V},D.noLs ds=true→Dens H ds vs→Dens H' ds vs
  | [],vs,_,r=>by rw [Dens] at r ⊢;exact r
  | d :: ds,vs,n,r=>by
    rw [D.noLs,Bool.and_eq_true] at n
    rw [Dens] at r ⊢
    obtain ⟨v,vs',rfl,r1,r⟩:=r
    exact ⟨v,vs',rfl,den_keepT k n.1 r1,dens_keepT k n.2 r⟩
end
mutual
theorem den_raw {P:Program} {w:World} {H:Hp} {h:Heap} (ok:HOk P w H h):∀ {d:D} {v:V} {u:Value},Den H d v→RelV v u→DenR h d u
  | .non,v,u,r,q=>by rw [Den] at r;subst r;rw [DenR];exact q
  | .int i,v,u,r,q=>by
    rw [Den] at r
    rw [DenR]
    rcases r with rfl | ⟨b,rfl,e⟩
    · exact .inl q
    · exact .inr ⟨b,q,e⟩
  | .str x,v,u,r,q=>by rw [Den] at r;subst r;rw [DenR];exact q
  | .tup ds,v,u,r,q=>by
    rw [Den] at r
    obtain ⟨a,vs,rfl,e,r⟩:=r
    rw [DenR]
    obtain ⟨_,its,rv,p⟩:=(show ObjOk P w H h a (.tup vs) from ok a _ e)
    exact ⟨a,its,q,p.tup,dens_raw ok r rv⟩
  | .lst ds,v,u,r,q=>by
    rw [Den] at r
    obtain ⟨a,vs,rfl,e,r⟩:=r
    rw [DenR]
    obtain ⟨_,its,n,rv,p⟩:=(show ObjOk P w H h a (.lst vs) from ok a _ e)
    exact ⟨a,its,q,⟨_,p,rfl,n,rfl⟩,dens_raw ok r rv⟩
theorem dens_raw {P:Program} {w:World} {H:Hp} {h:Heap} (ok:HOk P w H h):∀ {ds:List D} {vs:List V} {us:List Value},Dens H ds vs→Vals vs us→DenRs h ds us
  | [],vs,us,r,q=>by rw [Dens] at r;subst r;cases q;rw [DenRs]
  | d :: ds,vs,us,r,q=>by
    rw [Dens] at r
    obtain ⟨v,vs',rfl,r1,r⟩:=r
    cases q with
    | cons q1 q2 =>
      rw [DenRs]
      exact ⟨_,_,rfl,den_raw ok r1 q1,dens_raw ok r q2⟩
end
theorem tup_seq {h:Heap} {a:Addr} {x y:Array Value} (p:h.IsTuple a x) (q:h.IsTuple a y):x=y:=by
  obtain ⟨o,e,_,n,d⟩:=p
  obtain ⟨o',e',_,n',d'⟩:=q
  rw [e] at e';cases e'
  rw [d] at d'
  injection d'
theorem lst_seq {h:Heap} {a:Addr} {x y:Array Value} (p:h.IsList a x) (q:h.IsList a y):x=y:=by
  obtain ⟨o,e,_,n,d⟩:=p
  obtain ⟨o',e',_,n',d'⟩:=q
  rw [e] at e';cases e'
  rw [d] at d'
  injection d'
theorem lst_tup {h:Heap} {a:Addr} {x y:Array Value} (p:h.IsList a x) (q:h.IsTuple a y):False:=by
  obtain ⟨o,e,c,n,d⟩:=p
  obtain ⟨o',e',c',n',d'⟩:=q
  rw [e] at e';cases e'
  rw [c] at c'
  exact absurd (Value.type.inj c') (by decide)
mutual
theorem denR_inj {h:Heap}:∀ {d e:D} {u:Value},DenR h d u→DenR h e u→d=e
  | .non,e,u,r,q=>by
    rw [DenR] at r;subst r
    cases e with
    | non=>rfl
    | int i=>rw [DenR] at q;rcases q with ⟨t,z⟩ | ⟨b,z,_⟩ <;> cases z
    | str x=>rw [DenR] at q;obtain ⟨t,z⟩:=q;cases z
    | tup es=>rw [DenR] at q;obtain ⟨a,us,z,_⟩:=q;cases z
    | lst es=>rw [DenR] at q;obtain ⟨a,us,z,_⟩:=q;cases z
  | .int i,e,u,r,q=>by
    rw [DenR] at r
    cases e with
    | non=>rw [DenR] at q;subst q;rcases r with ⟨t,z⟩ | ⟨b,z,_⟩ <;> cases z
    | int j =>
      rw [DenR] at q
      rcases r with ⟨t,rfl⟩ | ⟨b,rfl,hb⟩ <;> rcases q with ⟨t',z⟩ | ⟨b',z,hb'⟩ <;> cases z
      · rfl
      · rw [hb,hb']
    | str x=>rw [DenR] at q;obtain ⟨t,rfl⟩:=q;rcases r with ⟨t,z⟩ | ⟨b,z,_⟩ <;> cases z
    | tup es=>rw [DenR] at q;obtain ⟨a,us,rfl,_⟩:=q;rcases r with ⟨t,z⟩ | ⟨b,z,_⟩ <;> cases z
    | lst es=>rw [DenR] at q;obtain ⟨a,us,rfl,_⟩:=q;rcases r with ⟨t,z⟩ | ⟨b,z,_⟩ <;> cases z
  | .str x,e,u,r,q=>by
    rw [DenR] at r
    obtain ⟨t,rfl⟩:=r
    cases e with
    | non=>rw [DenR] at q;cases q
    | int i=>rw [DenR] at q;rcases q with ⟨t,z⟩ | ⟨b,z,_⟩ <;> cases z
    | str x=>rw [DenR] at q;obtain ⟨t,z⟩:=q;cases z;rfl
    | tup es=>rw [DenR] at q;obtain ⟨a,us,z,_⟩:=q;cases z
    | lst es=>rw [DenR] at q;obtain ⟨a,us,z,_⟩:=q;cases z
  | .tup ds,e,u,r,q=>by
    rw [DenR] at r
    obtain ⟨a,us,rfl,p,r⟩:=r
    cases e with
    | non=>rw [DenR] at q;cases q
    | int i=>rw [DenR] at q;rcases q with ⟨t,z⟩ | ⟨b,z,_⟩ <;> cases z
    | str x=>rw [DenR] at q;obtain ⟨t,z⟩:=q;cases z
    | tup es =>
      rw [DenR] at q;obtain ⟨a',us',z,p',q⟩:=q;cases z
      have e:us=us':=by have:=tup_seq p p';simpa using this
      subst e
      rw [denRs_inj r q]
    | lst es=>rw [DenR] at q;obtain ⟨a',us',z,p',_⟩:=q;cases z;exact absurd p (fun p=>lst_tup p' p)
  | .lst ds,e,u,r,q=>by
    rw [DenR] at r
    obtain ⟨a,us,rfl,p,r⟩:=r
    cases e with
    | non=>rw [DenR] at q;cases q
    | int i=>rw [DenR] at q;rcases q with ⟨t,z⟩ | ⟨b,z,_⟩ <;> cases z
    | str x=>rw [DenR] at q;obtain ⟨t,z⟩:=q;cases z
    | tup es=>rw [DenR] at q;obtain ⟨a',us',z,p',_⟩:=q;cases z;exact absurd p (fun p=>lst_tup p p')
    | lst es =>
      rw [DenR] at q;obtain ⟨a',us',z,p',q⟩:=q;cases z
      have e:us=us':=by have:=lst_seq p p';simpa using this
      subst e
      rw [denRs_inj r q]
theorem denRs_inj {h:Heap}:∀ {ds es:List D} {us:List Value},DenRs h ds us→DenRs h es us→ds=es
  | [],es,us,r,q=>by
    rw [DenRs] at r;subst r
    cases es with
    | nil=>rfl
    | cons e es=>rw [DenRs] at q;obtain ⟨u,us',z,_⟩:=q;cases z
  | d :: ds,es,us,r,q=>by
    rw [DenRs] at r
    obtain ⟨u,us',rfl,r1,r⟩:=r
    cases es with
    | nil=>rw [DenRs] at q;cases q
    | cons e es =>
      rw [DenRs] at q;obtain ⟨u',us'',z,q1,q⟩:=q
      cases z
      rw [denR_inj r1 q1,denRs_inj r q]
end
theorem dec_true {p:Prop} [Decidable p] {b:Bool} (h:p↔b=true):b=decide p:=by
  cases b with
  | true=>exact (decide_eq_true (h.mpr rfl)).symm
  | false=>exact (decide_eq_false fun z=>Bool.false_ne_true (h.mp z)).symm
theorem all_eq (ds es:List D):((List.range (min ds.length es.length)).all (fun j=>decide (ds[j]? = es[j]?)) && ds.length == es.length)=decide (ds=es):=by
  refine dec_true ⟨fun h=>by subst h;simp,fun h => ?_⟩
  rw [Bool.and_eq_true,List.all_eq_true] at h
  have hl:ds.length=es.length:=eq_of_beq h.2
  refine List.ext_getElem? fun j => ?_
  by_cases hj:j < ds.length
  · exact of_decide_eq_true (h.1 j (List.mem_range.mpr (by omega)))
  · rw [List.getElem?_eq_none (by omega),List.getElem?_eq_none (by omega)]
theorem all_eq' (ds es:List D) (hl:ds.length=es.length):(List.range ds.length).all (fun j=>decide (ds[j]? = es[j]?))=decide (ds=es):=by
  have:=all_eq ds es
  rw [← hl,Nat.min_self] at this
  simpa using this
section
open SeqAt
variable {A:Around} {s:Shared}
theorem eqAt_cast {u v:Value} {b c:Bool} (h:EqAt A s u v b) (e:b=c):EqAt A s u v c:=e ▸ h
theorem eqAt_D:∀ (n:Nat) {d e:D} {A:Around} {u v:Value},d.deep≤n→DenR s.heap d u→DenR s.heap e v→A.units+n < cLine→EqAt A s u v (decide (d=e)):=by
  intro n
  induction n with
  | zero => ?_
  | succ n ih => ?_
  all_goals intro d e A u v hn r q hu
  all_goals have hu0:A.units < cLine:=by omega
  all_goals cases d with
    | non =>
      rw [DenR] at r;subst r
      cases e with
      | non=>rw [DenR] at q;subst q;exact eqAt_cast (EqAt.same _) (decide_eq_true rfl).symm
      | int j =>
        rw [DenR] at q
        rcases q with ⟨t,rfl⟩ | ⟨b,rfl,_⟩
        · exact eqAt_cast (EqAt.none_int j t) (decide_eq_false (fun z=>nomatch z)).symm
        · exact eqAt_cast (EqAt.none_bool b) (decide_eq_false (fun z=>nomatch z)).symm
      | str y=>rw [DenR] at q;obtain ⟨t,rfl⟩:=q;exact eqAt_cast (EqAt.none_str y t) (decide_eq_false (fun z=>nomatch z)).symm
      | tup es=>rw [DenR] at q;obtain ⟨a,us,rfl,p,_⟩:=q;exact eqAt_cast (EqAt.none_tuple p hu0) (decide_eq_false (fun z=>nomatch z)).symm
      | lst es=>rw [DenR] at q;obtain ⟨a,us,rfl,p,_⟩:=q;exact eqAt_cast (EqAt.none_list p hu0) (decide_eq_false (fun z=>nomatch z)).symm
    | int i =>
      rw [DenR] at r
      cases e with
      | non =>
        rw [DenR] at q;subst q
        rcases r with ⟨t,rfl⟩ | ⟨b,rfl,_⟩
        · exact eqAt_cast (EqAt.int_none i t) (decide_eq_false (fun z=>nomatch z)).symm
        · exact eqAt_cast (EqAt.bool_none b) (decide_eq_false (fun z=>nomatch z)).symm
      | int j =>
        rw [DenR] at q
        have key:∀ x y:Int,(x == y)=decide (D.int x=D.int y):=fun x y=>dec_true ⟨fun z=>by cases z;simp,fun z=>by rw [eq_of_beq z]⟩
        rcases r with ⟨t,rfl⟩ | ⟨b,rfl,hb⟩ <;> rcases q with ⟨t',rfl⟩ | ⟨b',rfl,hb'⟩
        · exact eqAt_cast (EqAt.int_int i t j t') (key i j)
        · rw [hb'];exact eqAt_cast (EqAt.int_bool i t b') (key _ _)
        · rw [hb];exact eqAt_cast (EqAt.bool_int b j t') (key _ _)
        · rw [hb,hb'];exact eqAt_cast (EqAt.bool_bool b b') (by rw [← key];cases b <;> cases b' <;> rfl)
      | str y =>
        rw [DenR] at q;obtain ⟨t,rfl⟩:=q
        rcases r with ⟨t',rfl⟩ | ⟨b,rfl,_⟩
        · exact eqAt_cast (EqAt.int_str i t' y t) (decide_eq_false (fun z=>nomatch z)).symm
        · exact eqAt_cast (EqAt.bool_str b y t) (decide_eq_false (fun z=>nomatch z)).symm
      | tup es =>
        rw [DenR] at q;obtain ⟨a,us,rfl,p,_⟩:=q
        rcases r with ⟨t',rfl⟩ | ⟨b,rfl,_⟩
        · exact eqAt_cast (EqAt.int_tuple i t' p hu0) (decide_eq_false (fun z=>nomatch z)).symm
        · exact eqAt_cast (EqAt.bool_tuple b p hu0) (decide_eq_false (fun z=>nomatch z)).symm
      | lst es =>
        rw [DenR] at q;obtain ⟨a,us,rfl,p,_⟩:=q
        rcases r with ⟨t',rfl⟩ | ⟨b,rfl,_⟩
        · exact eqAt_cast (EqAt.int_list i t' p hu0) (decide_eq_false (fun z=>nomatch z)).symm
        · exact eqAt_cast (EqAt.bool_list b p hu0) (decide_eq_false (fun z=>nomatch z)).symm
    | str x =>
      rw [DenR] at r;obtain ⟨t',rfl⟩:=r
      cases e with
      | non=>rw [DenR] at q;subst q;exact eqAt_cast (EqAt.str_none x t') (decide_eq_false (fun z=>nomatch z)).symm
      | int j =>
        rw [DenR] at q
        rcases q with ⟨t,rfl⟩ | ⟨b,rfl,_⟩
        · exact eqAt_cast (EqAt.str_int x t' j t) (decide_eq_false (fun z=>nomatch z)).symm
        · exact eqAt_cast (EqAt.str_bool x t' b) (decide_eq_false (fun z=>nomatch z)).symm
      | str y =>
        rw [DenR] at q;obtain ⟨t,rfl⟩:=q
        exact eqAt_cast (EqAt.str_str x t' y t) (dec_true ⟨fun z=>by cases z;simp,fun z=>by rw [eq_of_beq z]⟩)
      | tup es=>rw [DenR] at q;obtain ⟨a,us,rfl,p,_⟩:=q;exact eqAt_cast (EqAt.str_tuple x t' p hu0) (decide_eq_false (fun z=>nomatch z)).symm
      | lst es=>rw [DenR] at q;obtain ⟨a,us,rfl,p,_⟩:=q;exact eqAt_cast (EqAt.str_list x t' p hu0) (decide_eq_false (fun z=>nomatch z)).symm
    | tup ds => ?_
    | lst ds => ?_
  · rw [D.deep] at hn;omega
  · rw [D.deep] at hn;omega
  · rw [D.deep] at hn
    have r0:=r
    rw [DenR] at r
    obtain ⟨a,us,rfl,p,r⟩:=r
    cases e with
    | non=>rw [DenR] at q;subst q;exact eqAt_cast (EqAt.tuple_none p hu0) (decide_eq_false (fun z=>nomatch z)).symm
    | int j =>
      rw [DenR] at q
      rcases q with ⟨t,rfl⟩ | ⟨b,rfl,_⟩
      · exact eqAt_cast (EqAt.tuple_int j t p hu0) (decide_eq_false (fun z=>nomatch z)).symm
      · exact eqAt_cast (EqAt.tuple_bool b p hu0) (decide_eq_false (fun z=>nomatch z)).symm
    | str y=>rw [DenR] at q;obtain ⟨t,rfl⟩:=q;exact eqAt_cast (EqAt.tuple_str y t p hu0) (decide_eq_false (fun z=>nomatch z)).symm
    | tup es =>
      have q0:=q
      rw [DenR] at q
      obtain ⟨b,us',rfl,p',q⟩:=q
      by_cases hab:a=b
      · subst hab
        rw [denR_inj r0 q0]
        exact eqAt_cast (EqAt.same _) (decide_eq_true rfl).symm
      · refine eqAt_cast (EqAt.of_refs hab (RcAt.tuples (e:=fun j=>decide (ds[j]? = es[j]?)) p p' hu0 fun j h1 h2 => ?_)) ?_
        · have l1:=denRs_len r
          have l2:=denRs_len q
          have h1':j < us.length:=by simpa using h1
          have h2':j < us'.length:=by simpa using h2
          have e1:=List.getElem?_eq_getElem (l:=ds) (i:=j) (by omega)
          have e2:=List.getElem?_eq_getElem (l:=es) (i:=j) (by omega)
          obtain ⟨u,f1,g1⟩:=denRs_at r e1
          obtain ⟨v,f2,g2⟩:=denRs_at q e2
          have z1:us.toArray[j]=u:=by rw [List.getElem?_eq_getElem h1'] at f1;simpa using f1
          have z2:us'.toArray[j]=v:=by rw [List.getElem?_eq_getElem h2'] at f2;simpa using f2
          rw [z1,z2]
          have:=ih (d:=ds[j]) (e:=es[j]) (A:=A.in1) (by have:=deeps_le (List.getElem_mem (l:=ds) (n:=j) (by omega));omega) g1 g2 (by show A.units+1+n < cLine;omega)
          refine eqAt_cast this ?_
          rw [e1,e2]
          exact decide_eq_decide.mpr ⟨fun z=>by rw [z],fun z=>Option.some.inj z⟩
        · have:=all_eq ds es
          simp only [List.size_toArray,denRs_len r,denRs_len q]
          rw [this]
          exact decide_eq_decide.mpr ⟨fun z=>by rw [z],fun z=>by injection z⟩
    | lst es=>rw [DenR] at q;obtain ⟨b,us',rfl,p',_⟩:=q;exact eqAt_cast (EqAt.tuple_list p p' hu0) (decide_eq_false (fun z=>nomatch z)).symm
  · rw [D.deep] at hn
    have r0:=r
    rw [DenR] at r
    obtain ⟨a,us,rfl,p,r⟩:=r
    cases e with
    | non=>rw [DenR] at q;subst q;exact eqAt_cast (EqAt.list_none p hu0) (decide_eq_false (fun z=>nomatch z)).symm
    | int j =>
      rw [DenR] at q
      rcases q with ⟨t,rfl⟩ | ⟨b,rfl,_⟩
      · exact eqAt_cast (EqAt.list_int j t p hu0) (decide_eq_false (fun z=>nomatch z)).symm
      · exact eqAt_cast (EqAt.list_bool b p hu0) (decide_eq_false (fun z=>nomatch z)).symm
    | str y=>rw [DenR] at q;obtain ⟨t,rfl⟩:=q;exact eqAt_cast (EqAt.list_str y t p hu0) (decide_eq_false (fun z=>nomatch z)).symm
    | tup es=>rw [DenR] at q;obtain ⟨b,us',rfl,p',_⟩:=q;exact eqAt_cast (EqAt.list_tuple p p' hu0) (decide_eq_false (fun z=>nomatch z)).symm
    | lst es =>
      have q0:=q
      rw [DenR] at q
      obtain ⟨b,us',rfl,p',q⟩:=q
      have l1:=denRs_len r
      have l2:=denRs_len q
      by_cases hab:a=b
      · subst hab
        rw [denR_inj r0 q0]
        exact eqAt_cast (EqAt.same _) (decide_eq_true rfl).symm
      by_cases hl:ds.length=es.length
      · refine eqAt_cast (EqAt.of_refs hab (RcAt.lists (e:=fun j=>decide (ds[j]? = es[j]?)) p p' (by simp only [List.size_toArray];omega) hu0 fun j h1 h2 => ?_)) ?_
        · have h1':j < us.length:=by simpa using h1
          have h2':j < us'.length:=by simpa using h2
          have e1:=List.getElem?_eq_getElem (l:=ds) (i:=j) (by omega)
          have e2:=List.getElem?_eq_getElem (l:=es) (i:=j) (by omega)
          obtain ⟨u,f1,g1⟩:=denRs_at r e1
          obtain ⟨v,f2,g2⟩:=denRs_at q e2
          have z1:us.toArray[j]=u:=by rw [List.getElem?_eq_getElem h1'] at f1;simpa using f1
          have z2:us'.toArray[j]=v:=by rw [List.getElem?_eq_getElem h2'] at f2;simpa using f2
          rw [z1,z2]
          have:=ih (d:=ds[j]) (e:=es[j]) (A:=A.in1) (by have:=deeps_le (List.getElem_mem (l:=ds) (n:=j) (by omega));omega) g1 g2 (by show A.units+1+n < cLine;omega)
          refine eqAt_cast this ?_
          rw [e1,e2]
          exact decide_eq_decide.mpr ⟨fun z=>by rw [z],fun z=>Option.some.inj z⟩
        · have:=all_eq' ds es hl
          simp only [List.size_toArray,l1]
          rw [this]
          exact decide_eq_decide.mpr ⟨fun z=>by rw [z],fun z=>by injection z⟩
      · refine eqAt_cast (EqAt.of_refs hab (RcAt.lists_lengths p p' (by simp only [List.size_toArray];simp;omega) hu0)) ?_
        exact (decide_eq_false (fun z=>hl (by injection z with z;rw [z]))).symm
end
section
variable {X:Cx}
inductive J_rEqD (x:V) (y:V) (H:Hp) (Q:VK):Prop
  | mk:∀ ds es,(((Den H (.tup ds) x∧Den H (.tup es) y)∨(Den H (.lst ds) x∧Den H (.lst es) y)))→(D.deeps ds≤150)→(Q (.bl (decide (ds=es))) H)→J_rEqD x y H Q
noncomputable def rEqD:R2:=fun x y H Q=>J_rEqD x y H Q
inductive J_rNeD (x:V) (y:V) (H:Hp) (Q:VK):Prop
  | mk:∀ ds es,(((Den H (.tup ds) x∧Den H (.tup es) y)∨(Den H (.lst ds) x∧Den H (.lst es) y)))→(D.deeps ds≤150)→(Q (.bl (!decide (ds=es))) H)→J_rNeD x y H Q
noncomputable def rNeD:R2:=fun x y H Q=>J_rNeD x y H Q
theorem deep_items {A:Around} {s:Shared} {ds es:List D} {us us':List Value} (hu:A.units+151 < cLine) (hd:D.deeps ds≤150) (r:DenRs s.heap ds us) (q:DenRs s.heap es us') (j:Nat) (h1:j < us.toArray.size) (h2:j < us'.toArray.size) :
    SeqAt.EqAt A.in1 s us.toArray[j] us'.toArray[j] (decide (ds[j]? = es[j]?)):=by
  have l1:=denRs_len r
  have l2:=denRs_len q
  have h1':j < us.length:=by simpa using h1
  have h2':j < us'.length:=by simpa using h2
  have e1:=List.getElem?_eq_getElem (l:=ds) (i:=j) (by omega)
  have e2:=List.getElem?_eq_getElem (l:=es) (i:=j) (by omega)
  obtain ⟨u,f1,g1⟩:=denRs_at r e1
  obtain ⟨v,f2,g2⟩:=denRs_at q e2
  have z1:us.toArray[j]=u:=by rw [List.getElem?_eq_getElem h1'] at f1;simpa using f1
  have z2:us'.toArray[j]=v:=by rw [List.getElem?_eq_getElem h2'] at f2;simpa using f2
  rw [z1,z2]
  refine eqAt_cast (eqAt_D 150 (by have:=deeps_le (List.getElem_mem (l:=ds) (n:=j) (by omega));omega) g1 g2 (by show A.units+1+150 < cLine;omega)) ?_
  rw [e1,e2]
  exact decide_eq_decide.mpr ⟨fun z=>by rw [z],fun z=>Option.some.inj z⟩
theorem op_eqD (hu:X.A.units+151 < cLine):OpR X (compareOp .Eq) rEqD:=by
  intro pins s σ H x y v u Q I rx ry h
  obtain ⟨ds,es,hh,hd,q⟩:=h
  have hu0:X.A.units < cLine:=by omega
  rcases hh with ⟨h1,h2⟩ | ⟨h1,h2⟩
  · have g1:=den_raw I.hok h1 rx
    have g2:=den_raw I.hok h2 ry
    rw [DenR] at g1 g2
    obtain ⟨a,us,rfl,p,r⟩:=g1
    obtain ⟨b,us',rfl,p',r'⟩:=g2
    refine SeqAt.eq_tupleAt (e:=fun j=>decide (ds[j]? = es[j]?)) p p' hu0 (deep_items hu hd r r') ?_
    refine ⟨.bl (decide (ds=es)),H,I,?_,q⟩
    have:=all_eq ds es
    simp only [List.size_toArray,denRs_len r,denRs_len r']
    rw [this]
    rfl
  · have g1:=den_raw I.hok h1 rx
    have g2:=den_raw I.hok h2 ry
    rw [DenR] at g1 g2
    obtain ⟨a,us,rfl,p,r⟩:=g1
    obtain ⟨b,us',rfl,p',r'⟩:=g2
    have l1:=denRs_len r
    have l2:=denRs_len r'
    by_cases hl:ds.length=es.length
    · refine SeqAt.eq_listAt (e:=fun j=>decide (ds[j]? = es[j]?)) p p' (by simp only [List.size_toArray];omega) hu0 (deep_items hu hd r r') ?_
      refine ⟨.bl (decide (ds=es)),H,I,?_,q⟩
      have:=all_eq' ds es hl
      simp only [List.size_toArray,l1]
      rw [this]
      rfl
    · refine SeqAt.eq_list_lengthsAt p p' (by simp only [List.size_toArray];simp;omega) hu0 ⟨.bl (decide (ds=es)),H,I,?_,q⟩
      rw [decide_eq_false (fun z=>hl (by rw [z]))]
      rfl
theorem op_neD (hu:X.A.units+151 < cLine):OpR X (compareOp .NotEq) rNeD:=by
  intro pins s σ H x y v u Q I rx ry h
  obtain ⟨ds,es,hh,hd,q⟩:=h
  have hu0:X.A.units < cLine:=by omega
  rcases hh with ⟨h1,h2⟩ | ⟨h1,h2⟩
  · have g1:=den_raw I.hok h1 rx
    have g2:=den_raw I.hok h2 ry
    rw [DenR] at g1 g2
    obtain ⟨a,us,rfl,p,r⟩:=g1
    obtain ⟨b,us',rfl,p',r'⟩:=g2
    refine SeqAt.RcNeAt.tuples (e:=fun j=>decide (ds[j]? = es[j]?)) p p' hu0 (deep_items hu hd r r') _ _ _ _ ?_
    refine ⟨.bl (!decide (ds=es)),H,I,?_,q⟩
    have:=all_eq ds es
    simp only [List.size_toArray,denRs_len r,denRs_len r']
    rw [this]
    rfl
  · have g1:=den_raw I.hok h1 rx
    have g2:=den_raw I.hok h2 ry
    rw [DenR] at g1 g2
    obtain ⟨a,us,rfl,p,r⟩:=g1
    obtain ⟨b,us',rfl,p',r'⟩:=g2
    have l1:=denRs_len r
    have l2:=denRs_len r'
    by_cases hl:ds.length=es.length
    · refine SeqAt.RcNeAt.lists (e:=fun j=>decide (ds[j]? = es[j]?)) p p' (by simp only [List.size_toArray];omega) hu0 (deep_items hu hd r r') _ _ _ _ ?_
      refine ⟨.bl (!decide (ds=es)),H,I,?_,q⟩
      have:=all_eq' ds es hl
      simp only [List.size_toArray,l1]
      rw [this]
      rfl
    · refine SeqAt.RcNeAt.lists_lengths p p' (by simp only [List.size_toArray];simp;omega) hu0 _ _ _ _ ⟨.bl (!decide (ds=es)),H,I,?_,q⟩
      rw [decide_eq_false (fun z=>hl (by rw [z]))]
      rfl
inductive J_rInD (neg:Bool) (x:V) (y:V) (H:Hp) (Q:VK):Prop
  | mk:∀ d ds,(Den H d x)→((Den H (.lst ds) y∨Den H (.tup ds) y))→(D.deeps ds≤150)→(Q (.bl (if neg then !decide (d∈ds) else decide (d∈ds))) H)→J_rInD neg x y H Q
noncomputable def rInD (neg:Bool):R2:=fun x y H Q=>J_rInD neg x y H Q
noncomputable def eqR (h:Heap) (d:D) (y:Value):Bool := @decide (DenR h d y) (Classical.propDecidable _)
theorem eqR_eq {h:Heap} {d e:D} {y:Value} (r:DenR h e y):eqR h d y=decide (e=d):=by
  unfold eqR
  by_cases z:e=d
  · subst z;rw [decide_eq_true rfl];exact @decide_eq_true _ (Classical.propDecidable _) r
  · rw [decide_eq_false z];exact @decide_eq_false _ (Classical.propDecidable _) fun q=>z (denR_inj r q)
theorem denRs_mem {h:Heap}:∀ {ds:List D} {us:List Value} {u:Value},DenRs h ds us→u∈us→∃ d∈ds,DenR h d u
  | [],us,u,r,m=>by rw [DenRs] at r;subst r;cases m
  | d :: ds,us,u,r,m=>by
    rw [DenRs] at r
    obtain ⟨v,us',rfl,r1,r⟩:=r
    rcases List.mem_cons.mp m with rfl | m
    · exact ⟨d,List.mem_cons_self,r1⟩
    · obtain ⟨e,he,q⟩:=denRs_mem r m
      exact ⟨e,List.mem_cons_of_mem _ he,q⟩
theorem any_eqR {h:Heap} {d:D}:∀ {ds:List D} {us:List Value},DenRs h ds us→us.any (eqR h d)=decide (d∈ds)
  | [],us,r=>by rw [DenRs] at r;subst r;simp
  | e :: ds,us,r=>by
    rw [DenRs] at r
    obtain ⟨v,us',rfl,r1,r⟩:=r
    rw [List.any_cons,any_eqR r,eqR_eq r1]
    refine dec_true ⟨fun z => ?_,fun z => ?_⟩
    · rcases List.mem_cons.mp z with rfl | z
      · simp
      · rw [decide_eq_true z];simp
    · rw [Bool.or_eq_true] at z
      rcases z with z | z
      · rw [of_decide_eq_true z];exact List.mem_cons_self
      · exact List.mem_cons_of_mem _ (of_decide_eq_true z)
theorem op_notInD (hu:X.A.units+151 < cLine):OpR X (compareOp .NotIn) (rInD true):=by
  intro pins s σ H x y v u Q I rx ry h
  obtain ⟨d,ds,h1,h2,hd,q⟩:=h
  have g1:=den_raw I.hok h1 rx
  have el:∀ us:List Value,DenRs s.heap ds us→∀ y,y∈us.toArray→SeqAt.EqAt X.A.in1 s y v (eqR s.heap d y):=fun us r y hy=>by
    obtain ⟨e,he,r1⟩:=denRs_mem r (by simpa using hy)
    refine eqAt_cast (eqAt_D 150 (by have:=deeps_le he;omega) r1 g1 (by show X.A.units+1+150 < cLine;omega)) (eqR_eq r1).symm
  rcases h2 with h2 | h2
  · have g2:=den_raw I.hok h2 ry
    rw [DenR] at g2
    obtain ⟨b,us',rfl,p',r'⟩:=g2
    refine SeqAt.notIn_listAt (eqR s.heap d) p' (el us' r') ⟨.bl (!decide (d∈ds)),H,I,?_,q⟩
    rw [← any_eqR r']
    show Value.bool _=Value.bool _
    rw [List.any_toArray]
  · have g2:=den_raw I.hok h2 ry
    rw [DenR] at g2
    obtain ⟨b,us',rfl,p',r'⟩:=g2
    refine SeqAt.notIn_tupleAt (eqR s.heap d) p' (el us' r') ⟨.bl (!decide (d∈ds)),H,I,?_,q⟩
    rw [← any_eqR r']
    show Value.bool _=Value.bool _
    rw [List.any_toArray]
end
end L2
namespace L2
open PySem PySem.Spec PyProof.Rows

section
variable {κ : Type} [DecidableEq κ]
noncomputable def valV (kvs:List (κ × V)) (k : κ):Option V:=(kvs.find? fun kv=>decide (kv.1=k)).map (·.2)
noncomputable def putK (kvs:List (κ × V)) (k : κ) (v:V):List (κ × V) :=
  if (kvs.any fun kv=>decide (kv.1=k))=true then kvs.map (fun kv=>if kv.1=k then (kv.1,v) else kv) else kvs ++ [(k,v)]
noncomputable def dropK (kvs:List (κ × V)) (k : κ):List (κ × V):=kvs.filter fun kv=>decide (kv.1≠k)

theorem valV_nil {k : κ}:valV ([]:List (κ × V)) k=none:=rfl
theorem valV_pos {p : κ × V} {r:List (κ × V)} {k : κ} (e:p.1=k):valV (p :: r) k=some p.2:=by simp [valV,List.find?_cons,e]
theorem valV_neg {p : κ × V} {r:List (κ × V)} {k : κ} (e:¬ p.1=k):valV (p :: r) k=valV r k:=by simp [valV,List.find?_cons,e]
theorem valV_any (k : κ):∀ kvs:List (κ × V),(kvs.any fun kv=>decide (kv.1=k))=(valV kvs k).isSome
  | []=>rfl
  | p :: r=>by
    rw [List.any_cons]
    by_cases e:p.1=k
    · simp only [valV_pos e,decide_eq_true e,Bool.true_or,Option.isSome_some]
    · rw [valV_neg e,decide_eq_false e,Bool.false_or];exact valV_any k r
theorem valV_map (k j : κ) (y:V):∀ kvs:List (κ × V),valV (kvs.map fun kv=>if kv.1=k then (kv.1,y) else kv) j=(valV kvs j).map fun x=>if j=k then y else x
  | []=>rfl
  | p :: r=>by
    have ih:=valV_map k j y r
    rw [List.map_cons]
    by_cases h:p.1=k
    · rw [if_pos h]
      by_cases e:p.1=j
      · rw [valV_pos (p:=(p.1,y)) e,valV_pos e,Option.map_some,if_pos (e.symm.trans h)]
      · rw [valV_neg (p:=(p.1,y)) e,valV_neg e,ih]
    · rw [if_neg h]
      by_cases e:p.1=j
      · rw [valV_pos (p:=p) e,valV_pos e,Option.map_some,if_neg (fun z=>h (e.trans z))]
      · rw [valV_neg (p:=p) e,valV_neg e,ih]
theorem valV_snoc (k j : κ) (y:V):∀ kvs:List (κ × V),valV kvs k=none→valV (kvs ++ [(k,y)]) j=if j=k then some y else valV kvs j
  | [],_=>by
    by_cases e:k=j
    · rw [if_pos e.symm];exact valV_pos (p:=(k,y)) e
    · rw [if_neg (fun z=>e z.symm)];exact valV_neg (p:=(k,y)) e
  | p :: r,hn=>by
    rw [List.cons_append]
    have hk:¬ p.1=k:=fun z=>by rw [valV_pos z] at hn;cases hn
    rw [valV_neg hk] at hn
    have ih:=valV_snoc k j y r hn
    by_cases e:p.1=j
    · rw [valV_pos e,valV_pos e,if_neg (fun z=>hk (e.trans z))]
    · rw [valV_neg e,valV_neg e,ih]
theorem valV_put (kvs:List (κ × V)) (k j : κ) (y:V):valV (putK kvs k y) j=if j=k then some y else valV kvs j:=by
  unfold putK
  by_cases a:(kvs.any fun kv=>decide (kv.1=k))=true
  · rw [if_pos a,valV_map]
    rw [valV_any] at a
    by_cases e:j=k
    · obtain ⟨x,hx⟩:=Option.isSome_iff_exists.mp a
      rw [if_pos e,e,hx,Option.map_some,if_pos rfl]
    · rw [if_neg e]
      cases valV kvs j with
      | none=>rfl
      | some x=>rw [Option.map_some,if_neg e]
  · rw [if_neg a]
    refine valV_snoc k j y kvs ?_
    rw [valV_any] at a
    cases q:valV kvs k with
    | none=>rfl
    | some x=>rw [q] at a;exact (a rfl).elim
theorem length_putK (kvs:List (κ × V)) (k : κ) (v:V):(putK kvs k v).length≤kvs.length+1:=by
  unfold putK
  split
  · rw [List.length_map];omega
  · rw [List.length_append,List.length_cons,List.length_nil];omega
theorem putK_new {kvs:List (κ × V)} {k : κ} (v:V) (h:valV kvs k=none):putK kvs k v=kvs ++ [(k,v)]:=by
  unfold putK
  rw [valV_any,h]
  exact if_neg (by decide)

theorem RelO.isSome_eq {o:Option V} {u:Option Value} (r:RelO o u):o.isSome=u.isSome:=by
  cases o with
  | none=>cases u with
    | none=>rfl
    | some _=>exact (show False from r).elim
  | some _=>cases u with
    | none=>exact (show False from r).elim
    | some _=>rfl
theorem RelO.getD {o:Option V} {u:Option Value} {d:V} {d':Value} (r:RelO o u) (rd:RelV d d'):RelV (o.getD d) (u.getD d'):=by
  cases o with
  | none=>cases u with
    | none=>exact rd
    | some _=>exact (show False from r).elim
  | some _=>cases u with
    | none=>exact (show False from r).elim
    | some _=>exact r

theorem KV.val {kvs:List (κ × V)} {vs:List (κ × Value)} (r:KV kvs vs) (k : κ):RelO (valV kvs k) (valueAt vs k):=by
  unfold KV at r
  induction r with
  | nil=>exact True.intro
  | @cons p q ps qs h t ih =>
    obtain ⟨h1,h2⟩:=h
    by_cases e:p.1=k
    · have e':q.1=k:=h1.symm.trans e
      have b:valueAt (q :: qs) k=some q.2:=by simp [valueAt,List.find?_cons,e']
      rw [valV_pos e,b];exact h2
    · have e':¬ q.1=k:=fun z=>e (h1.trans z)
      have b:valueAt (q :: qs) k=valueAt qs k:=by simp [valueAt,List.find?_cons,e']
      rw [valV_neg e,b];exact ih
theorem KV.any {kvs:List (κ × V)} {vs:List (κ × Value)} (r:KV kvs vs) (k : κ):(kvs.any fun kv=>decide (kv.1=k))=vs.any fun kv=>decide (kv.1=k):=by
  unfold KV at r
  induction r with
  | nil=>rfl
  | cons h t ih=>rw [List.any_cons,List.any_cons,ih,h.1]
theorem KV.repl {kvs:List (κ × V)} {vs:List (κ × Value)} (r:KV kvs vs) (k : κ) {y:V} {u:Value} (ry:RelV y u) :
    KV (kvs.map fun kv=>if kv.1=k then (kv.1,y) else kv) (vs.map fun kv=>if kv.1=k then (kv.1,u) else kv):=by
  unfold KV at r ⊢
  induction r with
  | nil=>exact .nil
  | @cons p q ps qs h t ih =>
    rw [List.map_cons,List.map_cons]
    refine .cons ?_ ih
    obtain ⟨h1,h2⟩:=h
    by_cases e:p.1=k
    · rw [if_pos e,if_pos (h1.symm.trans e)];exact ⟨h1,ry⟩
    · rw [if_neg e,if_neg (fun z=>e (h1.trans z))];exact ⟨h1,h2⟩
theorem KV.put {kvs:List (κ × V)} {vs:List (κ × Value)} (r:KV kvs vs) (k : κ) {y:V} {u:Value} (ry:RelV y u):KV (putK kvs k y) (stored vs k u):=by
  unfold putK stored
  rw [r.any k]
  by_cases e:(vs.any fun kv=>decide (kv.1=k))=true
  · rw [if_pos e,if_pos e];exact r.repl k ry
  · rw [if_neg e,if_neg e];exact Paired.snoc r ⟨rfl,ry⟩
theorem KV.drop {kvs:List (κ × V)} {vs:List (κ × Value)} (r:KV kvs vs) (k : κ):KV (dropK kvs k) (without vs k):=by
  unfold KV at r ⊢
  unfold dropK without
  induction r with
  | nil=>exact .nil
  | @cons p q ps qs h t ih =>
    obtain ⟨h1,h2⟩:=h
    rw [List.filter_cons,List.filter_cons]
    by_cases e:p.1=k
    · have a:¬ decide (p.1≠k)=true:=by simp [e]
      have b:¬ decide (q.1≠k)=true:=by simp [h1.symm.trans e]
      rw [if_neg a,if_neg b];exact ih
    · have e':¬ q.1=k:=fun z=>e (h1.trans z)
      have a:decide (p.1≠k)=true:=by simp [e]
      have b:decide (q.1≠k)=true:=by simp [e']
      rw [if_pos a,if_pos b];exact .cons ⟨h1,h2⟩ ih
theorem KV.keys {kvs:List (κ × V)} {vs:List (κ × Value)} (r:KV kvs vs):kvs.map (·.1)=vs.map (·.1):=by
  unfold KV at r
  induction r with
  | nil=>rfl
  | cons h t ih=>rw [List.map_cons,List.map_cons,ih,h.1]
theorem KV.length {kvs:List (κ × V)} {vs:List (κ × Value)} (r:KV kvs vs):kvs.length=vs.length:=Paired.length r
theorem dropK_le (kvs:List (κ × V)) (k : κ):(dropK kvs k).length≤kvs.length:=List.length_filter_le _ _
end


theorem kV_is {P:Program} {w:World} {k:Key} {u:Value} (r:RelV (kV k) u):(mixKind P w).is k u=true:=by
  cases k with
  | inl i=>obtain ⟨t,e⟩:=(show ∃ t,u=Value.int i t from r);subst e;exact mixKind_int P w i t
  | inr x=>obtain ⟨t,e⟩:=(show ∃ t,u=Value.str x t from r);subst e;exact mixKind_str P w x t
theorem items_are {P:Program} {w:World}:∀ {ks:List Key} {us:List Value},Vals (ks.map kV) us→ItemsAre (mixKind P w) ks us
  | [],_,r=>by rw [List.map_nil] at r;cases r;exact .nil
  | k :: ks,_,r=>by
    rw [List.map_cons] at r
    cases r with
    | cons h t=>exact .cons (kV_is h) (items_are t)

noncomputable abbrev KT (H:Hp):List (List Key × V)→List (List Key × Addr × Value)→Prop:=Paired fun p q=>p.1=q.1∧H q.2.1=some (.tup (p.1.map kV))∧RelV p.2 q.2.2
theorem KT.val {H:Hp} {kvs:List (List Key × V)} {xs:List (List Key × Addr × Value)} (r:KT H kvs xs) (k:List Key):RelO (valV kvs k) ((atKey xs k).map (·.2)):=by
  induction r with
  | nil=>exact True.intro
  | @cons p q ps qs h t ih =>
    obtain ⟨h1,_,h2⟩:=h
    by_cases e:p.1=k
    · have e':q.1=k:=h1.symm.trans e
      have b:atKey (q :: qs) k=some q.2:=by simp [atKey,List.find?_cons,e']
      rw [valV_pos e,b];exact h2
    · have e':¬ q.1=k:=fun z=>e (h1.trans z)
      have b:atKey (q :: qs) k=atKey qs k:=by simp [atKey,List.find?_cons,e']
      rw [valV_neg e,b];exact ih
theorem KT.repl {H:Hp} {kvs:List (List Key × V)} {xs:List (List Key × Addr × Value)} (r:KT H kvs xs) (k:List Key) {y:V} {u:Value} (ry:RelV y u) :
    KT H (kvs.map fun kv=>if kv.1=k then (kv.1,y) else kv) (xs.map (putAt k u)):=by
  induction r with
  | nil=>exact .nil
  | @cons p q ps qs h t ih =>
    rw [List.map_cons,List.map_cons]
    refine .cons ?_ ih
    obtain ⟨h1,h2,h3⟩:=h
    unfold putAt
    by_cases e:p.1=k
    · rw [if_pos e,if_pos (h1.symm.trans e)];exact ⟨h1,h2,ry⟩
    · rw [if_neg e,if_neg (fun z=>e (h1.trans z))];exact ⟨h1,h2,h3⟩
theorem KT.put {H:Hp} {kvs:List (List Key × V)} {xs:List (List Key × Addr × Value)} (r:KT H kvs xs) (k:List Key) {b:Addr} {y:V} {u:Value} (hb:H b=some (.tup (k.map kV))) (ry:RelV y u) :
    KT H (putK kvs k y) (storedH xs k b u):=by
  have e:(kvs.any fun kv=>decide (kv.1=k))=(atKey xs k).isSome:=by
    rw [valV_any,(r.val k).isSome_eq,Option.isSome_map]
  unfold putK storedH
  rw [e]
  by_cases q:(atKey xs k).isSome=true
  · rw [if_pos q,if_pos q];exact r.repl k ry
  · rw [if_neg q,if_neg q];exact Paired.snoc r ⟨rfl,hb,ry⟩
theorem KT.keeps {H H':Hp} {kvs:List (List Key × V)} {xs:List (List Key × Addr × Value)} (r:KT H kvs xs) (ht:∀ b ys,H b=some (.tup ys)→H' b=some (.tup ys)):KT H' kvs xs :=
  Paired.mapP r fun _ _ z=>⟨z.1,ht _ _ z.2.1,z.2.2⟩

section
variable {P:Program} {w:World} {H:Hp} {h:Heap} {a:Addr}
theorem rd_of {u:HO} (ok:HOk P w H h) (e:Rd H a u):ObjOk P w H h a u:=e.ok ok
theorem dk_rd {kvs:List (Key × V)} (ok:HOk P w H h) (e:Rd H a (.dK kvs)):kvs.length≤sizeLine∧(a == sysModules)=false∧∃ vs,KV kvs vs∧h.DictOf (mixKind P w) a vs :=
  show ObjOk P w H h a (.dK kvs) from rd_of ok e
theorem dk_of {kvs:List (Key × V)} (ok:HOk P w H h) (e:H a=some (.dK kvs)):kvs.length≤sizeLine∧(a == sysModules)=false∧∃ vs,KV kvs vs∧h.DictOf (mixKind P w) a vs:=dk_rd ok (.inl e)
theorem key_of {ks:List Key} (ok:HOk P w H h) (e:H a=some (.tup (ks.map kV))):(tupleKind (mixKind P w)).is h ks a:=by
  obtain ⟨_,its,r,o,h1,h2,n,h3,_⟩:=(show ObjOk P w H h a (.tup (ks.map kV)) from ok a _ e)
  exact ⟨o,its.toArray,n,h1,h2,h3,by simpa using items_are r⟩
theorem dt_rd {kvs:List (List Key × V)} (ok:HOk P w H h) (e:Rd H a (.dT kvs)):kvs.length≤sizeLine∧(a == sysModules)=false ∧
    ∃ xs,KT H kvs xs∧h.DictOfH (tupleKind (mixKind P w)) a xs:=by
  obtain ⟨z,y,xs,r,o,es,ep,h1,h2,h3,h4,h5⟩:=(show ObjOk P w H h a (.dT kvs) from rd_of ok e)
  refine ⟨z,y,xs,r,o,es,ep,h1,h2,h3,h4,fun x hx => ?_,h5⟩
  have all:∀ {l:List (List Key × V)} {m:List (List Key × Addr × Value)},KT H l m→∀ x∈m,(tupleKind (mixKind P w)).is h x.1 x.2.1:=by
    intro l m q
    induction q with
    | nil=>intro x hx;exact nomatch hx
    | @cons p q ps qs hq t ih =>
      intro x hx
      rcases List.mem_cons.mp hx with e | hx
      · subst e
        exact key_of ok (by rw [← hq.1];exact hq.2.1)
      · exact ih x hx
  exact all r x hx
theorem dt_of {kvs:List (List Key × V)} (ok:HOk P w H h) (e:H a=some (.dT kvs)):kvs.length≤sizeLine∧(a == sysModules)=false ∧
    ∃ xs,KT H kvs xs∧h.DictOfH (tupleKind (mixKind P w)) a xs:=dt_rd ok (.inl e)
end

noncomputable def DGet (H:Hp) (a:Addr) (y:V) (r:Option V):Prop :=
  (∃ kvs k,Rd H a (.dK kvs)∧y=kV k∧r=valV kvs k)∨∃ kvs k b,Rd H a (.dT kvs)∧y = .ref b∧H b=some (.tup (k.map kV))∧r=valV kvs k
noncomputable def DPut (H:Hp) (a:Addr) (y v:V) (H':Hp):Prop :=
  (∃ kvs k,H a=some (.dK kvs)∧y=kV k∧kvs.length < sizeLine∧H'=upd H a (.dK (putK kvs k v))) ∨
  ∃ kvs k b,H a=some (.dT kvs)∧y = .ref b∧H b=some (.tup (k.map kV))∧kvs.length < sizeLine∧H'=upd H a (.dT (putK kvs k v))
theorem DGet.k {H:Hp} {a:Addr} {kvs:List (Key × V)} {k:Key} (e:H a=some (.dK kvs)):DGet H a (kV k) (valV kvs k) := .inl ⟨kvs,k,.inl e,rfl,rfl⟩
theorem DPut.k {H:Hp} {a:Addr} {kvs:List (Key × V)} {k:Key} {v:V} (e:H a=some (.dK kvs)) (hl:kvs.length < sizeLine):DPut H a (kV k) v (upd H a (.dK (putK kvs k v))) := .inl ⟨kvs,k,e,rfl,hl,rfl⟩


section
variable {X:Cx} {pins:List (Addr × Obj)} {σ : St} {H:Hp} {s:Shared} {a:Addr} {y v:V} {u r:Value} {o:Option V} {A:Around} {E:Value→Shared→Prop}

theorem Inv.big (I:Inv X pins σ H s):sysModules < s.heap.objs.size:=by
  have h:mainGlobals < s.heap.objs.size:=(I.mod.glob.keeps I.bk).lt
  exact Nat.lt_trans (by decide) h

theorem d_getItem {Q:Value→Shared→Prop} (hu:A.units+1 < cLine) (I:Inv X pins σ H s) (g:DGet H a y (some v)) (ry:RelV y u) (h:∀ w' s',Inv X pins σ H s'→RelV v w'→Q w' s') :
    wpAny (model X.prog X.w) A (getItem (.ref a) u) Q E s:=by
  rcases g with ⟨kvs,k,e,ey,l⟩ | ⟨kvs,k,b,e,ey,eb,l⟩
  · subst ey
    obtain ⟨z,hd,vs,rel,dd⟩:=dk_rd I.hok e
    obtain ⟨w',hw,rw'⟩:=RelO.some_of (v:=v) (o:=valueAt vs k) (by rw [l];exact rel.val k)
    exact wpAny_getItem_of (kV_is ry) dd.mapOf hw (h w' _ (I.tok _) rw')
  · subst ey
    cases (show u=Value.ref b from ry)
    obtain ⟨z,hd,xs,rel,dd⟩:=dt_rd I.hok e
    obtain ⟨w',hw,rw'⟩:=RelO.some_of (v:=v) (o:=(atKey xs k).map (·.2)) (by rw [l];exact rel.val k)
    obtain ⟨p,hp,hp2⟩:=Option.map_eq_some_iff.mp hw
    refine wpAny_getItem_heap (tupleKind_room_in1 hu) (key_of I.hok eb) dd hp ?_
    rw [hp2]
    exact h w' _ (I.tok _) rw'
theorem d_notIn {Q:Value→Shared→Prop} (hu:A.units+1 < cLine) (I:Inv X pins σ H s) (g:DGet H a y o) (ry:RelV y u) (h:∀ s',Inv X pins σ H s'→Q (.bool (!o.isSome)) s') :
    wpAny (model X.prog X.w) A (compareOp .NotIn u (.ref a)) Q E s:=by
  rcases g with ⟨kvs,k,e,ey,l⟩ | ⟨kvs,k,b,e,ey,eb,l⟩
  · subst ey
    obtain ⟨z,hd,vs,rel,dd⟩:=dk_rd I.hok e
    refine wpAny_notIn_of (kV_is ry) hd dd.mapOf ?_
    rw [← (rel.val k).isSome_eq, ← l]
    exact h _ (I.tok _)
  · subst ey
    cases (show u=Value.ref b from ry)
    obtain ⟨z,hd,xs,rel,dd⟩:=dt_rd I.hok e
    refine wpAny_notIn_heap (tupleKind_room_in1 hu) (key_of I.hok eb) hd dd ?_
    have q:=(rel.val k).isSome_eq
    rw [Option.isSome_map] at q
    rw [← q, ← l]
    exact h _ (I.tok _)
theorem d_write {h':Heap} {t':Nat} {ob:HO} (I:Inv X pins σ H s) (mu:Mut (H a)) (hs:Heap.SameBut a s.heap h') (he:∃ q,h'.get? a=some q) (new:ObjOk X.prog X.w (upd H a ob) h' a ob) :
    Inv X pins σ (upd H a ob) { s with heap:=h',toks:=t' } :=
  I.write (x:=a) (e:=a) mu (.inl rfl) (fun b q hb z=>(hs.2 b hb).trans z) he new
theorem dk_new {P:Program} {w:World} {H':Hp} {h':Heap} {kvs:List (Key × V)} {vs:List (Key × Value)} (z:kvs.length≤sizeLine) (hd:(a == sysModules)=false) (rel:KV kvs vs) (dd:h'.DictOf (mixKind P w) a vs) :
    ObjOk P w H' h' a (.dK kvs):=⟨z,hd,vs,rel,dd⟩
theorem d_setItem {H':Hp} {Q:Unit→Shared→Prop} (hu:A.units+1 < cLine) (I:Inv X pins σ H s) (g:DPut H a y v H') (ry:RelV y u) (rv:RelV v r) (h:∀ s',Inv X pins σ H' s'→Q () s') :
    wpAny (model X.prog X.w) A (setItem (.ref a) u r) Q E s:=by
  rcases g with ⟨kvs,k,e,ey,l,eH⟩ | ⟨kvs,k,b,e,ey,eb,l,eH⟩
  · subst ey eH
    obtain ⟨z,hd,vs,rel,dd⟩:=dk_of I.hok e
    have hz:vs.length≤sizeLine:=by rw [← rel.length];exact z
    have hl:(putK kvs k v).length≤sizeLine:=by have:=length_putK kvs k v;omega
    refine wpAny_setItem_pairs (hsz:=hz) (kV_is ry) dd fun h' dd' hs=>h _ ?_
    have he:∃ q,h'.get? a=some q:=let ⟨q,_,_,hq,_⟩:=dd'; ⟨q,hq⟩
    exact d_write I (by rw [e];exact True.intro) hs he (dk_new hl hd (rel.put k rv) dd')
  · subst ey eH
    cases (show u=Value.ref b from ry)
    obtain ⟨z,hd,xs,rel,dd⟩:=dt_of I.hok e
    have hz:xs.length≤sizeLine:=by rw [← Paired.length rel];exact z
    have hl:(putK kvs k v).length≤sizeLine:=by have:=length_putK kvs k v;omega
    refine wpAny_setItem_heap (hsz:=hz) (tupleKind_room_in1 hu) (key_of I.hok eb) dd fun h' dd' hs=>h _ ?_
    obtain ⟨q,es,ep,hq,h2,h3,h4,_,h5⟩:=dd'
    refine d_write I (by rw [e];exact True.intro) hs ⟨q,hq⟩ ⟨hl,hd,_,(rel.put k eb rv).keeps fun c ys ec => ?_,q,es,ep,hq,h2,h3,h4,h5⟩
    rw [upd_ne (ne_of ec e (fun z=>nomatch z))]
    exact ec
end

section
variable {X:Cx} {pins:List (Addr × Obj)} {σ : St} {H:Hp} {s:Shared} {a:Addr} {kvs:List (Key × V)} {k:Key} {u:Value} {A:Around} {E:Value→Shared→Prop}
theorem d_pop {v:V} {more:List Value} {Q:Value→Shared→Prop} (I:Inv X pins σ H s) (e:H a=some (.dK kvs)) (ry:RelV (kV k) u) (l:valV kvs k=some v) (hm:more = []∨∃ x,more = [x])
    (h:∀ w' s',Inv X pins σ (upd H a (.dK (dropK kvs k))) s'→RelV v w'→Q w' s'):wpAny (model X.prog X.w) A (call (.builtin "dict.pop") (.ref a :: u :: more)) Q E s:=by
  obtain ⟨z,hd,vs,rel,dd⟩:=dk_of I.hok e
  obtain ⟨w',hw,rw'⟩:=RelO.some_of (v:=v) (o:=valueAt vs k) (by rw [← l];exact rel.val k)
  have hp:(keyPart u).isSome=true:=by
    cases k with
    | inl i=>obtain ⟨t,q⟩:=(show ∃ t,u=Value.int i t from ry);subst q;rfl
    | inr x=>obtain ⟨t,q⟩:=(show ∃ t,u=Value.str x t from ry);subst q;rfl
  have ha:argsOk "dict.pop" ⟨.ref a :: u :: more, []⟩:=by
    rcases hm with q | ⟨x,q⟩
    · subst q;exact PySem.F.args_dict_pop_2 _ _
    · subst q;exact PySem.F.args_dict_pop_3 _ _ _
  refine call_meetsIn PySem.F.slot_dict_pop dd.typeIs PySem.F.entry_dict_pop ha (meets_dict_pop_there (mixKind X.prog X.w) a (kV_is ry) more hm hp)
    ⟨vs,w',dd,by rw [← rel.length];exact z,hw,fun h' dd' hs=>h w' _ ?_ rw'⟩
  have he:∃ q,h'.get? a=some q:=let ⟨q,_,_,hq,_⟩:=dd'; ⟨q,hq⟩
  exact d_write I (by rw [e];exact True.intro) hs he (dk_new (Nat.le_trans (dropK_le kvs k) z) hd (rel.drop k) dd')
end


noncomputable def NoSl (i:Expr):Prop := ∀ ov iv,subscripted i false ov iv=operate [ov,iv] (getItem ov iv)
theorem subD_of {prog:Program} {w:World} {A:Around} {E:Value→Shared→Prop} {s:Shared} {env:Env} {value slice:Expr} {pos:Pos} {T id:String} {Q:Value→Shared→Prop}
    (hl:typeLookup (.type T) "__getitem__" = pure (some (.builtin id))) (hs:NoSl slice)
    (h:wpAny (model prog w) A (eval value env) (fun o s₁ => wpAny (model prog w) A (eval slice env) (fun i s₂ => s₂.TypeIs o T∧wpAny (model prog w) A (getItem o i) Q E s₂) E s₁) E s) :
    wpAny (model prog w) A (eval (.Subscript value slice pos) env) Q E s:=by
  refine Subscript_ (wpAny_mono h (fun o s₁ h₁ => wpAny_mono h₁ (fun i s₂ h₂ => ?_) fun _ _ x=>x) fun _ _ x=>x)
  obtain ⟨hT,h₂⟩:=h₂
  unfold subscriptTail
  refine wpAny_bind ?_
  rw [getitemInPython_of_ne hT.not_modules]
  refine wpAny_bind (wpAny_specialOf hT hl ?_)
  have fin:wpAny (model prog w) A (subscripted slice false o i) (fun r s₃ => wpAny (model prog w) A (letTemporaryGo value o r >>= fun _=>pure r) Q E s₃) E s₂ := by
    rw [hs o i]
    exact wpAny_operating (wpAny_mono h₂ (fun r s₃ h₃ => wpAny_bind (wpAny_letTemporaryGo (wpAny_pure h₃))) fun _ _ x=>x)
  first
    | exact wpAny_pure (wpAny_bind fin)
    | exact wpAny_bind (wpAny_pure (wpAny_bind fin))
    | exact wpAny_bind fin

theorem dict_typeIs {X:Cx} {pins:List (Addr × Obj)} {σ : St} {H:Hp} {s:Shared} {a:Addr} {y:V} {o:Option V} (I:Inv X pins σ H s) (g:DGet H a y o):s.TypeIs (.ref a) "dict" := by
  rcases g with ⟨kvs,k,e,_,_⟩ | ⟨kvs,k,b,e,_,_,_⟩
  · obtain ⟨_,_,vs,_,dd⟩:=dk_rd I.hok e
    exact dd.typeIs
  · obtain ⟨_,_,xs,_,dd⟩:=dt_rd I.hok e
    exact dd.typeIs

inductive J_tDGet (Q:VK) (x:V) (y:V) (H2:Hp):Prop
  | mk:∀ a v,(x = .ref a)→(DGet H2 a y (some v))→(Q v H2)→J_tDGet Q x y H2
noncomputable def tDGet (td ty:TE):TE:=fun σ H Q=>td σ H fun x H1=>ty σ H1 fun y H2=>J_tDGet Q x y H2
inductive J_tDNotIn (Q:VK) (y:V) (x:V) (H2:Hp):Prop
  | mk:∀ a o,(x = .ref a)→(DGet H2 a y o)→(Q (.bl (!o.isSome)) H2)→J_tDNotIn Q y x H2
noncomputable def tDNotIn (ty td:TE):TE:=fun σ H Q=>ty σ H fun y H1=>td σ H1 fun x H2=>J_tDNotIn Q y x H2
inductive J_sDPut (D:Ends) (σ : St) (v:V) (x:V) (y:V) (H3:Hp):Prop
  | mk:∀ a H4,(x = .ref a)→(DPut H3 a y v H4)→(D.nx σ H4)→J_sDPut D σ v x y H3
noncomputable def sDPut (td ty tv:TE):TS:=fun D σ H=>tv σ H fun v H1=>td σ H1 fun x H2=>ty σ H2 fun y H3=>J_sDPut D σ v x y H3

section
variable {X:Cx} {o i e value:Expr} {pos pos' tpos:Pos} {td ty tv:TE}
theorem pe_dget (hu:X.A.units+1 < cLine) (ho:PE X o td) (hi:PE X i ty) (hs:NoSl i):PE X (.Subscript o i pos) (tDGet td ty):=by
  intro pins s σ H Q I h
  refine subD_of PySem.F.slot_dict_getitem.lookup hs (thn (ho pins s σ H _ I h) fun u s1 ⟨x,H1,I1,rx,q1⟩=>thn (hi pins s1 σ H1 _ I1 q1) fun iv s2 ⟨y,H2,I2,ry,a,v,ex,g,q2⟩ => ?_)
  subst ex
  obtain rfl:u=Value.ref a:=rx
  exact ⟨dict_typeIs I2 g,d_getItem hu I2 g ry fun w' s3 I3 rw'=>⟨v,H2,I3,rw',q2⟩⟩
theorem pc_dnotin (hu:X.A.units+1 < cLine) (hi:PE X i ty) (ho:PE X o td):PC X .NotIn i o (tDNotIn ty td):=by
  intro pins s σ H Q I h
  refine thn (hi pins s σ H _ I h) fun iv s1 ⟨y,H1,I1,ry,q1⟩=>thn (ho pins s1 σ H1 _ I1 q1) fun u s2 ⟨x,H2,I2,rx,a,ov,ex,g,q2⟩ => ?_
  subst ex
  obtain rfl:u=Value.ref a:=rx
  exact d_notIn hu I2 g ry fun s3 I3=>⟨.bl (!ov.isSome),H2,I3,rfl,q2⟩
theorem ps_dput (hu:X.A.units+1 < cLine) (ho:PE X o td) (hi:PE X i ty) (hv:PE X value tv) (hs:swapsWith value (some (.Subscript o i pos')) pos.line X.env=pure false) :
    PS X (.Assign [.Subscript o i pos'] value pos) (sDPut td ty tv):=by
  intro pins s σ H D I h
  refine wpAny_Assign_Subscript (thn (hv pins s σ H _ I h) fun r s1 ⟨v,H1,I1,rv,q1⟩=>thn (ho pins s1 σ H1 _ I1 q1) fun u s2 ⟨x,H2,I2,rx,q2⟩=>thn (hi pins s2 σ H2 _ I2 q2) fun iv s3 ⟨y,H3,I3,ry,a,H4,ex,g,q3⟩ => ?_) hs
  subst ex
  obtain rfl:u=Value.ref a:=rx
  exact d_setItem hu I3 g ry rv fun s4 I4=>⟨σ,H4,I4,q3⟩
end


theorem dk_empty {P:Program} {w:World} {H:Hp} (h:Heap) (hb:sysModules < h.objs.size):ObjOk P w H (h.push { cls := .type "dict",data := .dict #[] }) h.objs.size (.dK []) :=
  ⟨Nat.zero_le _,beq_eq_false_iff_ne.mpr (Ne.symm (Nat.ne_of_lt hb)), [],.nil,Heap.DictOf.new h⟩
noncomputable def tDNewK:TE:=fun _ H Q=>∀ p,H p=none→Q (.ref p) (upd H p (.dK []))
section
variable {X:Cx} {pos:Pos}
theorem pe_dnewK:PE X (.Dict [] [] pos) tDNewK:=fun pins s σ H Q I h =>
  wpAny_Dict_empty ⟨.ref s.heap.objs.size,_,I.laid (a:=s.heap.objs.size) (o := .dK []) (t':=s.toks) (fun _ _ q=>Heap.get?_push_of_some _ q) (Nat.le_refl _) (dk_empty s.heap I.big),rfl,h _ (I.hok.fresh (Nat.le_refl _))⟩
end




structure M1 (X:Cx) (o:Expr) (m:Str) (apos:Pos) (e:Expr) (cpos:Pos):Prop where
  base:attributeBase o m X.env (eval o X.env)=eval o X.env
  few:((backTo cpos (starEach [e] X.env)).all (fun x => !x.1) && (backToKw cpos (keywordEach [] X.env)).all (fun x=>x.1.isSome)
    && decide (([e]:List Expr).length+([]:List Keyword).length+(if ([]:List Keyword).isEmpty then 0 else 1) < 30))=true
  line:(apos.endLine == cpos.line)=true
  trees:backTo cpos (starEach [e] X.env) = [(false,eval e X.env)]
structure M2 (X:Cx) (o:Expr) (m:Str) (apos:Pos) (e f:Expr) (cpos:Pos):Prop where
  base:attributeBase o m X.env (eval o X.env)=eval o X.env
  few:((backTo cpos (starEach [e,f] X.env)).all (fun x => !x.1) && (backToKw cpos (keywordEach [] X.env)).all (fun x=>x.1.isSome)
    && decide (([e,f]:List Expr).length+([]:List Keyword).length+(if ([]:List Keyword).isEmpty then 0 else 1) < 30))=true
  line:(apos.endLine == cpos.line)=true
  trees:backTo cpos (starEach [e,f] X.env) = [(false,eval e X.env),(false,eval f X.env)]

noncomputable def IsD (H:Hp) (a:Addr):Prop:=(∃ kvs,Rd H a (.dK kvs))∨∃ kvs,Rd H a (.dT kvs)
theorem isD_at {X:Cx} {pins:List (Addr × Obj)} {σ : St} {H:Hp} {s:Shared} {a:Addr} (I:Inv X pins σ H s) (d:IsD H a) :
    s.TypeIs (.ref a) "dict" ∧ (∀ b,Value.ref a = .ref b→∃ ob,s.heap.get? b=some ob∧ob.dict=none)∧(a == sysModules)=false:=by
  rcases d with ⟨kvs,e⟩ | ⟨kvs,e⟩
  · obtain ⟨_,hd,vs,_,dd⟩:=dk_rd I.hok e
    refine ⟨dd.typeIs,fun b q => ?_,hd⟩
    cases q
    obtain ⟨ob,_,_,h1,h2,_⟩:=dd
    exact ⟨ob,h1,h2.2.1⟩
  · obtain ⟨_,hd,xs,_,dd⟩:=dt_rd I.hok e
    refine ⟨dd.typeIs,fun b q => ?_,hd⟩
    cases q
    obtain ⟨ob,_,_,h1,h2,_⟩:=dd
    exact ⟨ob,h1,h2.2.1⟩

section
variable {X:Cx} {pins:List (Addr × Obj)} {σ : St} {H:Hp} {s:Shared} {a:Addr} {y d:V} {u r:Value} {o:Option V} {A:Around} {E:Value→Shared→Prop}
end

noncomputable def tDPop1 (td ty:TE):TE:=fun σ H Q=>td σ H fun x H1=>∃ a,x = .ref a∧IsD H1 a∧ty σ H1 fun y H2=>∃ kvs k v,H2 a=some (.dK kvs)∧y=kV k∧valV kvs k=some v∧Q v (upd H2 a (.dK (dropK kvs k)))
section
variable {X:Cx} {o e f:Expr} {apos cpos:Pos} {td ty tx:TE}
theorem pe_dpop1 (ho:PE X o td) (he:PE X e ty) (m:M1 X o "pop" apos e cpos):PE X (.Call (.Attribute o "pop" apos) [e] [] cpos) (tDPop1 td ty):=by
  intro pins s σ H Q I h
  refine wpAny_Call_method m.base m.few m.line PySem.F.plainAttrs_dict PySem.F.slot_dict_pop PySem.F.type_dict_pop (thn (ho pins s σ H _ I h) fun u s1 ⟨x,H1,I1,rx,a,ex,d,q1⟩ => ?_)
  subst ex
  obtain rfl:u=Value.ref a:=rx
  obtain ⟨t1,t2,_⟩:=isD_at I1 d
  refine ⟨t1,t2,?_⟩
  rw [m.trees]
  refine Calls.callWith_builtin rfl (Calls.evalArgs_plain (Calls.spliced_cons (thn (he pins s1 σ H1 _ I1 q1) fun iv s2 ⟨y,H2,I2,ry,kvs,k,v,ea,ey,l,q2⟩=>Calls.spliced_nil ?_)))
  subst ey
  exact d_pop I2 ea ry l (.inl rfl) fun w' s3 I3 rw'=>⟨v,_,I3,rw',q2⟩
end

section
variable {X:Cx} {pins:List (Addr × Obj)} {σ : St} {H:Hp} {s:Shared} {a:Addr} {kvs:List (Key × V)} {A:Around} {E:Value→Shared→Prop}
end


section
variable {X:Cx} {pins:List (Addr × Obj)} {σ : St} {H:Hp} {s:Shared} {a:Addr} {y:V} {u:Value} {A:Around} {E:Value→Shared→Prop}
end
end L2
namespace L2
open PySem PySem.Spec PyProof.Rows

noncomputable abbrev NK:=List (Sum Key (List Key))
noncomputable def kD:Key→D
  | .inl i => .int i
  | .inr x => .str x
noncomputable def iD:Sum Key (List Key)→D
  | .inl k=>kD k
  | .inr l => .tup (l.map kD)
noncomputable def nkD (k:NK):D := .tup (k.map iD)
theorem kD_inj {a b:Key} (e:kD a=kD b):a=b:=by
  cases a with
  | inl i=>cases b with
    | inl j=>have e':D.int i=D.int j:=e;injection e' with e';rw [e']
    | inr y=>exact nomatch (show D.int i=D.str y from e)
  | inr x=>cases b with
    | inl j=>exact nomatch (show D.str x=D.int j from e)
    | inr y=>have e':D.str x=D.str y:=e;injection e' with e';rw [e']
theorem map_inj_of {α β : Type} {f : α → β} (hf:∀ a b,f a=f b→a=b):∀ {x y:List α},x.map f=y.map f→x=y
  | [], [],_=>rfl
  | [],_ :: _,e=>by simp at e
  | _ :: _, [],e=>by simp at e
  | a :: xs,b :: ys,e=>by
    rw [List.map_cons,List.map_cons] at e
    injection e with e1 e2
    rw [hf _ _ e1,map_inj_of hf e2]
theorem iD_inj {a b:Sum Key (List Key)} (e:iD a=iD b):a=b:=by
  cases a with
  | inl i=>cases b with
    | inl j=>rw [kD_inj e]
    | inr y=>cases i <;> exact nomatch e
  | inr x=>cases b with
    | inl j=>cases j <;> exact nomatch e
    | inr y =>
      have e':D.tup (x.map kD)=D.tup (y.map kD):=e
      injection e' with e'
      rw [map_inj_of (fun _ _=>kD_inj) e']
theorem nkD_inj {a b:NK} (e:nkD a=nkD b):a=b:=by
  have e':D.tup (a.map iD)=D.tup (b.map iD):=e
  injection e' with e'
  exact map_inj_of (fun _ _=>iD_inj) e'
section
variable (P:Program) (w:World)
noncomputable def NIt (h:Heap):NK→List Value→Prop
  | [],us=>us = []
  | .inl k :: ks,us=>∃ u us',us=u :: us'∧(mixKind P w).is k u=true∧NIt h ks us'
  | .inr l :: ks,us=>∃ b us',us=Value.ref b :: us'∧IsTupleKey (mixKind P w) h l b∧NIt h ks us'
noncomputable def IsNK (h:Heap) (k:NK) (a:Addr):Prop := ∃ us:List Value,IsTup h a us.toArray∧NIt P w h k us
noncomputable def iHash:Sum Key (List Key)→Int
  | .inl k=>(mixKind P w).hash k
  | .inr l=>tupleKeyHash (mixKind P w) l
noncomputable def iDraws:Sum Key (List Key)→Nat
  | .inl _=>1
  | .inr l=>l.length+1
noncomputable def nkHash (k:NK):Int:=reduceHash (Builtin.Tuple.tupleHashOf (k.map (iHash P w)))
noncomputable def nkDraws (k:NK):Nat:=(k.map iDraws).sum+1
end
section
variable {P:Program} {w:World} {h h':Heap}
theorem NIt.inj:∀ {x y:NK} {us:List Value},NIt P w h x us→NIt P w h y us→x=y
  | [], [],us,_,_=>rfl
  | [],.inl k :: ks,us,r,q=>by rw [NIt] at r;rw [NIt] at q;subst r;obtain ⟨_,_,z,_⟩:=q;cases z
  | [],.inr k :: ks,us,r,q=>by rw [NIt] at r;rw [NIt] at q;subst r;obtain ⟨_,_,z,_⟩:=q;cases z
  | .inl k :: ks, [],us,r,q=>by rw [NIt] at r;rw [NIt] at q;subst q;obtain ⟨_,_,z,_⟩:=r;cases z
  | .inr k :: ks, [],us,r,q=>by rw [NIt] at r;rw [NIt] at q;subst q;obtain ⟨_,_,z,_⟩:=r;cases z
  | .inl k :: ks,.inl l :: ls,us,r,q=>by
    rw [NIt] at r;rw [NIt] at q
    obtain ⟨u,us',rfl,r1,r⟩:=r
    obtain ⟨u',us'',z,q1,q⟩:=q
    cases z
    rw [(mixKind P w).inj _ _ _ r1 q1,NIt.inj r q]
  | .inr k :: ks,.inr l :: ls,us,r,q=>by
    rw [NIt] at r;rw [NIt] at q
    obtain ⟨u,us',rfl,r1,r⟩:=r
    obtain ⟨u',us'',z,q1,q⟩:=q
    cases z
    rw [r1.inj q1,NIt.inj r q]
  | .inl k :: ks,.inr l :: ls,us,r,q=>by
    rw [NIt] at r;rw [NIt] at q
    obtain ⟨u,us',rfl,r1,r⟩:=r
    obtain ⟨u',us'',z,q1,q⟩:=q
    cases z
    rcases keyIs_shape r1 with ⟨i,t,_,e⟩ | ⟨x,t,_,e⟩ <;> cases e
  | .inr k :: ks,.inl l :: ls,us,r,q=>by
    rw [NIt] at r;rw [NIt] at q
    obtain ⟨u,us',rfl,r1,r⟩:=r
    obtain ⟨u',us'',z,q1,q⟩:=q
    cases z
    rcases keyIs_shape q1 with ⟨i,t,_,e⟩ | ⟨x,t,_,e⟩ <;> cases e
theorem NIt.keeps {d:Addr} {o:Obj} {es ep} (ho:h.get? d=some o) (hd:o.data = .dict es ep) (hs:Heap.SameBut d h h'):∀ {k:NK} {us:List Value},NIt P w h k us→NIt P w h' k us
  | [],us,r=>by rw [NIt] at r ⊢;exact r
  | .inl k :: ks,us,r=>by
    rw [NIt] at r ⊢
    obtain ⟨u,us',e,r1,r⟩:=r
    exact ⟨u,us',e,r1,NIt.keeps ho hd hs r⟩
  | .inr k :: ks,us,r=>by
    rw [NIt] at r ⊢
    obtain ⟨u,us',e,r1,r⟩:=r
    exact ⟨u,us',e,r1.keeps ho hd hs,NIt.keeps ho hd hs r⟩
theorem IsNK.inj {x y:NK} {a:Addr} (r:IsNK P w h x a) (q:IsNK P w h y a):x=y:=by
  obtain ⟨us,p,r⟩:=r
  obtain ⟨us',p',q⟩:=q
  have e:us=us':=by have:=tup_seq p p';simpa using this
  subst e
  exact r.inj q
theorem IsNK.keeps {k:NK} {a d:Addr} {o:Obj} {es ep} (r:IsNK P w h k a) (ho:h.get? d=some o) (hd:o.data = .dict es ep) (hs:Heap.SameBut d h h'):IsNK P w h' k a:=by
  obtain ⟨us,⟨o',e',c',n',d'⟩,r⟩:=r
  have hne:a≠d:=by
    rintro rfl
    rw [ho] at e';cases e'
    rw [hd] at d';cases d'
  exact ⟨us,⟨o',(hs.2 a hne).trans e',c',n',d'⟩,r.keeps ho hd hs⟩
theorem key_denR {k:Key} {u:Value} (r:(mixKind P w).is k u=true):DenR h (kD k) u:=by
  rcases keyIs_shape r with ⟨i,t,rfl,rfl⟩ | ⟨x,t,rfl,rfl⟩
  · show DenR h (.int i) _
    rw [DenR];exact .inl ⟨t,rfl⟩
  · show DenR h (.str x) _
    rw [DenR];exact ⟨t,rfl⟩
theorem items_denR {ks:List Key} {us:List Value} (r:ItemsAre (mixKind P w) ks us):DenRs h (ks.map kD) us:=by
  induction r with
  | nil=>rw [List.map_nil,DenRs]
  | cons r1 _ ih=>rw [List.map_cons,DenRs];exact ⟨_,_,rfl,key_denR r1,ih⟩
theorem NIt.denR:∀ {k:NK} {us:List Value},NIt P w h k us→DenRs h (k.map iD) us
  | [],us,r=>by rw [NIt] at r;rw [List.map_nil,DenRs];exact r
  | .inl k :: ks,us,r=>by
    rw [NIt] at r
    obtain ⟨u,us',e,r1,r⟩:=r
    rw [List.map_cons,DenRs]
    exact ⟨u,us',e,key_denR r1,NIt.denR r⟩
  | .inr k :: ks,us,r=>by
    rw [NIt] at r
    obtain ⟨b,us',e,⟨o,its,n,g,c,d,i⟩,r⟩:=r
    rw [List.map_cons,DenRs]
    refine ⟨_,us',e,?_,NIt.denR r⟩
    show DenR h (.tup (k.map kD)) _
    rw [DenR]
    exact ⟨b,its.toList,rfl,⟨o,g,c,n,by simpa using d⟩,items_denR i⟩
theorem IsNK.denR {k:NK} {a:Addr} (r:IsNK P w h k a):DenR h (nkD k) (.ref a):=by
  obtain ⟨us,p,r⟩:=r
  rw [nkD,DenR]
  exact ⟨a,us,rfl,p,r.denR⟩
theorem kDs_deep:∀ l:List Key,D.deeps (l.map kD)=0
  | []=>by rw [List.map_nil,D.deeps]
  | .inl k :: ks=>by rw [List.map_cons,D.deeps,kDs_deep ks];show max (D.deep (.int k)) 0=0;rw [D.deep];rfl
  | .inr k :: ks=>by rw [List.map_cons,D.deeps,kDs_deep ks];show max (D.deep (.str k)) 0=0;rw [D.deep];rfl
theorem nk_deeps:∀ l:NK,D.deeps (l.map iD)≤1
  | []=>by rw [List.map_nil,D.deeps];omega
  | .inl (.inl k) :: ks=>by rw [List.map_cons,D.deeps];have:=nk_deeps ks;show max (D.deep (.int k)) _≤1;rw [D.deep];omega
  | .inl (.inr k) :: ks=>by rw [List.map_cons,D.deeps];have:=nk_deeps ks;show max (D.deep (.str k)) _≤1;rw [D.deep];omega
  | .inr l :: ks=>by rw [List.map_cons,D.deeps];have:=nk_deeps ks;show max (D.deep (.tup (l.map kD))) _≤1;rw [D.deep,kDs_deep];omega
theorem nk_deep (k:NK):(nkD k).deep≤2:=by rw [nkD,D.deep];have:=nk_deeps k;omega
end
section
variable {P:Program} {w:World} {A:Around} {E:Value→Shared→Prop} {s:Shared}
theorem wpAny_eqBool_nk {x y:NK} {a b:Addr} {Q:Bool→Shared→Prop} (hu:A.units+5 < cLine) (hx:IsNK P w s.heap x a) (hy:IsNK P w s.heap y b) (h:Q (decide (x=y)) s) :
    wpAny (model P w) A (eqBool (.ref a) (.ref b)) Q E s:=by
  refine eqAt_D 2 (nk_deep x) hx.denR hy.denR (by omega) P w E Q ?_
  have e:decide (nkD x=nkD y)=decide (x=y):=decide_eq_decide.mpr ⟨nkD_inj,fun z=>by rw [z]⟩
  rw [e];exact h
theorem quiet_flat {K:Type} [DecidableEq K] {knd:KeyKind P w K} (n:Nat) {ks:List K} {a:Addr} {Q:Bool→Shared→Prop} (hk:IsTupleKey knd s.heap ks a) (h:Q true s):wpAny (model P w) A (eqIsQuiet (n+1) (.ref a)) Q E s:=by
  have hT:=hk.typeIs
  obtain ⟨o,items,m,ho,_,hd,hi⟩:=hk
  unfold eqIsQuiet
  refine wpAny_bind (wpAny_specialOf hT F.slot_tuple_eq.lookup ?_)
  show wpAny _ _ (isInstance (.ref a) (.type "tuple") >>= _) _ _ s
  refine wpAny_bind (wpAny_isInstance hT isSubtype_tuple_tuple ?_)
  simp only [Bool.not_true,Bool.false_eq_true,if_false]
  refine wpAny_bind (wpAny_seqItems ho hd ?_)
  refine wpAny_bind ?_
  show wpAny _ _ (forIn items _ _) _ _ s
  rw [← Array.forIn_toList]
  refine wpAny_forIn_list _ (fun rest r s'=>r.1=none∧s'=s∧∀ v∈rest,carriedByValue v=true) _ ?_ ?_ _ _ ⟨rfl,rfl,hi.byValue⟩
  · rintro v rest r s' ⟨hr,rfl,hall⟩
    rw [eqIsQuiet_byValue _ (hall v List.mem_cons_self)]
    refine wpAny_bind (wpAny_pure ?_)
    simp only [Bool.not_true,Bool.false_eq_true,if_false]
    exact wpAny_pure ⟨rfl,rfl,fun u hu'=>hall u (List.mem_cons_of_mem _ hu')⟩
  · rintro ⟨r1,r2⟩ s' ⟨hr,rfl,_⟩
    simp only at hr
    subst hr
    exact wpAny_pure h
theorem quiet_nk {k:NK} {a:Addr} {Q:Bool→Shared→Prop} (hk:IsNK P w s.heap k a) (h:Q true s):wpAny (model P w) A (eqIsQuiet 8 (.ref a)) Q E s:=by
  obtain ⟨us,p,hi⟩:=hk
  have hT:s.TypeIs (.ref a) "tuple" := p.typeIs
  obtain ⟨o,ho,_,m,hd⟩:=p
  unfold eqIsQuiet
  refine wpAny_bind (wpAny_specialOf hT F.slot_tuple_eq.lookup ?_)
  show wpAny _ _ (isInstance (.ref a) (.type "tuple") >>= _) _ _ s
  refine wpAny_bind (wpAny_isInstance hT isSubtype_tuple_tuple ?_)
  simp only [Bool.not_true,Bool.false_eq_true,if_false]
  refine wpAny_bind (wpAny_seqItems ho hd ?_)
  refine wpAny_bind ?_
  show wpAny _ _ (forIn us.toArray _ _) _ _ s
  rw [← Array.forIn_toList]
  refine wpAny_forIn_list _ (fun rest r s'=>r.1=none∧s'=s∧∃ left,NIt P w s.heap left rest) _ ?_ ?_ _ _ ⟨rfl,rfl,k,by simpa using hi⟩
  · rintro v rest r s' ⟨hr,rfl,left,hl⟩
    cases left with
    | nil=>rw [NIt] at hl;cases hl
    | cons i left =>
      cases i with
      | inl k =>
        rw [NIt] at hl
        obtain ⟨u,us',e,r1,hl⟩:=hl
        cases e
        rw [eqIsQuiet_byValue _ ((mixKind P w).byValue _ _ r1)]
        refine wpAny_bind (wpAny_pure ?_)
        simp only [Bool.not_true,Bool.false_eq_true,if_false]
        exact wpAny_pure ⟨rfl,rfl,left,hl⟩
      | inr l =>
        rw [NIt] at hl
        obtain ⟨b,us',e,r1,hl⟩:=hl
        cases e
        refine wpAny_bind (quiet_flat 6 r1 ?_)
        simp only [Bool.not_true,Bool.false_eq_true,if_false]
        exact wpAny_pure ⟨rfl,rfl,left,hl⟩
  · rintro ⟨r1,r2⟩ s' ⟨hr,rfl,_⟩
    simp only at hr
    subst hr
    exact wpAny_pure h
theorem wpAny_pyHash_nk {k:NK} {a:Addr} {Q:Int→Shared→Prop} (hu:A.units+5 < cLine) (hk:IsNK P w s.heap k a) (h:Q (nkHash P w k) { s with toks:=s.toks+nkDraws k }) :
    wpAny (model P w) A (pyHash (.ref a)) Q E s:=by
  obtain ⟨us,p,hi⟩:=hk
  have hT:s.TypeIs (.ref a) "tuple" := p.typeIs
  obtain ⟨o,ho,_,n,hd⟩:=p
  unfold pyHash
  first | unfold pyHashByItsType | skip
  first | refine wpAny_bind (wpAny_cRoomFor_or (.inr (by omega)) ?_) | skip
  refine wpAny_bind (wpAny_specialOf hT F.slot_tuple_hash.lookup ?_)
  show wpAny _ _ (if (some (Value.builtin "tuple.__hash__") == some Value.none)=true then _ else _) Q E s
  rw [if_neg (by rw [beq_builtin_none];exact Bool.false_ne_true)]
  refine wpAny_bind (wpAny_specialOf hT F.slot_tuple_hash.lookup ?_)
  show wpAny _ _ (callSpecialIfBoundUnlessNone? (.ref a) "__hash__" _ >>= _) Q E s
  refine wpAny_bind (wpAny_callSpecialIfBoundUnlessNone?_slot hT F.slot_tuple_hash (wpAny_call_entry F.slot_tuple_hash hT F.entry_tuple_hash ?_ (F.args_tuple_hash_1 _)))
  show wpAny _ _ (Builtin.Tuple.tupleItemsOf (.ref a) >>= _) _ _ s
  refine wpAny_bind (wpAny_tupleItemsOf ho hd ?_)
  refine wpAny_bind ?_
  rw [← Array.forIn_toList]
  refine wpAny_forIn_list _
    (fun rest (b:Array Int) s'=>∃ done left:NK,k=done ++ left∧NIt P w s.heap left rest∧b.toList=done.map (iHash P w)∧s'={ s with toks:=s.toks+(done.map iDraws).sum })
    _ ?_ ?_ _ _ ⟨[],k,rfl,by simpa using hi,rfl,rfl⟩
  · rintro x rest b s' ⟨done,left,rfl,hl,hb,rfl⟩
    cases left with
    | nil=>rw [NIt] at hl;cases hl
    | cons i left =>
      cases i with
      | inl k =>
        rw [NIt] at hl
        obtain ⟨u,us',e,r1,hl⟩:=hl
        cases e
        refine wpAny_bind ((mixKind P w).pyHash r1 ?_)
        first
          | exact wpAny_pure ⟨done ++ [.inl k],left,by simp,hl,by simp [hb,iHash],by simp [Nat.add_assoc,iDraws]⟩
          | exact wpAny_bind (wpAny_pure (wpAny_pure ⟨done ++ [.inl k],left,by simp,hl,by simp [hb,iHash],by simp [Nat.add_assoc,iDraws]⟩))
      | inr l =>
        rw [NIt] at hl
        obtain ⟨c,us',e,r1,hl⟩:=hl
        cases e
        refine wpAny_bind (wpAny_pyHash_tuple (by show A.units+1 < cLine;omega) r1 ?_)
        first
          | exact wpAny_pure ⟨done ++ [.inr l],left,by simp,hl,by simp [hb,iHash],by simp [Nat.add_assoc,iDraws]⟩
          | exact wpAny_bind (wpAny_pure (wpAny_pure ⟨done ++ [.inr l],left,by simp,hl,by simp [hb,iHash],by simp [Nat.add_assoc,iDraws]⟩))
  · rintro b s' ⟨done,left,rfl,hl,hb,rfl⟩
    have e:left = []:=by
      cases left with
      | nil=>rfl
      | cons i left=>cases i <;> rw [NIt] at hl <;> obtain ⟨_,_,z,_⟩:=hl <;> cases z
    subst e
    rw [List.append_nil] at h
    show wpAny _ _ (retInt (Builtin.Tuple.tupleHashOf b.toList)) _ _ _
    rw [hb]
    refine wpAny_ret_mkInt ?_
    show wpAny _ _ (if (decide (-(2:Int) ^ 63≤Builtin.Tuple.tupleHashOf (done.map (iHash P w))) && decide (Builtin.Tuple.tupleHashOf (done.map (iHash P w)) < 2 ^ 63))=true then _ else _) Q E _
    unfold nkHash reduceHash nkDraws at h
    by_cases hr:(decide (-(2:Int) ^ 63≤Builtin.Tuple.tupleHashOf (done.map (iHash P w))) && decide (Builtin.Tuple.tupleHashOf (done.map (iHash P w)) < 2 ^ 63))=true
    · rw [if_pos hr]
      rw [if_pos hr] at h
      exact wpAny_pure (by simpa [Nat.add_assoc] using h)
    · rw [if_neg hr]
      rw [if_neg hr] at h
      exact wpAny_bind (wpAny_rule (wpAny_pure (by simpa [Nat.add_assoc] using h)))
end
noncomputable def nkKind (P:Program) (w:World):HeapKind P w NK where
  is:=IsNK P w
  hash:=nkHash P w
  draws:=nkDraws
  room:=fun A=>A.units+5 < cLine
  inj:=fun hx hy=>hx.inj hy
  keeps:=fun x ho hd hs=>x.keeps ho hd hs
  pyHash:=fun hu hk h=>wpAny_pyHash_nk hu hk h
  eqBool:=fun hu hx hy h=>wpAny_eqBool_nk hu hx hy h
  quiet:=fun hk h=>quiet_nk hk h

section
variable {prog:Program} {w:World} {K:Type} [DecidableEq K] {knd:HeapKind prog w K} {A:Around} {E:Value→Shared→Prop} {s:Shared} {d a:Addr} {k:K} {xs:List (K × Addr × Value)}
theorem wpAny_dictSetDefault_heap {dflt:Value} {Q:Value→Shared→Prop} (hu:knd.room A) (hkey:knd.is s.heap k a) (hm:s.heap.DictOfH knd d xs)
    (hthere:∀ p,atKey xs k=some p→Q p.2 { s with toks:=s.toks+knd.draws k })
    (hnew:atKey xs k=none→∀ h',h'.DictOfH knd d (xs ++ [(k,a,dflt)])→Heap.SameBut d s.heap h'→Q dflt { s with heap:=h',toks:=s.toks+knd.draws k })
    (hsz:xs.length≤sizeLine):wpAny (model prog w) A (dictSetDefault d (.ref a) dflt) Q E s:=by
  obtain ⟨o,es,ep,ho,hc,hd,he,his,hn⟩:=hm
  unfold dictSetDefault
  try with_reducible refine wpAny_holding ?_
  refine wpAny_bind (knd.pyHash hu hkey ?_)
  refine wpAny_bind (wpAny_dictFind_heap (s := { s with toks:=s.toks+knd.draws k }) hu hkey ho hd he his hn ?_ ?_)
  · intro hno
    have hnot:k ∉ xs.map (·.1):=not_mem_keys_of_get hno
    refine wpAny_bind (wpAny_rule (wpAny_bind (wpAny_updateDictKeys (hz:=by have e:=size_of_entries he;omega) (s := { s with toks:=s.toks+knd.draws k }) ho hd (wpAny_pure (hnew (atKey_none_of_get hno) _ ⟨_,_,ep+1,Heap.get?_update_self _ ho (Obj.isFreed_of_dict (Obj.data_mapDictKeys hd _)),
      hc.mapDictKeys _,Obj.data_mapDictKeys hd _,?_,?_,?_⟩ (Heap.SameBut.update ..))))))
    · simp [he,entryOfKey]
    · intro x hx
      rcases List.mem_append.mp hx with hx | hx
      · exact knd.keeps (his x hx) ho hd (Heap.SameBut.update ..)
      · simp only [List.mem_singleton] at hx
        subst hx
        exact knd.keeps hkey ho hd (Heap.SameBut.update ..)
    · rw [List.map_append,List.nodup_append]
      refine ⟨hn,by simp,?_⟩
      intro x hx y hy
      simp only [List.map_cons,List.map_nil,List.mem_singleton] at hy
      subst hy
      exact fun e=>hnot (e ▸ hx)
  · intro j p hj
    refine wpAny_bind (wpAny_dictEntries (s := { s with toks:=s.toks+knd.draws k }) ho hd ?_)
    rw [entry_at he j,hj]
    exact wpAny_bind (wpAny_rule (wpAny_pure (hthere p (atKey_of_get hn hj))))
end
section
variable {prog:Program} {w:World} {K:Type} [DecidableEq K] (knd:HeapKind prog w K) (d a:Addr)
theorem meetsH_dict_setdefault (hd:(d == sysModules)=false) (dflt:Value) :
    MeetsIn prog w (Builtin.«dict.setdefault» ⟨[.ref d,.ref a,dflt], []⟩) (fun A R s=>knd.room A.in1∧∃ k xs,knd.is s.heap k a∧s.heap.DictOfH knd d xs∧xs.length≤sizeLine ∧
      (∀ p,atKey xs k=some p→R (.ok (.ret p.2)) { s with toks:=s.toks+knd.draws k }) ∧
      (atKey xs k=none→∀ h',h'.DictOfH knd d (xs ++ [(k,a,dflt)])→Heap.SameBut d s.heap h'→R (.ok (.ret dflt)) { s with heap:=h',toks:=s.toks+knd.draws k })) :=
  .of_wp fun A R s ⟨hu,k,xs,hkey,hm,hz,h1,h2⟩=>by
    unfold Builtin.«dict.setdefault»
    refine wpAny_bind ?_
    unfold Builtin.Dict.keyAndDefault
    refine wpAny_bind (wpAny_notOrdered_dict hm.typeIs ?_)
    show wpAny _ _ (pure (d,Value.ref a,some dflt)) _ _ s
    refine wpAny_pure ?_
    show wpAny _ _ (if (d == sysModules)=true then _ else (dictSetDefault d (.ref a) dflt >>= _)) _ _ s
    rw [if_neg (by rw [hd];exact Bool.false_ne_true)]
    exact wpAny_bind (wpAny_dictSetDefault_heap hu hkey hm (fun p hp=>wpAny_pure ⟨p.2,rfl,h1 p hp⟩) (fun hn h' hm' hs'=>wpAny_pure ⟨dflt,rfl,h2 hn h' hm' hs'⟩) hz)
end
end L2
namespace L2
open PySem PySem.Spec PyProof.Rows

section
variable {X:Cx} {scope:Scope} {own:List Str} {caps:List (Str × Nat)} {pins:List (Addr × Obj)} {σ : St} {H:Hp} {s:Shared} {fp:List Addr}
theorem comp_goI {prog:Program} {w:World} {A:Around} {R:Result→Shared→Prop} {elt target iter tst:Expr} {pos:Pos} {it acc:Value} {env:Env} (Iv:Nat→Shared→Prop)
    (turn:∀ n s,Iv n s→wpAny (model prog w) A (pyNext it) (fun r s₁ => match r with
      | none=>R (.ok .next) s₁
      | some v=>wpAny (model prog w) A (letOwnedTupleGo target it v) (fun _ s₂ => wpAny (model prog w) A (assign target env v) (fun _ s₃ => wpAny (model prog w) A (isTrue tst env (eval tst env)) (fun ok s₆ => if ok=true then wpAny (model prog w) A (eval elt env) (fun x s₄ =>
              wpAny (model prog w) A (call (.builtin "list.append") [acc,x]) (fun _ s₅ => ∃ m,m < n∧Iv m s₅) (fun _ _=>False) s₄) (fun _ _=>False) s₆ else ∃ m,m < n∧Iv m s₆) (fun _ _=>False) s₃) (fun _ _=>False) s₂) (fun _ _=>False) s₁) (fun _ _=>False) s)
    (n:Nat) (h:Iv n s):codeAny (model prog w) A (.compLoop (.ListComp elt [⟨target,iter, [tst],0⟩] scope pos) 0 it acc env) R s:=by
  refine codeAny_loop rfl Iv (fun n s hI => ?_) n h
  show wpAny _ A ((compTurn (.ListComp elt [⟨target,iter, [tst],0⟩] scope pos) 0 it acc env).onRaise (fun x=>do noteFrame x env;theTreesLotGoes x)) _ _ s
  refine wpAny_noted ?_
  rw [compTurn_list]
  refine wpAny_bind (wpAny_standAt (wpAny_bind (wpAny_mono (turn n s hI) (fun r s₁ h₁ => ?_) fun _ _ z=>z.elim)))
  cases r with
  | none=>exact wpAny_pure h₁
  | some v =>
    refine wpAny_bind (wpAny_mono h₁ (fun _ s₂ h₂ => wpAny_bind (wpAny_mono h₂ (fun _ s₃ h₃ => wpAny_bind (wpAny_tests_one (wpAny_mono h₃ (fun ok s₆ h₆ => ?_) fun _ _ z=>z.elim))) fun _ _ z=>z.elim)) fun _ _ z=>z.elim)
    cases ok with
    | true =>
      have h₆':=(if_pos rfl:(if true=true then _ else _)=_) ▸ h₆
      exact wpAny_bind (wpAny_bind (wpAny_mono h₆' (fun x s₄ h₄ => wpAny_bind (wpAny_mono h₄ (fun _ s₅ h₅ => wpAny_pure (wpAny_pure ⟨rfl,h₅⟩)) fun _ _ z=>z.elim)) fun _ _ z=>z.elim))
    | false =>
      have h₆':∃ m,m < n∧Iv m s₆ := h₆
      exact wpAny_bind (wpAny_pure (wpAny_pure ⟨rfl,h₆'⟩))

noncomputable def CompBodyI (J:It) (g:TG) (ct:TT) (te:TE) (τ0:St) (H1:Hp) (Q:VK):Prop := ∀ D,H1 D=none→∃ W:Nat→Nat→St→List V→Hp→Prop,
  (∃ m,W 0 m τ0 [] (upd H1 D (.lst []))) ∧
  ∀ i m τ ys H,W i m τ ys H→H D=some (.lst ys)∧((J.stop i H∧Q (.ref D) H)∨(J.go i H∧ys.length < sizeLine∧∀ x H',J.yld i H x H'→g x τ H' fun τ2 H2=>ct τ2 H2 fun b H4=>if b=true then te τ2 H4 fun y H3 =>
    H3 D=some (.lst ys)∧∃ m',m' < m∧W (i+1) m' τ2 (ys ++ [y]) (upd H3 D (.lst (ys ++ [y]))) else ∃ m',m' < m∧W (i+1) m' τ2 ys H4))
noncomputable def tCompI (wi:TI) (g:TG) (ct:TT) (te:TE) (k:Nat) (caps:List (Str × Nat)):TE:=fun σ H Q=>wi σ H fun J H1=>CompBodyI J g ct te (List.replicate k none ++ capt σ caps) H1 Q

theorem comp_coreI {tg elt iter tst:Expr} {wi:TI} {g:TG} {ct:TT} {te:TE} {pos p2:Pos} {use:Option (Value→Sem Unit)} {Q:VK} {Q':Value→Shared→Prop} (S:CompScope X scope own caps) (hi:PI X tg iter wi) (hc:X.calm=true)
    (hg:∀ fp s H,PG (cxComp X scope (own ++ caps.map (·.1)) fp s H) tg g) (hct:∀ fp s H,PT (cxComp X scope (own ++ caps.map (·.1)) fp s H) tst ct) (he:∀ fp s H,PE (cxComp X scope (own ++ caps.map (·.1)) fp s H) elt te)
    (I:Inv X pins σ H s) (h:tCompI wi g ct te own.length caps σ H Q)
    (fin:∀ D C H5 s5,Inv X pins σ H5 s5→Q (.ref D) H5→(∃ m,s5.heap.Ns C m)→H5 C=none→C≠X.env.locals→X.s₀.heap.objs.size≤C→(∀ x c,X.env.cells.lookup x=some c→c≠C)→(∀ p∈X.pn ++ pins,p.1≠C) →
      compPost (model X.prog X.w) X.A X.xe use Q' (.ref D) C (.ok .next) s5)
    (hs:∀ x,foldedSetIterable iter X.env x=pure x:=by intro _;rfl) :
    wpAny (model X.prog X.w) X.A (comprehension (.ListComp elt [⟨tg,iter, [tst],0⟩] scope pos) scope X.env p2 (newList []) false (eval iter X.env) use) Q' X.xe s:=by
  have hclos:closureFor scope X.env=pure (capsOf X.env.cells scope.names []):=closure_caps fun y hy hk=>I.ok.has y.1 (.inl (S.frees y hy hk))
  refine wpAny_comprehension_free (g:=⟨tg,iter, [tst],0⟩) (gs := []) rfl hs hclos S.kind S.locs (thn (hi pins s σ H _ I h) fun v s1 h1=>thn h1 fun itv s2 h2 => ?_)
  obtain ⟨it,fp,tn,J,H2,e,I2,T,st2,f2,R⟩:=h2
  subst e
  refine wpAny_newObj_type (wpAny_newFunctionEnv S.nocell (by intro y hy;simp at hy) (fun h₁ hns₁ hsb₁ => ?_) S.kind)
  have fr2:H2 s2.heap.objs.size=none:=I2.hok.fresh (Nat.le_refl _)
  obtain ⟨W,⟨m0,w0⟩,turn⟩:=R s2.heap.objs.size fr2
  have I3:Inv X pins σ (upd H2 s2.heap.objs.size (.lst [])) { s2 with heap:=s2.heap.push { cls := .type "list",dict:=none,data := .seq ([]:List Value).toArray } }:=I2.lnew (its := []) (t':=s2.toks) .nil (Nat.zero_le _)
  have lt2:∀ b∈fp,b < s2.heap.objs.size:=fun b hb=>by
    obtain ⟨o,ho,_⟩:=T.obj _ _ st2 b hb
    exact Heap.lt_size ho
  have f3:∀ b∈fp,FpOk X pins (upd H2 s2.heap.objs.size (.lst [])) b:=fun b hb=>⟨by rw [upd_ne (Nat.ne_of_lt (lt2 b hb))];exact (f2 b hb).1,(f2 b hb).2⟩
  generalize hs3:({ s2 with heap:=s2.heap.push { cls := .type "list",dict:=none,data := .seq ([]:List Value).toArray } }:Shared)=s3 at I3
  have hz3:s3.heap.objs.size=s2.heap.objs.size+1:=by rw [← hs3];exact Heap.size_push _ _
  have kp23:∀ b o,s2.heap.get? b=some o→s3.heap.get? b=some o:=fun b o e=>by rw [← hs3];exact Heap.get?_push_of_some _ e
  have lt3:∀ b∈fp,b < s3.heap.objs.size:=fun b hb=>by rw [hz3];exact Nat.lt_succ_of_lt (lt2 b hb)
  have hns₁':h₁.Ns s3.heap.objs.size (fun x=>([]:List (Str × Value)).reverse.lookup x):=by rw [← hs3];exact hns₁
  have kp31:∀ b o,s3.heap.get? b=some o→h₁.get? b=some o:=fun b o e=>by
    have hb:b≠s3.heap.objs.size:=Nat.ne_of_lt (Heap.lt_size e)
    rw [← hs3] at e hb
    exact hsb₁.extBut b o hb (Heap.get?_push_of_some _ e)
  have J1:=comp_start S I3 f3 lt3 (t:=s2.toks+([]:List (Str × Value)).length) hns₁' kp31
  have st1:tn 0 h₁ := T.keep _ _ _ st2 fun b hb o e=>kp31 b o (kp23 b o e)
  -- the loop
  have loop:∀ s₃ : Shared,s₃ = { s3 with heap:=h₁,toks:=s2.toks+([]:List (Str × Value)).length } →
      codeAny (model X.prog X.w) X.A (.compLoop (.ListComp elt [⟨tg,iter, [tst],0⟩] scope pos) 0 (.ref it) (.ref s2.heap.objs.size) (cxComp X scope (own ++ caps.map (·.1)) fp s3 (upd H2 s2.heap.objs.size (.lst []))).env)
        (compPost (model X.prog X.w) X.A X.xe use Q' (.ref s2.heap.objs.size) s3.heap.objs.size) s₃ := by
    rintro s₃ rfl
    refine comp_goI (fun n s'=>∃ i τ ys H',Inv (cxComp X scope (own ++ caps.map (·.1)) fp s3 (upd H2 s2.heap.objs.size (.lst []))) [] τ H' s'∧tn i s'.heap∧(∀ b∈fp,H' b=none)∧W i n τ ys H') ?_ m0
      ⟨0,_, [],_,J1,st1,fun b hb=>(f3 b hb).1,w0⟩
    rintro n s' ⟨i, τ,ys,H',J',st',fr',w'⟩
    have fY:∀ {H'':Hp},(∀ b∈fp,H'' b=none)→∀ b∈fp,FpOk (cxComp X scope (own ++ caps.map (·.1)) fp s3 (upd H2 s2.heap.objs.size (.lst []))) [] H'' b:=fun hn b hb =>
      ⟨hn b hb,Nat.ne_of_lt (lt3 b hb),fun z=>by
          rcases List.mem_cons.mp (I3.stkSub b z) with e | e
          · exact (f3 b hb).2.1 e
          · exact (f3 b hb).2.2.1 e,.inl hb,fun x c e=>(f3 b hb).2.2.2.2.1 x c (caps_cells e),(fun p hp=>by cases hp)⟩
    obtain ⟨hD,tt⟩:=turn i n τ ys H' w'
    rcases tt with ⟨stop,qn⟩ | ⟨go,hlen,step⟩
    · refine thn (T.done (cxComp X scope (own ++ caps.map (·.1)) fp s3 (upd H2 s2.heap.objs.size (.lst []))) rfl rfl rfl hc i [] s' τ H' (fun _ _=>False) J' (fY fr') st' stop) fun r s4 ⟨hr,J4⟩ => ?_
      subst hr
      obtain ⟨m4,hn4,_⟩:=J4.loc
      have I5:=comp_back I3 J4 f3
      refine fin _ _ _ s4 I5 qn ⟨m4,hn4⟩ J4.free ?_ ?_ (fun x c e z => ?_) fun p hp z => ?_
      · exact Nat.ne_of_gt I3.lt
      · exact I3.sz
      · obtain ⟨v,q⟩:=I3.cell x c e
        rw [z] at q
        exact absurd q.lt (Nat.lt_irrefl _)
      · have q:=(I3.pin p hp).1
        rw [z] at q
        exact absurd (Heap.lt_size q) (Nat.lt_irrefl _)
    · refine thn (T.item (cxComp X scope (own ++ caps.map (·.1)) fp s3 (upd H2 s2.heap.objs.size (.lst []))) rfl rfl rfl hc i [] s' τ H' (fun _ _=>False) J' (fY fr') st' go) fun r s4 ⟨u,hr,h4⟩ => ?_
      subst hr
      refine thn h4 fun _ s5 ⟨x,H5,J5,r5,y5,st5,fr5⟩ => ?_
      have J5':=J5.pinned (fY fr5) (T.obj _ _ st5)
      have keepsT:∀ {τ6:St} {H8:Hp} {s8:Shared},Inv (cxComp X scope (own ++ caps.map (·.1)) fp s3 (upd H2 s2.heap.objs.size (.lst []))) ([] ++ pinsAt fp s5.heap) τ6 H8 s8→tn (i+1) s8.heap∧∀ b∈fp,H8 b=none:=fun {τ6 H8 s8} J8=>by
        refine ⟨T.keep _ _ _ st5 fun b hb o e=>(J8.pin (b,o) (List.mem_append_right _ (List.mem_append_right _ (mem_pinsAt hb e)))).1,fun b hb => ?_⟩
        obtain ⟨o,e,d⟩:=T.obj _ _ st5 b hb
        exact (J8.pin (b,o) (List.mem_append_right _ (List.mem_append_right _ (mem_pinsAt hb e)))).2.1
      refine thn (hg fp s3 _ _ s5 τ H5 x u _ J5' r5 (step x H5 y5)) fun _ s6 ⟨τ6,H6,J6,q6⟩ => ?_
      refine thn (hct fp s3 _ _ s6 τ6 H6 _ J6 q6) fun ok s9 ⟨H9,J9,q9⟩ => ?_
      cases ok with
      | false =>
        obtain ⟨m',hm',w9⟩:=(show ∃ m',m' < n∧W (i+1) m' τ6 ys H9 from q9)
        exact ⟨m',hm',i+1, τ6,ys,_,J9.unpinned,(keepsT J9).1,(keepsT J9).2,w9⟩
      | true =>
        refine thn (he fp s3 _ _ s9 τ6 H9 _ J9 q9) fun yv s7 ⟨y,H7,J7,r7,hD7,m',hm',w7⟩ => ?_
        refine thn (mt_append (X:=cxComp X scope (own ++ caps.map (·.1)) fp s3 (upd H2 s2.heap.objs.size (.lst []))) _ s7 τ6 H7 (.ref s2.heap.objs.size) [y] _ [yv] (fun _ H8=>H8=upd H7 s2.heap.objs.size (.lst (ys ++ [y]))) J7 rfl (.cons r7 .nil) ⟨_,ys,y,rfl,rfl,hD7,hlen,rfl⟩) fun _ s8 ⟨_,H8,J8,_,e8⟩ => ?_
        subst e8
        exact ⟨m',hm',i+1, τ6,ys ++ [y],_,J8.unpinned,(keepsT J8).1,(keepsT J8).2,w7⟩
  have hloop:=loop _ rfl
  subst hs3
  exact codeAny_compStart_list hloop (T.self _ 0 _ _ _ st1 hloop)
theorem pe_compI {tg elt iter tst:Expr} {wi:TI} {g:TG} {ct:TT} {te:TE} {pos:Pos} (S:CompScope X scope own caps) (hi:PI X tg iter wi) (hc:X.calm=true)
    (hg:∀ fp s H,PG (cxComp X scope (own ++ caps.map (·.1)) fp s H) tg g) (hct:∀ fp s H,PT (cxComp X scope (own ++ caps.map (·.1)) fp s H) tst ct) (he:∀ fp s H,PE (cxComp X scope (own ++ caps.map (·.1)) fp s H) elt te)
    (hs:∀ x,foldedSetIterable iter X.env x=pure x:=by intro _;rfl):PE X (.ListComp elt [⟨tg,iter, [tst],0⟩] scope pos) (tCompI wi g ct te own.length caps):=by
  intro pins s σ H Q I h
  rw [eval_ListComp]
  refine comp_coreI (use:=none) (Q:=Q) S hi hc hg hct he I h (fun D C H5 s5 I5 q ⟨m,hn⟩ hC hL hz hcell hpin => ?_) hs
  refine ⟨m,hn,fun h' hs' => ?_⟩
  exact ⟨.ref D,H5,I5.turned (t':=s5.toks) (fun b o hb e=>(hs'.2 b hb).trans e) hC hL (.inr hz) hcell hpin,rfl,q⟩
theorem ps_setCompI {i:Nat} {y:Str} {tg elt iter tst:Expr} {wi:TI} {g:TG} {ct:TT} {te:TE} {pos spos py:Pos} (hN:X.N.Nodup) (hiN:X.N[i]? = some y) (hy:X.env.scope.names.lookup y=some .local) (S:CompScope X scope own caps) (hi:PI X tg iter wi) (hc:X.calm=true)
    (hg:∀ fp s H,PG (cxComp X scope (own ++ caps.map (·.1)) fp s H) tg g) (hct:∀ fp s H,PT (cxComp X scope (own ++ caps.map (·.1)) fp s H) tst ct) (he:∀ fp s H,PE (cxComp X scope (own ++ caps.map (·.1)) fp s H) elt te)
    (hsw:swapsWith (.ListComp elt [⟨tg,iter, [tst],0⟩] scope pos) (some (.Name y py)) spos.line X.env=pure true)
    (hs:∀ x,foldedSetIterable iter X.env x=pure x:=by intro _;rfl):PS X (.Assign [.Name y py] (.ListComp elt [⟨tg,iter, [tst],0⟩] scope pos) spos) (tAsg (tCompI wi g ct te own.length caps) (gName i)):=by
  intro pins s σ H D I h
  rw [exec_Assign_Name_used _ _ _ _ hsw]
  refine wpAny_bind (wpAny_standAt (wpAny_bind ?_))
  show wpAny _ X.A (do let _ ← comprehension (.ListComp elt [⟨tg,iter, [tst],0⟩] scope pos) scope X.env _ (newList []) false (eval iter X.env) (some (assign (.Name y py) X.env))) _ _ s
  refine wpAny_bind (wpAny_mono (comp_coreI (use:=some (assign (.Name y py) X.env)) (Q:=fun x H1=>D.nx (σ.set i (some x)) H1) (Q':=fun _ s'=>SP X pins D .next s') S hi hc hg hct he I h (fun A C H5 s5 I5 q ⟨m,hn⟩ hC hL hz hcell hpin => ?_) hs)
    (fun _ s' hq=>wpAny_pure (wpAny_pure hq)) fun _ _ e=>e)
  show wpAny _ X.A (assign (.Name y py) X.env (.ref A)) _ _ _
  refine wpAny_assign_Name (store_ok2 I5 hN hiN (.inl hy) (v := .ref A) rfl (fun s6 I6 ⟨a,hsb,ha⟩ => ?_) (.inr hy))
  have haC:C≠a:=by
    rcases ha with ha | ha
    · rw [ha];exact hL
    · exact fun z=>hcell y a ha z.symm
  refine ⟨m,hn.sameBut hsb haC,fun h' hs' => ?_⟩
  exact ⟨_,H5,I6.turned (t':=s6.toks) (fun b o hb e=>(hs'.2 b hb).trans e) hC hL (.inr hz) hcell hpin,q⟩
end
end L2
namespace L2
open PySem PySem.Spec PyProof.Rows

noncomputable def NKs (H:Hp):NK→List V→Prop
  | [],vs=>vs = []
  | .inl k :: ks,vs=>∃ vs',vs=kV k :: vs'∧NKs H ks vs'
  | .inr l :: ks,vs=>∃ b vs',vs=V.ref b :: vs'∧H b=some (.tup (l.map kV))∧NKs H ks vs'
noncomputable def NKey (H:Hp) (k:NK) (a:Addr):Prop := ∃ vs,H a=some (.tup vs)∧NKs H k vs
theorem NKs.keep {H H':Hp} (ht:∀ b ys,H b=some (.tup ys)→H' b=some (.tup ys)):∀ {k:NK} {vs:List V},NKs H k vs→NKs H' k vs
  | [],vs,r=>by rw [NKs] at r ⊢;exact r
  | .inl k :: ks,vs,r=>by
    rw [NKs] at r ⊢
    obtain ⟨vs',e,r⟩:=r
    exact ⟨vs',e,NKs.keep ht r⟩
  | .inr l :: ks,vs,r=>by
    rw [NKs] at r ⊢
    obtain ⟨b,vs',e,q,r⟩:=r
    exact ⟨b,vs',e,ht _ _ q,NKs.keep ht r⟩
theorem NKey.keep {H H':Hp} {k:NK} {a:Addr} (ht:∀ b ys,H b=some (.tup ys)→H' b=some (.tup ys)) (r:NKey H k a):NKey H' k a:=by
  obtain ⟨vs,e,r⟩:=r
  exact ⟨vs,ht _ _ e,r.keep ht⟩
section
variable {P:Program} {w:World} {H:Hp} {h:Heap}
theorem nks_of (ok:HOk P w H h):∀ {k:NK} {vs:List V} {us:List Value},NKs H k vs→Vals vs us→NIt P w h k us
  | [],vs,us,r,q=>by rw [NKs] at r;subst r;cases q;rw [NIt]
  | .inl k :: ks,vs,us,r,q=>by
    rw [NKs] at r
    obtain ⟨vs',rfl,r⟩:=r
    cases q with
    | cons q1 q2=>rw [NIt];exact ⟨_,_,rfl,kV_is q1,nks_of ok r q2⟩
  | .inr l :: ks,vs,us,r,q=>by
    rw [NKs] at r
    obtain ⟨b,vs',rfl,e,r⟩:=r
    cases q with
    | cons q1 q2 =>
      rw [NIt]
      cases (show _=Value.ref b from q1)
      exact ⟨b,_,rfl,key_of ok e,nks_of ok r q2⟩
theorem nkey_of {k:NK} {a:Addr} (ok:HOk P w H h) (r:NKey H k a):IsNK P w h k a:=by
  obtain ⟨vs,e,r⟩:=r
  obtain ⟨_,its,rv,p⟩:=(show ObjOk P w H h a (.tup vs) from ok a _ e)
  exact ⟨its,p.tup,nks_of ok r rv⟩
end
noncomputable abbrev KN (H:Hp):List (NK × V)→List (NK × Addr × Value)→Prop:=Paired fun p q=>p.1=q.1∧NKey H p.1 q.2.1∧RelV p.2 q.2.2
theorem KN.val {H:Hp} {kvs:List (NK × V)} {xs:List (NK × Addr × Value)} (r:KN H kvs xs) (k:NK):RelO (valV kvs k) ((atKey xs k).map (·.2)):=by
  induction r with
  | nil=>exact True.intro
  | @cons p q ps qs h t ih =>
    obtain ⟨h1,_,h2⟩:=h
    by_cases e:p.1=k
    · have e':q.1=k:=h1.symm.trans e
      have b:atKey (q :: qs) k=some q.2:=by simp [atKey,List.find?_cons,e']
      rw [valV_pos e,b];exact h2
    · have e':¬ q.1=k:=fun z=>e (h1.trans z)
      have b:atKey (q :: qs) k=atKey qs k:=by simp [atKey,List.find?_cons,e']
      rw [valV_neg e,b];exact ih
theorem KN.keeps {H H':Hp} {kvs:List (NK × V)} {xs:List (NK × Addr × Value)} (r:KN H kvs xs) (ht:∀ b ys,H b=some (.tup ys)→H' b=some (.tup ys)):KN H' kvs xs :=
  Paired.mapP r fun _ _ z=>⟨z.1,z.2.1.keep ht,z.2.2⟩
noncomputable def DN (P:Program) (w:World) (H:Hp) (a:Addr) (kvs:List (NK × V)):Prop:=kvs.length≤sizeLine∧(a == sysModules)=false∧∃ (xs:List (NK × Addr × Value)) (o:Obj) (es:Array DictEntry) (ep:Nat),
  H a=some (.ext fun h=>h.get? a=some o)∧KN H kvs xs∧o.ExactDict∧o.data = .dict es ep∧es.toList=xs.map (entryOfKey (nkKind P w))∧(xs.map (·.1)).Nodup
theorem DN.keep {P:Program} {w:World} {H H':Hp} {a:Addr} {kvs:List (NK × V)} (d:DN P w H a kvs) (ha:∀ φ,H a=some (.ext φ)→H' a=some (.ext φ)) (ht:∀ b ys,H b=some (.tup ys)→H' b=some (.tup ys)):DN P w H' a kvs:=by
  obtain ⟨z,hd,xs,o,es,ep,e,r,q⟩:=d
  exact ⟨z,hd,xs,o,es,ep,ha _ e,r.keeps ht,q⟩
theorem DN.same {P:Program} {w:World} {H H':Hp} {a:Addr} {kvs:List (NK × V)} (d:DN P w H a kvs) (sm:Same H H'):DN P w H' a kvs:=d.keep (fun φ => sm _ _) (fun b ys=>sm _ _)
theorem DN.ext {P:Program} {w:World} {H:Hp} {a:Addr} {kvs:List (NK × V)} (d:DN P w H a kvs):∃ φ,H a=some (.ext φ):=by
  obtain ⟨_,_,xs,o,es,ep,e,_⟩:=d
  exact ⟨_,e⟩
theorem dn_rd {P:Program} {w:World} {H:Hp} {h:Heap} {a:Addr} {kvs:List (NK × V)} (ok:HOk P w H h) (d:DN P w H a kvs):kvs.length≤sizeLine∧(a == sysModules)=false ∧
    ∃ xs,KN H kvs xs∧h.DictOfH (nkKind P w) a xs:=by
  obtain ⟨z,hd,xs,o,es,ep,e,r,h2,h3,h4,h5⟩:=d
  obtain ⟨h1,_⟩:=(show ObjOk P w H h a (.ext fun h=>h.get? a=some o) from ok a _ e)
  refine ⟨z,hd,xs,r,o,es,ep,h1,h2,h3,h4,fun x hx => ?_,h5⟩
  have all:∀ {l:List (NK × V)} {m:List (NK × Addr × Value)},KN H l m→∀ x∈m,(nkKind P w).is h x.1 x.2.1:=by
    intro l m q
    induction q with
    | nil=>intro x hx;exact nomatch hx
    | @cons p q ps qs hq t ih =>
      intro x hx
      rcases List.mem_cons.mp hx with e | hx
      · subst e
        exact nkey_of ok (by rw [← hq.1];exact hq.2.1)
      · exact ih x hx
  exact all r x hx
theorem ext_ok {P:Program} {w:World} {H:Hp} {h:Heap} {a:Addr} {o:Obj} (e:h.get? a=some o):ObjOk P w H h a (.ext fun h=>h.get? a=some o):=⟨e,⟨o,e⟩,fun h1 h2 e1 k=>k o e1⟩
section
variable {X:Cx} {pins:List (Addr × Obj)} {σ : St} {H:Hp} {s:Shared} {a b:Addr} {kvs kvs':List (NK × V)} {k:NK} {y v:V} {u r:Value} {A:Around} {E:Value→Shared→Prop}
theorem dn_write {h':Heap} {t':Nat} {xs':List (NK × Addr × Value)} (I:Inv X pins σ H s) (d:DN X.prog X.w H a kvs) (hs:Heap.SameBut a s.heap h') (dd:h'.DictOfH (nkKind X.prog X.w) a xs') (rel:KN H kvs' xs') (hl:kvs'.length≤sizeLine) :
    ∃ φ,Inv X pins σ (upd H a (.ext φ)) { s with heap:=h',toks:=t' }∧DN X.prog X.w (upd H a (.ext φ)) a kvs':=by
  obtain ⟨φ0,e0⟩:=d.ext
  have hd:=d.2.1
  obtain ⟨q,es,ep,hq,h2,h3,h4,_,h5⟩:=dd
  have ht:∀ c ys,H c=some (.tup ys)→(upd H a (.ext fun h=>h.get? a=some q)) c=some (.tup ys):=fun c ys ec=>by
    rw [upd_ne (ne_of ec e0 (fun z=>nomatch z))]
    exact ec
  exact ⟨_,d_write I (by rw [e0];exact True.intro) hs ⟨q,hq⟩ (ext_ok hq),hl,hd,xs',q,es,ep,upd_same,rel.keeps ht,h2,h3,h4,h5⟩
theorem KN.snoc {xs:List (NK × Addr × Value)} (rel:KN H kvs xs) (nk:NKey H k b) (rv:RelV v r):KN H (kvs ++ [(k,v)]) (xs ++ [(k,b,r)]):=Paired.snoc rel ⟨rfl,nk,rv⟩
theorem dn_setdefault {Q:Value→Shared→Prop} (hu:A.units+10 < cLine) (I:Inv X pins σ H s) (d:DN X.prog X.w H a kvs) (nk:NKey H k b) (rv:RelV v r) (hl:kvs.length < sizeLine)
    (h1:∀ v' w' s',valV kvs k=some v'→RelV v' w'→Inv X pins σ H s'→Q w' s') (h2:valV kvs k=none→∀ φ s',Inv X pins σ (upd H a (.ext φ)) s'→DN X.prog X.w (upd H a (.ext φ)) a (kvs ++ [(k,v)])→Q r s') :
    wpAny (model X.prog X.w) A (call (.builtin "dict.setdefault") [.ref a,.ref b,r]) Q E s:=by
  obtain ⟨z,hd,xs,rel,dd⟩:=dn_rd I.hok d
  have hz:xs.length≤sizeLine:=by rw [← Paired.length rel];exact z
  have ro:=rel.val k
  refine call_meetsIn PySem.F.slot_dict_setdefault dd.typeIs PySem.F.entry_dict_setdefault (PySem.F.args_dict_setdefault_3 _ _ _) (meetsH_dict_setdefault (nkKind X.prog X.w) a b hd r)
    ⟨(show A.units+1+5 < cLine by omega),k,xs,nkey_of I.hok nk,dd,hz,fun p hp => ?_,fun hn h' dd' hs => ?_⟩
  · rw [hp] at ro
    cases e:valV kvs k with
    | none=>rw [e] at ro;exact ro.elim
    | some v'=>rw [e] at ro;exact h1 v' _ _ e ro (I.tok _)
  · rw [hn] at ro
    cases e:valV kvs k with
    | some v'=>rw [e] at ro;exact ro.elim
    | none =>
      obtain ⟨φ,I',d'⟩:=dn_write (t':=s.toks+(nkKind X.prog X.w).draws k) I d hs dd' (rel.snoc nk rv) (by rw [List.length_append];exact hl)
      exact h2 e φ _ I' d'
end
noncomputable def tSetD (P:Program) (w:World) (td ty tx:TE):TE:=fun σ H Q=>td σ H fun x H1=>∃ a,x = .ref a∧(∃ kvs,DN P w H1 a kvs)∧ty σ H1 fun y H2=>tx σ H2 fun z H3=>∃ kvs k b,DN P w H3 a kvs∧y = .ref b∧NKey H3 k b∧kvs.length < sizeLine ∧
  (∀ v,valV kvs k=some v→Q v H3)∧(valV kvs k=none→∀ φ,DN P w (upd H3 a (.ext φ)) a (kvs ++ [(k,z)])→Q z (upd H3 a (.ext φ)))
theorem isN_at {X:Cx} {pins:List (Addr × Obj)} {σ : St} {H:Hp} {s:Shared} {a:Addr} (I:Inv X pins σ H s) (d:∃ kvs,DN X.prog X.w H a kvs) :
    s.TypeIs (.ref a) "dict" ∧ (∀ b,Value.ref a = .ref b→∃ ob,s.heap.get? b=some ob∧ob.dict=none)∧(a == sysModules)=false:=by
  obtain ⟨kvs,e⟩:=d
  obtain ⟨_,hd,xs,_,dd⟩:=dn_rd I.hok e
  refine ⟨dd.typeIs,fun b q => ?_,hd⟩
  cases q
  obtain ⟨ob,_,_,h1,h2,_⟩:=dd
  exact ⟨ob,h1,h2.2.1⟩
section
variable {X:Cx} {o e f:Expr} {apos cpos:Pos} {td ty tx:TE}
theorem pe_setD (hu:X.A.units+10 < cLine) (ho:PE X o td) (he:PE X e ty) (hf:PE X f tx) (m:M2 X o "setdefault" apos e f cpos):PE X (.Call (.Attribute o "setdefault" apos) [e,f] [] cpos) (tSetD X.prog X.w td ty tx):=by
  intro pins s σ H Q I h
  refine wpAny_Call_method m.base m.few m.line PySem.F.plainAttrs_dict PySem.F.slot_dict_setdefault PySem.F.type_dict_setdefault (thn (ho pins s σ H _ I h) fun u s1 ⟨x,H1,I1,rx,a,ex,d,q1⟩ => ?_)
  subst ex
  obtain rfl:u=Value.ref a:=rx
  obtain ⟨t1,t2,_⟩:=isN_at I1 d
  refine ⟨t1,t2,?_⟩
  rw [m.trees]
  refine Calls.callWith_builtin rfl (Calls.evalArgs_plain (Calls.spliced_cons (thn (he pins s1 σ H1 _ I1 q1) fun iv s2 ⟨y,H2,I2,ry,q2⟩ =>
    Calls.spliced_cons (thn (hf pins s2 σ H2 _ I2 q2) fun fv s3 ⟨z,H3,I3,rz,kvs,k,b,d3,ey,nk,hl,q3,q4⟩=>Calls.spliced_nil ?_))))
  subst ey
  obtain rfl:iv=Value.ref b:=ry
  exact dn_setdefault hu I3 d3 nk rz hl (fun v' w' s4 e4 r4 I4=>⟨v',H3,I4,r4,q3 v' e4⟩) fun hn φ s4 I4 d4=>⟨z,_,I4,rz,q4 hn φ d4⟩
noncomputable def tDNewN (P:Program) (w:World):TE:=fun _ H Q=>∀ p φ,H p=none→DN P w (upd H p (.ext φ)) p []→Q (.ref p) (upd H p (.ext φ))
theorem pe_dnewN {pos:Pos}:PE X (.Dict [] [] pos) (tDNewN X.prog X.w):=by
  intro pins s σ H Q I h
  have hd:(s.heap.objs.size == sysModules)=false:=beq_eq_false_iff_ne.mpr (Ne.symm (Nat.ne_of_lt I.big))
  refine wpAny_Dict_empty ⟨.ref s.heap.objs.size,_,I.laid (a:=s.heap.objs.size) (o := .ext fun h=>h.get? s.heap.objs.size=some { cls := .type "dict",data := .dict #[] }) (t':=s.toks) (fun _ _ q=>Heap.get?_push_of_some _ q) (Nat.le_refl _) (ext_ok (Heap.get?_push_size _ rfl)),rfl,h _ _ (I.hok.fresh (Nat.le_refl _)) ?_⟩
  exact ⟨Nat.zero_le _,hd, [],_, #[],0,upd_same,.nil,⟨rfl,rfl,rfl⟩,rfl,rfl,List.nodup_nil⟩
end
end L2
namespace Sw
inductive TM (S:Type) where
  | num (n:Int) | name (x:S) | of (x:S) (as:List Nat)
section
variable {S:Type}
inductive Eqv (ts:List (TM S)) (es:List (Nat × Nat)):Nat→Nat→Prop where
  | refl (i:Nat):Eqv ts es i i
  | symm {i j:Nat}:Eqv ts es i j→Eqv ts es j i
  | trans {i j k:Nat}:Eqv ts es i j→Eqv ts es j k→Eqv ts es i k
  | edge {i j:Nat}:(i,j)∈es→Eqv ts es i j
  | same {i j:Nat} {t:TM S}:ts[i]? = some t→ts[j]? = some t→Eqv ts es i j
  | cong {i j:Nat} {x:S} {as bs:List Nat}:ts[i]? = some (.of x as)→ts[j]? = some (.of x bs)→as.length=bs.length→(∀ (k a b:Nat),as[k]? = some a→bs[k]? = some b→Eqv ts es a b)→Eqv ts es i j
noncomputable def GoodL (ls:List Nat):Prop := ∀ k v:Nat,ls[k]? = some v→v≤k∧ls[v]? = some v
noncomputable def ren (hi lo v:Nat):Nat:=if v=hi then lo else v
noncomputable def jn (ls:List Nat) (hi lo:Nat):List Nat:=ls.map (ren hi lo)
theorem jn_at {ls:List Nat} {hi lo k:Nat}:(jn ls hi lo)[k]? = (ls[k]?).map (ren hi lo):=by unfold jn;rw [List.getElem?_map]
theorem jn_len {ls:List Nat} {hi lo:Nat}:(jn ls hi lo).length=ls.length:=by unfold jn;rw [List.length_map]
theorem good_jn {ls:List Nat} {hi lo:Nat} (g:GoodL ls) (hlo:ls[lo]? = some lo) (hl:lo < hi):GoodL (jn ls hi lo):=by
  intro k v h
  rw [jn_at] at h
  cases e:ls[k]? with
  | none=>rw [e] at h;cases h
  | some u =>
    rw [e] at h
    have h':ren hi lo u=v:=Option.some.inj h
    obtain ⟨g1,g2⟩:=g k u e
    unfold ren at h'
    by_cases hu:u=hi
    · rw [if_pos hu] at h'
      subst h'
      refine ⟨by omega,?_⟩
      rw [jn_at,hlo]
      show some (ren hi lo lo)=some lo
      unfold ren
      rw [if_neg (by omega)]
    · rw [if_neg hu] at h'
      subst h'
      refine ⟨g1,?_⟩
      rw [jn_at,g2]
      show some (ren hi lo u)=some u
      unfold ren
      rw [if_neg hu]
noncomputable def Sound (ts:List (TM S)) (es:List (Nat × Nat)) (ls:List Nat):Prop := ∀ k v:Nat,ls[k]? = some v→Eqv ts es k v
theorem sound_jn {ts:List (TM S)} {es:List (Nat × Nat)} {ls:List Nat} {hi lo:Nat} (h:Sound ts es ls) (e:Eqv ts es hi lo):Sound ts es (jn ls hi lo):=by
  intro k v q
  rw [jn_at] at q
  cases z:ls[k]? with
  | none=>rw [z] at q;cases q
  | some u =>
    rw [z] at q
    have h':ren hi lo u=v:=Option.some.inj q
    have:=h k u z
    unfold ren at h'
    by_cases hu:u=hi
    · rw [if_pos hu] at h'
      subst h' hu
      exact .trans this e
    · rw [if_neg hu] at h'
      subst h'
      exact this
noncomputable def Keeps (ls ls':List Nat):Prop := ∀ i j v:Nat,ls[i]? = some v→ls[j]? = some v→∃ u,ls'[i]? = some u∧ls'[j]? = some u
theorem keeps_refl (ls:List Nat):Keeps ls ls:=fun i j v h1 h2=>⟨v,h1,h2⟩
theorem Keeps.trans {a b c:List Nat} (h:Keeps a b) (h':Keeps b c):Keeps a c:=fun i j v h1 h2=>by
  obtain ⟨u,e1,e2⟩:=h i j v h1 h2
  exact h' i j u e1 e2
theorem keeps_jn (ls:List Nat) (hi lo:Nat):Keeps ls (jn ls hi lo):=fun i j v h1 h2=>⟨ren hi lo v,by rw [jn_at,h1];rfl,by rw [jn_at,h2];rfl⟩
theorem sum_ren {hi lo:Nat} (hl:lo≤hi):∀ ls:List Nat,(ls.map (ren hi lo)).sum≤ls.sum
  | []=>Nat.le_refl _
  | v :: ls=>by
    have:=sum_ren hl ls
    rw [List.map_cons,List.sum_cons,List.sum_cons]
    have h1:ren hi lo v≤v:=by unfold ren;split <;> omega
    omega
theorem sum_jn {hi lo:Nat} (hl:lo < hi):∀ {ls:List Nat},hi∈ls→(jn ls hi lo).sum < ls.sum
  | v :: ls,h=>by
    unfold jn
    rw [List.map_cons,List.sum_cons,List.sum_cons]
    have h1:ren hi lo v≤v:=by unfold ren;split <;> omega
    have h2:=sum_ren (hi:=hi) (lo:=lo) (by omega) ls
    rcases List.mem_cons.mp h with e | e
    · have:ren hi lo v < v:=by unfold ren;rw [if_pos e.symm];omega
      omega
    · have:=sum_jn hl e
      unfold jn at this
      omega
noncomputable def mix (ls:List Nat) (hi lo m:Nat):List Nat:=ls.mapIdx fun k v=>if k < m then ren hi lo v else v
theorem mix_at {ls:List Nat} {hi lo m k:Nat}:(mix ls hi lo m)[k]? = (ls[k]?).map fun v=>if k < m then ren hi lo v else v:=by unfold mix;rw [List.getElem?_mapIdx]
theorem mix_len {ls:List Nat} {hi lo m:Nat}:(mix ls hi lo m).length=ls.length:=by unfold mix;rw [List.length_mapIdx]
theorem mix_start {ls:List Nat} {hi lo:Nat} (g:GoodL ls):mix ls hi lo hi=ls:=by
  refine List.ext_getElem? fun k => ?_
  rw [mix_at]
  cases e:ls[k]? with
  | none=>rfl
  | some v =>
    have:=(g k v e).1
    show some _=some _
    dsimp only
    by_cases hk:k < hi
    · rw [if_pos hk];unfold ren;rw [if_neg (by omega)]
    · rw [if_neg hk]
theorem mix_set {ls:List Nat} {hi lo m v:Nat} (h:ls[m]? = some v):(mix ls hi lo m).set m (ren hi lo v)=mix ls hi lo (m+1):=by
  have hm:=(List.getElem?_eq_some_iff.mp h).1
  refine List.ext_getElem? fun k => ?_
  rw [List.getElem?_set,mix_at,mix_at,mix_len]
  by_cases hk:m=k
  · subst hk
    rw [if_pos rfl,if_pos hm,h]
    show some _=some _
    dsimp only
    rw [if_pos (by omega)]
  · rw [if_neg hk]
    cases e:ls[k]? with
    | none=>rfl
    | some u =>
      show some _=some _
      dsimp only
      by_cases h1:k < m
      · rw [if_pos h1,if_pos (by omega)]
      · rw [if_neg h1,if_neg (by omega)]
theorem mix_stay {ls:List Nat} {hi lo m v:Nat} (h:ls[m]? = some v) (hv:v≠hi):mix ls hi lo (m+1)=mix ls hi lo m:=by
  refine List.ext_getElem? fun k => ?_
  rw [mix_at,mix_at]
  by_cases hk:k=m
  · subst hk
    rw [h]
    show some _=some _
    dsimp only
    rw [if_pos (by omega),if_neg (by omega)]
    unfold ren
    rw [if_neg hv]
  · cases e:ls[k]? with
    | none=>rfl
    | some u =>
      show some _=some _
      dsimp only
      by_cases h1:k < m
      · rw [if_pos h1,if_pos (by omega)]
      · rw [if_neg h1,if_neg (by omega)]
theorem mix_end {ls:List Nat} {hi lo m:Nat} (h:ls.length≤m):mix ls hi lo m=jn ls hi lo:=by
  refine List.ext_getElem? fun k => ?_
  rw [mix_at,jn_at]
  cases e:ls[k]? with
  | none=>rfl
  | some u =>
    have:=(List.getElem?_eq_some_iff.mp e).1
    show some _=some _
    dsimp only
    rw [if_pos (by omega)]
noncomputable def mk (ls:List Nat):TM S→TM S
  | .num n => .num n
  | .name x => .name x
  | .of x as => .of x (as.map fun a=>ls.getD a 0)
noncomputable def Stands (ts:List (TM S)) (es:List (Nat × Nat)):TM S→TM S→Prop
  | .of x as,.of y vs=>x=y∧as.length=vs.length∧∀ k a v:Nat,as[k]? = some a→vs[k]? = some v→Eqv ts es a v
  | t,m=>t=m
theorem stands_mk {ts:List (TM S)} {es:List (Nat × Nat)} {ls:List Nat} (h:Sound ts es ls):∀ {t:TM S},(∀ x as,t = .of x as→∀ a∈as,a < ls.length)→Stands ts es t (mk ls t)
  | .num n,_=>rfl
  | .name x,_=>rfl
  | .of x as,hb=>by
    refine ⟨rfl,by rw [List.length_map],fun k a v h1 h2 => ?_⟩
    rw [List.getElem?_map,h1] at h2
    have e:ls.getD a 0=v:=Option.some.inj h2
    have ha:=hb x as rfl a (List.mem_of_getElem? h1)
    rw [List.getD_eq_getElem?_getD,List.getElem?_eq_getElem ha] at e
    refine h a v ?_
    rw [List.getElem?_eq_getElem ha, ← e]
    rfl
theorem stands_eqv {ts:List (TM S)} {es:List (Nat × Nat)} {i j:Nat} {t u m:TM S} (hi:ts[i]? = some t) (hj:ts[j]? = some u) (h1:Stands ts es t m) (h2:Stands ts es u m):Eqv ts es i j:=by
  cases t with
  | num n =>
    have e:TM.num n=m:=h1
    subst e
    cases u with
    | num k=>cases (show TM.num k=TM.num n from h2);exact .same hi hj
    | name y=>cases (show TM.name y=TM.num n from h2)
    | of y bs=>cases (show TM.of y bs=TM.num n from h2)
  | name x =>
    have e:TM.name x=m:=h1
    subst e
    cases u with
    | num k=>cases (show TM.num k=TM.name x from h2)
    | name y=>cases (show TM.name y=TM.name x from h2);exact .same hi hj
    | of y bs=>cases (show TM.of y bs=TM.name x from h2)
  | of x as =>
    cases m with
    | num k=>cases (show TM.of x as=TM.num k from h1)
    | name y=>cases (show TM.of x as=TM.name y from h1)
    | of y vs =>
      obtain ⟨rfl,l1,q1⟩:=h1
      cases u with
      | num k=>cases (show TM.num k=TM.of x vs from h2)
      | name z=>cases (show TM.name z=TM.of x vs from h2)
      | of z bs =>
        obtain ⟨rfl,l2,q2⟩:=h2
        refine .cong hi hj (by omega) fun k a b ha hb => ?_
        have hk:k < vs.length:=by have:=(List.getElem?_eq_some_iff.mp ha).1;omega
        exact .trans (q1 k a _ ha (List.getElem?_eq_getElem hk)) (.symm (q2 k b _ hb (List.getElem?_eq_getElem hk)))
noncomputable def Closed (ts:List (TM S)) (es:List (Nat × Nat)) (ls:List Nat):Prop :=
  ls.length=ts.length∧GoodL ls∧Sound ts es ls∧∀ i j:Nat,i < ts.length→j < ts.length→Eqv ts es i j→ls[i]? = ls[j]?
noncomputable def Arms (ts:List (TM S)):Prop := ∀ (i:Nat) (x:S) (as:List Nat),ts[i]? = some (.of x as)→∀ a∈as,a < i
theorem complete {ts:List (TM S)} {es:List (Nat × Nat)} {ls:List Nat} (ha:Arms ts) (he:∀ a b:Nat,(a,b)∈es→a < ts.length∧b < ts.length) (hl:ls.length=ts.length)
    (h1:∀ a b:Nat,(a,b)∈es→ls[a]? = ls[b]?) (h2:∀ (i j:Nat) (t u:TM S),ts[i]? = some t→ts[j]? = some u→mk ls t=mk ls u→ls[i]? = ls[j]?) {i j:Nat} (h:Eqv ts es i j):ls[i]? = ls[j]? := by
  induction h with
  | refl i=>rfl
  | symm _ ih=>exact ih.symm
  | trans _ _ ih1 ih2=>exact ih1.trans ih2
  | edge h=>exact h1 _ _ h
  | same q1 q2=>exact h2 _ _ _ _ q1 q2 rfl
  | @cong i j x as bs q1 q2 hl' _ ih =>
    refine h2 _ _ _ _ q1 q2 ?_
    have e:as.map (fun a=>ls.getD a 0)=bs.map (fun a=>ls.getD a 0):=by
      refine List.ext_getElem? fun k => ?_
      rw [List.getElem?_map,List.getElem?_map]
      by_cases hk:k < as.length
      · have e1:=List.getElem?_eq_getElem (l:=as) hk
        have e2:=List.getElem?_eq_getElem (l:=bs) (show k < bs.length by omega)
        have:=ih k _ _ e1 e2
        rw [e1,e2]
        show some (ls.getD _ 0)=some (ls.getD _ 0)
        rw [List.getD_eq_getElem?_getD,List.getD_eq_getElem?_getD,this]
      · rw [List.getElem?_eq_none (by omega),List.getElem?_eq_none (by omega)]
    show TM.of x _=TM.of x _
    rw [e]
theorem good_id (n:Nat):GoodL (List.range n):=fun k v h=>by
  have hk:k < (List.range n).length:=(List.getElem?_eq_some_iff.mp h).1
  rw [List.length_range] at hk
  rw [List.getElem?_range hk] at h
  cases h
  exact ⟨Nat.le_refl _,List.getElem?_range hk⟩
theorem sound_id (ts:List (TM S)) (es:List (Nat × Nat)) (n:Nat):Sound ts es (List.range n):=fun k v h=>by
  have hk:k < (List.range n).length:=(List.getElem?_eq_some_iff.mp h).1
  rw [List.length_range] at hk
  rw [List.getElem?_range hk] at h
  cases h
  exact .refl _
end
end Sw
namespace L2
open PySem PySem.Spec PyProof.Rows

section
variable {X:Cx}
inductive J_call_range1V (xs:List V) (H:Hp) (Q:VK):Prop
  | mk:∀ (j:Int),(xs = [.int j])→(∀ p,H p=none→Q (.ref p) (upd H p (.rng 0 j)))→J_call_range1V xs H Q
theorem call_range1V:CallR X (.type "range") (fun xs H Q=>J_call_range1V xs H Q):=by
  intro pins s σ H xs us Q I r h
  obtain ⟨j,rfl,q⟩:=h
  obtain ⟨u,rfl,ru⟩:=vals1 r
  obtain ⟨t,rfl⟩:=ru
  exact call_range_1 ⟨.ref s.heap.objs.size,_,I.laid (a:=s.heap.objs.size) (o := .rng 0 j) (fun _ _ q=>Heap.get?_push_of_some _ q) (Nat.le_refl _) ⟨_,_,_,Heap.get?_push_size _ rfl⟩,rfl,q _ (I.hok.fresh (Nat.le_refl _))⟩
inductive J_call_list_rng (xs:List V) (H:Hp) (Q:VK):Prop
  | mk:∀ (p:Addr) (n:Nat),(xs = [.ref p])→(H p=some (.rng 0 (n:Int)))→(n≤1000000)→(∀ l,H l=none→Q (.ref l) (upd H l (.lst ((List.range n).map fun i:Nat=>V.int (i:Int)))))→J_call_list_rng xs H Q
theorem call_list_rng (hc:X.calm=true):CallR X (.type "list") (fun xs H Q=>J_call_list_rng xs H Q):=by
  intro pins s σ H xs us Q I r h
  obtain ⟨p,n,rfl,hp,hn,q⟩:=h
  obtain ⟨u,rfl,ru⟩:=vals1 r
  cases (show u=Value.ref p from ru)
  obtain ⟨t,t',t'',e⟩:=(show ObjOk X.prog X.w H s.heap p (.rng 0 (n:Int)) from I.hok p _ hp)
  have hz:Builtin.Range.rangeSize 0 (n:Int) 1=n:=by rw [rangeSize_one];split <;> omega
  refine call_list_range (I.ok.hd hc) e (small_one (by omega) (by omega) (by omega) (by omega)) hz (by omega) fun h' tk acc' c' kp hS hacc => ?_
  refine ⟨.ref s.heap.objs.size,_,I.laid kp (Nat.le_refl _) (show ObjOk X.prog X.w _ h' _ (.lst ((List.range n).map fun i:Nat=>V.int (i:Int))) from ⟨?_,acc'.toList,c',?_,by simpa using hS⟩),rfl,q _ (I.hok.fresh (Nat.le_refl _))⟩
  · rw [List.length_map,List.length_range]
    exact Nat.le_trans hn (by decide)
  · refine valsBy (by rw [List.length_map,List.length_range,Array.length_toList];exact hacc.1.symm) fun j x v hx hv => ?_
    obtain ⟨t2,ht2⟩:=hacc.2 j v (by rw [← Array.getElem?_toList];exact hv)
    rw [List.getElem?_map] at hx
    have hj:j < n:=by
      have:=(List.getElem?_eq_some_iff.mp hv).1
      rw [Array.length_toList,hacc.1] at this
      exact this
    rw [List.getElem?_range hj] at hx
    have ex:V.int ((j:Nat):Int)=x:=Option.some.inj hx
    rw [← ex,ht2]
    exact ⟨t2,by congr 1;omega⟩
where
  valsBy:∀ {xs:List V} {us:List Value},xs.length=us.length→(∀ (j:Nat) x u,xs[j]? = some x→us[j]? = some u→RelV x u)→Vals xs us
  | [], [],_,_ => .nil
  | [],_ :: _,h,_=>by cases h
  | _ :: _, [],h,_=>by cases h
  | x :: xs,u :: us,h,f => .cons (f 0 x u rfl rfl) (valsBy (by simpa using h) fun j a b ha hb=>f (j+1) a b (by simpa using ha) (by simpa using hb))
end
theorem un10 {k:Nat} {A:Around} (hr:Room k A):A.units+10 < cLine:=by have:=hr.un;omega
theorem un101 {k:Nat} {A:Around} (hr:Room k A):A.units+151 < cLine:=by have:=hr.un;omega
theorem compI_range {lo:Int} {n:Nat} {ct:TT} {te:TE} {σ : St} {caps:List (Str × Nat)} {H:Hp} {Q:VK} (f:Int→Option V) (hn:n≤1000)
    (hel:∀ (i:Nat),i < n→∀ H',Same H H'→∀ (R:Bool→Hp→Prop),(R (f (lo+i)).isSome H')→ct (some (.int (lo+i)) :: capt σ caps) H' R)
    (hev:∀ (i:Nat) v,i < n→f (lo+i)=some v→∀ H',Same H H'→∀ Q':VK,Q' v H'→te (some (.int (lo+i)) :: capt σ caps) H' Q')
    (hq:∀ D,H D=none→Q (.ref D) (upd H D (.lst ((List.range n).filterMap fun i:Nat=>f (lo+i))))) :
    CompBodyI (Itr lo n) (gName 0) ct te (List.replicate 1 none ++ capt σ caps) H Q:=by
  intro D hD
  refine ⟨fun i m τ zs H'=>m=n - i∧i≤n∧(∃ o, τ = o :: capt σ caps)∧zs=(List.range i).filterMap (fun i:Nat=>f (lo+i))∧H'=upd H D (.lst zs),⟨n,by simp,Nat.zero_le _,⟨none,rfl⟩,by simp,rfl⟩,?_⟩
  rintro i m τ zs H' ⟨rfl,hi,⟨o,rfl⟩,rfl,rfl⟩
  refine ⟨upd_same,?_⟩
  have sm:∀ zs,Same H (upd H D (.lst zs)):=fun zs=>same_new hD _
  by_cases hlt:i < n
  · refine .inr ⟨hlt,?_,fun x H'' y => ?_⟩
    · refine small1000 (Nat.le_trans (List.length_filterMap_le _ _) ?_)
      rw [List.length_range];omega
    obtain ⟨e,e2⟩:=y
    subst e e2
    show ct (some (.int (lo+(i:Int))) :: capt σ caps) _ _
    refine hel i hlt _ (sm _) _ ?_
    have step:(List.range (i+1)).filterMap (fun i:Nat=>f (lo+i))=(List.range i).filterMap (fun i:Nat=>f (lo+i)) ++ (match f (lo+i) with | some v => [v] | none => []):=by
      rw [List.range_succ,List.filterMap_append]
      congr 1
      rw [List.filterMap_cons,List.filterMap_nil]
      cases f (lo+(i:Int)) <;> rfl
    cases e:f (lo+(i:Int)) with
    | none =>
      rw [e] at step
      refine ⟨n - (i+1),by omega,rfl,hlt,⟨_,rfl⟩,?_,rfl⟩
      rw [step,List.append_nil]
    | some v =>
      rw [e] at step
      refine hev i v hlt e _ (sm _) _ ?_
      refine ⟨upd_same,n - (i+1),by omega,rfl,hlt,⟨_,rfl⟩,step.symm,?_⟩
      rw [upd_upd]
  · have e:i=n:=by omega
    subst e
    exact .inl ⟨Nat.le_refl _,hq D hD⟩
end L2
namespace Sw
open PySem L2
noncomputable abbrev Tm:=TM Str
noncomputable abbrev nV (n:Nat):V:=V.int (n:Int)
noncomputable def IsTm (H:Hp):Tm→V→Prop
  | .num n,v=>∃ a,v = .ref a∧H a=some (.tup [.str "num",.int n])
  | .name x,v=>∃ a,v = .ref a∧H a=some (.tup [.str "name",.str x])
  | .of x as,v=>∃ a b,v = .ref a∧H a=some (.tup [.str "of",.str x,.ref b])∧H b=some (.tup (as.map nV))
theorem IsTm.keep {H H':Hp} (ht:∀ b ys,H b=some (.tup ys)→H' b=some (.tup ys)):∀ {t:Tm} {v:V},IsTm H t v→IsTm H' t v
  | .num n,v,h=>by obtain ⟨a,e,h⟩:=h;exact ⟨a,e,ht _ _ h⟩
  | .name x,v,h=>by obtain ⟨a,e,h⟩:=h;exact ⟨a,e,ht _ _ h⟩
  | .of x as,v,h=>by obtain ⟨a,b,e,h,h2⟩:=h;exact ⟨a,b,e,ht _ _ h,ht _ _ h2⟩
noncomputable abbrev Tms (H:Hp):List V→List Tm→Prop:=Paired fun v t=>IsTm H t v
theorem tms_keep {H H':Hp} {us:List V} {ts:List Tm} (ht:∀ b ys,H b=some (.tup ys)→H' b=some (.tup ys)) (h:Tms H us ts):Tms H' us ts:=Paired.mapP h fun _ _ z=>z.keep ht
theorem tms_same {H H':Hp} {us:List V} {ts:List Tm} (sm:Same H H') (h:Tms H us ts):Tms H' us ts:=tms_keep (fun b ys=>sm _ _) h
theorem tms_at {H:Hp}:∀ {us:List V} {ts:List Tm} {i:Nat} {v:V},Tms H us ts→us[i]? = some v→∃ t,ts[i]? = some t∧IsTm H t v
  | _,_,_,_,.nil,e=>by simp at e
  | _,_,0,_,.cons h _,e=>by simp at e;subst e;exact ⟨_,rfl,h⟩
  | _,_,i+1,v,.cons _ r,e=>by
    obtain ⟨t,e',h⟩:=tms_at (i:=i) (v:=v) r (by simpa using e)
    exact ⟨t,by simpa using e',h⟩
theorem tms_snoc {H:Hp} {us:List V} {ts:List Tm} {v:V} {t:Tm} (h:Tms H us ts) (q:IsTm H t v):Tms H (us ++ [v]) (ts ++ [t]):=Paired.snoc h q
noncomputable def tmNK:Tm→NK
  | .num n => [.inl (.inr "num"),.inl (.inl n)]
  | .name x => [.inl (.inr "name"),.inl (.inr x)]
  | .of x as => [.inl (.inr "of"),.inl (.inr x),.inr (as.map fun n:Nat=>(.inl (n:Int):Key))]
theorem tmNK_inj:∀ {t u:Tm},tmNK t=tmNK u→t=u
  | .num n,.num m,e=>by unfold tmNK at e;simp at e;rw [e]
  | .name x,.name y,e=>by unfold tmNK at e;simp at e;rw [e]
  | .of x as,.of y bs,e=>by
    unfold tmNK at e
    simp only [List.cons.injEq,Sum.inl.injEq,Sum.inr.injEq,and_true,true_and] at e
    rw [e.1]
    have:=map_inj_of (f:=fun n:Nat=>(.inl (n:Int):Key)) (fun a b h=>by have h:=Sum.inl.inj h;omega) e.2
    rw [this]
  | .num n,.name y,e=>by
    unfold tmNK at e
    simp only [List.cons.injEq,Sum.inl.injEq,Sum.inr.injEq] at e
    exact absurd e.1 (by decide)
  | .name n,.num y,e=>by
    unfold tmNK at e
    simp only [List.cons.injEq,Sum.inl.injEq,Sum.inr.injEq] at e
    exact absurd e.1 (by decide)
  | .num n,.of y bs,e=>by unfold tmNK at e;simp at e
  | .name n,.of y bs,e=>by unfold tmNK at e;simp at e
  | .of y bs,.num n,e=>by unfold tmNK at e;simp at e
  | .of y bs,.name n,e=>by unfold tmNK at e;simp at e
theorem nV_kV (as:List Nat):as.map nV=(as.map fun n:Nat=>(.inl (n:Int):Key)).map kV:=by
  rw [List.map_map];rfl
theorem IsTm.key {H:Hp}:∀ {t:Tm} {v:V},IsTm H t v→∃ b,v = .ref b∧NKey H (tmNK t) b
  | .num n,v,h=>by
    obtain ⟨a,e,h⟩:=h
    refine ⟨a,e,_,h,?_⟩
    exact ⟨_,rfl,_,rfl,rfl⟩
  | .name x,v,h=>by
    obtain ⟨a,e,h⟩:=h
    refine ⟨a,e,_,h,?_⟩
    exact ⟨_,rfl,_,rfl,rfl⟩
  | .of x as,v,h=>by
    obtain ⟨a,b,e,h,h2⟩:=h
    refine ⟨a,e,_,h,?_⟩
    rw [nV_kV] at h2
    exact ⟨_,rfl,_,rfl,b,_,rfl,h2,rfl⟩
noncomputable def tmD:Tm→D
  | .num n => .tup [.str "num",.int n]
  | .name x => .tup [.str "name",.str x]
  | .of x as => .tup [.str "of",.str x,.tup (as.map fun n:Nat => .int (n:Int))]
theorem dens_ints {H:Hp}:∀ as:List Nat,Dens H (as.map fun n:Nat=>D.int (n:Int)) (as.map nV)
  | []=>by rw [List.map_nil,List.map_nil];exact dens_nil
  | a :: as=>by rw [List.map_cons,List.map_cons];exact dens_cons (by rw [Den];exact .inl rfl) (dens_ints as)
theorem IsTm.den {H:Hp}:∀ {t:Tm} {v:V},IsTm H t v→Den H (tmD t) v
  | .num n,v,h=>by
    obtain ⟨a,e,h⟩:=h
    rw [tmD,Den]
    exact ⟨a,_,e,h,dens_cons (by rw [Den]) (dens_cons (by rw [Den];exact .inl rfl) dens_nil)⟩
  | .name x,v,h=>by
    obtain ⟨a,e,h⟩:=h
    rw [tmD,Den]
    exact ⟨a,_,e,h,dens_cons (by rw [Den]) (dens_cons (by rw [Den]) dens_nil)⟩
  | .of x as,v,h=>by
    obtain ⟨a,b,e,h,h2⟩:=h
    rw [tmD,Den]
    exact ⟨a,_,e,h,dens_cons (by rw [Den]) (dens_cons (by rw [Den]) (dens_cons (by rw [Den];exact ⟨b,_,rfl,h2,dens_ints as⟩) dens_nil))⟩
theorem tms_den {H:Hp} {us:List V} {ts:List Tm} (h:Tms H us ts):Dens H (ts.map tmD) us:=by
  induction h with
  | nil=>exact dens_nil
  | cons h _ ih=>rw [List.map_cons];exact dens_cons h.den ih
theorem ints_deep:∀ as:List Nat,D.deeps (as.map fun n:Nat=>D.int (n:Int))=0
  | []=>by rw [List.map_nil,D.deeps]
  | a :: as=>by rw [List.map_cons,D.deeps,ints_deep as,D.deep];rfl
theorem tm_deep:∀ t:Tm,(tmD t).deep≤2
  | .num n=>by rw [tmD,D.deep,D.deeps,D.deeps,D.deeps,D.deep,D.deep];decide
  | .name n=>by rw [tmD,D.deep,D.deeps,D.deeps,D.deeps,D.deep,D.deep];decide
  | .of x as=>by rw [tmD,D.deep,D.deeps,D.deeps,D.deeps,D.deeps,D.deep,D.deep,D.deep,ints_deep];decide
theorem tms_deep:∀ ts:List Tm,D.deeps (ts.map tmD)≤2
  | []=>by rw [List.map_nil,D.deeps];omega
  | t :: ts=>by rw [List.map_cons,D.deeps];have:=tms_deep ts;have:=tm_deep t;omega
noncomputable def But (L:Addr) (H H':Hp):Prop := ∀ c o,c≠L→H c=some o→H' c=some o
theorem But.refl (L:Addr) (H:Hp):But L H H:=fun _ _ _ h=>h
theorem But.trans {L:Addr} {H H1 H2:Hp} (a:But L H H1) (b:But L H1 H2):But L H H2:=fun c o n h=>b c o n (a c o n h)
theorem But.same {L:Addr} {H H1 H2:Hp} (a:But L H H1) (b:Same H1 H2):But L H H2:=fun c o n h=>b c o (a c o n h)
theorem But.put {L:Addr} {H H1:Hp} {o:HO} (a:But L H H1):But L H (upd H1 L o):=fun c u n h=>by rw [upd_ne n];exact a c u n h
theorem But.new {L p:Addr} {H H1:Hp} {o:HO} (a:But L H H1) (hp:H p=none):But L H (upd H1 p o):=fun c u n h=>by rw [upd_ne (ne_of_none h hp)];exact a c u n h
theorem But.tup {L:Addr} {H H1:Hp} {ls:List V} (a:But L H H1) (hL:H L=some (.lst ls)):∀ b ys,H b=some (.tup ys)→H1 b=some (.tup ys):=fun b ys h=>a b _ (ne_of h hL (fun z=>nomatch z)) h
noncomputable def EdgeAt (H:Hp) (v:V) (e:Nat × Nat):Prop := ∃ a rest,v = .ref a∧H a=some (.tup (nV e.1 :: nV e.2 :: rest))
noncomputable abbrev Edges (H:Hp):List V→List (Nat × Nat)→Prop:=Paired (EdgeAt H)
theorem edges_at {H:Hp}:∀ {us:List V} {ts:List (Nat × Nat)} {i:Nat} {v:V},Edges H us ts→us[i]? = some v→∃ t,ts[i]? = some t∧EdgeAt H v t
  | _,_,_,_,.nil,e=>by simp at e
  | _,_,0,_,.cons h _,e=>by simp at e;subst e;exact ⟨_,rfl,h⟩
  | _,_,i+1,v,.cons _ r,e=>by
    obtain ⟨t,e',h⟩:=edges_at (i:=i) (v:=v) r (by simpa using e)
    exact ⟨t,by simpa using e',h⟩
theorem rd_cut {t rest:TS} {D:Ends} {σ : St} {H:Hp} (R:St→Hp→Prop) (key:∀ σ' H',R σ' H'→rest D σ' H') (h:∀ {N:St→Hp→Prop},(∀ σ' H',R σ' H'→N σ' H')→t { D with nx:=N } σ H):tSeq t rest D σ H:=h key
theorem nV_at {ls:List Nat} {k v:Nat} (h:ls[k]? = some v):atI (ls.map nV) (k:Int)=some (nV v):=atI_nat (by rw [List.getElem?_map,h];rfl)
theorem nV_set {ls:List Nat} {k v:Nat}:(ls.map nV).set k (nV v)=(ls.set k v).map nV:=by rw [List.map_set]
noncomputable def abc:Str := "abcdefghijklmnopqrstuvwxyz"
noncomputable def letF (i:Int):Str:=⟨#[abc.cps.toList.getD (i % 26).toNat 97]⟩
theorem abcF_at (i:Int):atI abc.cps.toList (i % 26)=some (abc.cps.toList.getD (i % 26).toNat 97):=by
  have h0:0≤i % 26:=Int.emod_nonneg _ (by decide)
  have h1:i % 26 < 26:=Int.emod_lt_of_pos _ (by decide)
  have hl:abc.cps.toList.length=26:=by decide +kernel
  have hi:(i % 26).toNat < abc.cps.toList.length:=by omega
  have z:atI abc.cps.toList (((i % 26).toNat:Nat):Int)=some abc.cps.toList[(i % 26).toNat]:=atI_nat (List.getElem?_eq_getElem hi)
  have e:(((i % 26).toNat:Nat):Int)=i % 26:=by omega
  rw [e] at z
  rw [z,List.getD_eq_getElem?_getD,List.getElem?_eq_getElem hi]
  rfl
theorem paired_app {α β : Type} {R : α → β → Prop}:∀ {xs xs':List α} {ys ys':List β},Paired R xs ys→Paired R xs' ys'→Paired R (xs ++ xs') (ys ++ ys')
  | _,_,_,_,.nil,h=>h
  | _,_,_,_,.cons h r,q => .cons h (paired_app r q)
end Sw
namespace L2
open PySem PySem.Spec PyProof.Rows

section
variable {prog:Program} {w:World} {K:Type} [DecidableEq K] {knd:HeapKind prog w K} {A:Around} {E:Value→Shared→Prop} {s:Shared} {d:Addr} {xs:List (K × Addr × Value)}
theorem meetsH_dict_len (hd:(d == sysModules)=false) :
    MeetsIn prog w (Builtin.«dict.__len__» ⟨[.ref d], []⟩) (fun _ R s=>∃ xs,s.heap.DictOfH knd d xs∧R (.ok (.ret (.int xs.length s.toks))) { s with toks:=s.toks+1 }) :=
  .of_wp fun A R s ⟨xs,hm,h⟩=>by
    obtain ⟨o,es,ep,ho,hc,hdat,he,hk,hn⟩:=hm
    show wpAny _ _ (dictSize d >>= _) _ _ s
    unfold dictSize
    refine wpAny_bind (wpAny_bind (wpAny_dictEntries ho hdat (wpAny_pure ?_)))
    show wpAny _ _ (Builtin.Dict.pendingCount d >>= _) _ _ s
    refine wpAny_bind (wpAny_pendingCount_other hd ?_)
    refine wpAny_ret_mkInt ?_
    rw [Nat.add_zero,size_of_entries he];exact h
theorem lenH_body {Q:Value→Shared→Prop} (hd:(d == sysModules)=false) (hm:s.heap.DictOfH knd d xs) (hfit:(xs.length:Int) < 2 ^ 63)
    (h:Q (.int xs.length (s.toks+1)) { s with toks:=s.toks+1+1 }):wpAny (model prog w) A (Builtin.«len» ⟨[.ref d], []⟩) (fun fin s'=>∃ r,fin = .done (.ret r)∧Q r s') E s:=by
  unfold Builtin.«len»
  refine wpAny_bind (m:=oneArg "len" _) (wpAny_pure ?_)
  refine wpAny_bind (m:=callSpecial? (.ref d) (Str.ofString "__len__")) (wpAny_callSpecial?_slot (name:=Str.ofString "__len__") hm.typeIs F.slot_dict_len
    (call_meetsIn F.slot_dict_len hm.typeIs F.entry_dict_len (F.args_dict_len_1 _) (meetsH_dict_len (knd:=knd) hd) ⟨xs,hm,?_⟩))
  show wpAny _ _ _ _ _ { s with toks:=s.toks+1 }
  refine wpAny_bind (wpAny_holding (wpAny_pure ?_))
  refine wpAny_bind (wpAny_letGo ?_)
  show wpAny _ _ (if ((xs.length:Nat):Int) < 0 then _ else _) _ _ _
  rw [if_neg (by omega)]
  show wpAny _ _ (if ((xs.length:Nat):Int) ≥ 2 ^ 63 then _ else _) _ _ _
  rw [if_neg (by omega)]
  exact wpAny_bind (wpAny_mkInt (wpAny_pure ⟨_,rfl,h⟩))
theorem call_lenH {Q:Value→Shared→Prop} (hd:(d == sysModules)=false) (hm:s.heap.DictOfH knd d xs) (hfit:(xs.length:Int) < 2 ^ 63)
    (h:Q (.int xs.length (s.toks+1)) { s with toks:=s.toks+1+1 }):wpAny (model prog w) A (call (.builtin "len") [.ref d]) Q E s :=
  Calls.call_function_entry kind_len plain_len entry_len (args_len1 _) (lenH_body hd hm hfit h)
end
section
variable {X:Cx} {pins:List (Addr × Obj)} {σ : St} {H:Hp} {s:Shared} {a b:Addr} {kvs kvs':List (NK × V)} {k:NK} {y v:V} {u r:Value} {A:Around} {E:Value→Shared→Prop}
theorem KN.repl {xs:List (NK × Addr × Value)} (r:KN H kvs xs) (k:NK) {y:V} {u:Value} (ry:RelV y u) :
    KN H (kvs.map fun kv=>if kv.1=k then (kv.1,y) else kv) (xs.map (putAt k u)):=by
  induction r with
  | nil=>exact .nil
  | @cons p q ps qs h t ih =>
    rw [List.map_cons,List.map_cons]
    refine .cons ?_ ih
    obtain ⟨h1,h2,h3⟩:=h
    unfold putAt
    by_cases e:p.1=k
    · rw [if_pos e,if_pos (h1.symm.trans e)];exact ⟨h1,h2,ry⟩
    · rw [if_neg e,if_neg (fun z=>e (h1.trans z))];exact ⟨h1,h2,h3⟩
theorem KN.put {xs:List (NK × Addr × Value)} (r:KN H kvs xs) (k:NK) {b:Addr} {y:V} {u:Value} (hb:NKey H k b) (ry:RelV y u) :
    KN H (putK kvs k y) (storedH xs k b u):=by
  have e:(kvs.any fun kv=>decide (kv.1=k))=(atKey xs k).isSome:=by
    rw [valV_any,(r.val k).isSome_eq,Option.isSome_map]
  unfold putK storedH
  rw [e]
  by_cases q:(atKey xs k).isSome=true
  · rw [if_pos q,if_pos q];exact r.repl k ry
  · rw [if_neg q,if_neg q];exact Paired.snoc r ⟨rfl,hb,ry⟩
theorem dn_getItem {Q:Value→Shared→Prop} (hu:A.units+10 < cLine) (I:Inv X pins σ H s) (d:DN X.prog X.w H a kvs) (nk:NKey H k b) (l:valV kvs k=some v) (h:∀ w' s',Inv X pins σ H s'→RelV v w'→Q w' s') :
    wpAny (model X.prog X.w) A (getItem (.ref a) (.ref b)) Q E s:=by
  obtain ⟨z,hd,xs,rel,dd⟩:=dn_rd I.hok d
  obtain ⟨w',hw,rw'⟩:=RelO.some_of (v:=v) (o:=(atKey xs k).map (·.2)) (by rw [← l];exact rel.val k)
  obtain ⟨p,hp,hp2⟩:=Option.map_eq_some_iff.mp hw
  refine wpAny_getItem_heap (show A.units+1+5 < cLine by omega) (nkey_of I.hok nk) dd hp ?_
  rw [hp2]
  exact h w' _ (I.tok _) rw'
theorem dn_setItem {Q:Unit→Shared→Prop} (hu:A.units+10 < cLine) (I:Inv X pins σ H s) (d:DN X.prog X.w H a kvs) (nk:NKey H k b) (rv:RelV v r) (hl:kvs.length < sizeLine)
    (h:∀ φ s',Inv X pins σ (upd H a (.ext φ)) s'→DN X.prog X.w (upd H a (.ext φ)) a (putK kvs k v)→Q () s') :
    wpAny (model X.prog X.w) A (setItem (.ref a) (.ref b) r) Q E s:=by
  obtain ⟨z,hd,xs,rel,dd⟩:=dn_rd I.hok d
  have hz:xs.length≤sizeLine:=by rw [← Paired.length rel];exact z
  have hl':(putK kvs k v).length≤sizeLine:=by have:=length_putK kvs k v;omega
  refine wpAny_setItem_heap (hsz:=hz) (show A.units+1+5 < cLine by omega) (nkey_of I.hok nk) dd fun h' dd' hs => ?_
  obtain ⟨φ,I',d'⟩:=dn_write (t':=s.toks+(nkKind X.prog X.w).draws k) I d hs dd' (rel.put k nk rv) hl'
  exact h φ _ I' d'
theorem dn_get1 {Q:Value→Shared→Prop} (hu:A.units+10 < cLine) (I:Inv X pins σ H s) (d:DN X.prog X.w H a kvs) (nk:NKey H k b) (h:∀ w' s',Inv X pins σ H s'→RelV ((valV kvs k).getD .non) w'→Q w' s') :
    wpAny (model X.prog X.w) A (call (.builtin "dict.get") [.ref a,.ref b]) Q E s:=by
  obtain ⟨z,hd,xs,rel,dd⟩:=dn_rd I.hok d
  exact call_meetsIn PySem.F.slot_dict_get dd.typeIs PySem.F.entry_dict_get (PySem.F.args_dict_get_2 _ _) (meetsH_dict_get (nkKind X.prog X.w) a b hd) ⟨(show A.units+1+5 < cLine by omega),k,xs,nkey_of I.hok nk,dd,h _ _ (I.tok _) ((rel.val k).getD rfl)⟩
theorem dn_len {Q:Value→Shared→Prop} (I:Inv X pins σ H s) (d:DN X.prog X.w H a kvs) (h:∀ t s',Inv X pins σ H s'→Q (.int kvs.length t) s'):wpAny (model X.prog X.w) A (call (.builtin "len") [.ref a]) Q E s:=by
  obtain ⟨z,hd,xs,rel,dd⟩:=dn_rd I.hok d
  have e:=Paired.length rel
  refine call_lenH hd dd (by rw [← e];rw [sizeLine_eq] at z;omega) ?_
  rw [← e]
  exact h _ _ (I.tok _)
end
inductive J_tNGet (P:Program) (w:World) (Q:VK) (x:V) (y:V) (H2:Hp):Prop
  | mk:∀ a b kvs k v,(x = .ref a)→(y = .ref b)→(DN P w H2 a kvs)→(NKey H2 k b)→(valV kvs k=some v)→(Q v H2)→J_tNGet P w Q x y H2
noncomputable def tNGet (P:Program) (w:World) (td ty:TE):TE:=fun σ H Q=>td σ H fun x H1=>ty σ H1 fun y H2=>J_tNGet P w Q x y H2
inductive J_sNPut (P:Program) (w:World) (D:Ends) (σ : St) (v:V) (x:V) (y:V) (H3:Hp):Prop
  | mk:∀ a b kvs k,(x = .ref a)→(y = .ref b)→(DN P w H3 a kvs)→(NKey H3 k b)→(kvs.length < sizeLine)→(∀ φ,DN P w (upd H3 a (.ext φ)) a (putK kvs k v)→D.nx σ (upd H3 a (.ext φ)))→J_sNPut P w D σ v x y H3
noncomputable def sNPut (P:Program) (w:World) (td ty tv:TE):TS:=fun D σ H=>tv σ H fun v H1=>td σ H1 fun x H2=>ty σ H2 fun y H3=>J_sNPut P w D σ v x y H3
inductive J_tNGet1 (P:Program) (w:World) (ty:TE) (σ : St) (Q:VK) (x:V) (H1:Hp):Prop
  | mk:∀ a,(x = .ref a)→((∃ kvs,DN P w H1 a kvs))→(ty σ H1 fun y H2=>∃ b kvs k,y = .ref b∧DN P w H2 a kvs∧NKey H2 k b∧Q ((valV kvs k).getD .non) H2)→J_tNGet1 P w ty σ Q x H1
noncomputable def tNGet1 (P:Program) (w:World) (td ty:TE):TE:=fun σ H Q=>td σ H fun x H1=>J_tNGet1 P w ty σ Q x H1
section
variable {X:Cx} {o i e f value:Expr} {pos pos' apos cpos:Pos} {td ty tv:TE}
theorem dn_typeIs {pins:List (Addr × Obj)} {σ : St} {H:Hp} {s:Shared} {a:Addr} {kvs:List (NK × V)} (I:Inv X pins σ H s) (d:DN X.prog X.w H a kvs):s.TypeIs (.ref a) "dict" := (isN_at I ⟨kvs,d⟩).1
theorem pe_nget (hu:X.A.units+10 < cLine) (ho:PE X o td) (hi:PE X i ty) (hs:NoSl i):PE X (.Subscript o i pos) (tNGet X.prog X.w td ty):=by
  intro pins s σ H Q I h
  refine subD_of PySem.F.slot_dict_getitem.lookup hs (thn (ho pins s σ H _ I h) fun u s1 ⟨x,H1,I1,rx,q1⟩=>thn (hi pins s1 σ H1 _ I1 q1) fun iv s2 ⟨y,H2,I2,ry,a,b,kvs,k,v,ex,ey,d,nk,l,q2⟩ => ?_)
  subst ex ey
  obtain rfl:u=Value.ref a:=rx
  obtain rfl:iv=Value.ref b:=ry
  exact ⟨dn_typeIs I2 d,dn_getItem hu I2 d nk l fun w' s3 I3 rw'=>⟨v,H2,I3,rw',q2⟩⟩
theorem ps_nput (hu:X.A.units+10 < cLine) (ho:PE X o td) (hi:PE X i ty) (hv:PE X value tv) (hs:swapsWith value (some (.Subscript o i pos')) pos.line X.env=pure false) :
    PS X (.Assign [.Subscript o i pos'] value pos) (sNPut X.prog X.w td ty tv):=by
  intro pins s σ H D I h
  refine wpAny_Assign_Subscript (thn (hv pins s σ H _ I h) fun r s1 ⟨v,H1,I1,rv,q1⟩=>thn (ho pins s1 σ H1 _ I1 q1) fun u s2 ⟨x,H2,I2,rx,q2⟩=>thn (hi pins s2 σ H2 _ I2 q2) fun iv s3 ⟨y,H3,I3,ry,a,b,kvs,k,ex,ey,d,nk,hl,q3⟩ => ?_) hs
  subst ex ey
  obtain rfl:u=Value.ref a:=rx
  obtain rfl:iv=Value.ref b:=ry
  exact dn_setItem hu I3 d nk rv hl fun φ s4 I4 d4=>⟨σ,_,I4,q3 φ d4⟩
theorem pe_nget1 (hu:X.A.units+10 < cLine) (ho:PE X o td) (he:PE X e ty) (m:M1 X o "get" apos e cpos):PE X (.Call (.Attribute o "get" apos) [e] [] cpos) (tNGet1 X.prog X.w td ty):=by
  intro pins s σ H Q I h
  refine wpAny_Call_method m.base m.few m.line PySem.F.plainAttrs_dict PySem.F.slot_dict_get PySem.F.type_dict_get (thn (ho pins s σ H _ I h) fun u s1 ⟨x,H1,I1,rx,a,ex,d,q1⟩ => ?_)
  subst ex
  obtain rfl:u=Value.ref a:=rx
  obtain ⟨t1,t2,_⟩:=isN_at I1 d
  refine ⟨t1,t2,?_⟩
  rw [m.trees]
  refine Calls.callWith_builtin rfl (Calls.evalArgs_plain (Calls.spliced_cons (thn (he pins s1 σ H1 _ I1 q1) fun iv s2 ⟨y,H2,I2,ry,b,kvs,k,ey,d2,nk,q2⟩=>Calls.spliced_nil ?_)))
  subst ey
  obtain rfl:iv=Value.ref b:=ry
  exact dn_get1 hu I2 d2 nk fun w' s3 I3 rw'=>⟨_,H2,I3,rw',q2⟩
inductive J_call_lenN (kP:Program) (kw:World) (xs:List V) (H:Hp) (Q:VK):Prop
  | mk:∀ p kvs,(xs = [.ref p])→(DN kP kw H p kvs)→(Q (.int kvs.length) H)→J_call_lenN kP kw xs H Q
theorem call_lenN:CallR X (.builtin "len") (fun xs H Q=>J_call_lenN X.prog X.w xs H Q):=by
  intro pins s σ H xs us Q I r h
  obtain ⟨p,kvs,rfl,d,q⟩:=h
  obtain ⟨u,rfl,ru⟩:=vals1 r
  cases ru
  exact dn_len I d fun t s' I'=>⟨.int kvs.length,H,I',⟨t,rfl⟩,q⟩
end
end L2
namespace L2
open PySem PySem.Spec PyProof.Rows

section
variable {X:Cx}
variable {o:Expr} {apos cpos:Pos} {td:TE}
end
noncomputable def DXo (P:Program) (w:World) (a:Addr) (o:Obj) (kvs:List (Key × V)):Prop:=kvs.length≤sizeLine∧(a == sysModules)=false∧∃ (vs:List (Key × Value)) (ep:Nat),KV kvs vs∧∀ h:Heap,h.get? a=some o→h.DictAt (mixKind P w) a vs ep
noncomputable def Ext (a:Addr) (o:Obj):HO := .ext fun h=>h.get? a=some o
theorem Inv.freeze {X:Cx} {pins:List (Addr × Obj)} {σ : St} {H:Hp} {s:Shared} {a:Addr} {kvs:List (Key × V)} (I:Inv X pins σ H s) (e:H a=some (.dK kvs)):∃ o,DXo X.prog X.w a o kvs∧Inv X pins σ (upd H a (Ext a o)) s:=by
  obtain ⟨z,hd,vs,rel,dd⟩:=dk_of I.hok e
  obtain ⟨o,es,ep,ho,r⟩:=dd
  refine ⟨o,⟨z,hd,vs,ep,rel,fun h hh=>⟨o,es,hh,r⟩⟩,?_⟩
  exact d_write (h':=s.heap) (t':=s.toks) I (by rw [e];exact True.intro) (Heap.SameBut.refl _ _) ⟨o,ho⟩ (ext_ok ho)
theorem dx_rd {P:Program} {w:World} {H:Hp} {h:Heap} {a:Addr} {o:Obj} (ok:HOk P w H h) (e:H a=some (Ext a o)):h.get? a=some o:=(show ObjOk P w H h a (.ext fun h=>h.get? a=some o) from ok a _ e).1
noncomputable def Itd (a:Addr) (o:Obj) (kvs:List (Key × V)):It :=
  ⟨fun i H=>i < kvs.length∧H a=some (Ext a o),fun i H x H'=>H'=H∧∃ kv,kvs[i]? = some kv∧x=kV kv.1,fun i H=>kvs.length≤i∧H a=some (Ext a o)⟩
theorem kV_of {P:Program} {w:World} {k:Key} {u:Value} (h:(mixKind P w).is k u=true):RelV (kV k) u:=by
  rcases keyIs_shape (show keyIs k u=true from h) with ⟨i,t,rfl,rfl⟩ | ⟨x,t,rfl,rfl⟩
  · exact ⟨t,rfl⟩
  · exact ⟨t,rfl⟩
theorem KV.at {kvs:List (Key × V)} {vs:List (Key × Value)} (r:KV kvs vs) {i:Nat} {k:Key} {u:Value} (e:vs[i]? = some (k,u)):∃ v,kvs[i]? = some (k,v):=by
  have h1:=r.keys
  have h2:(kvs.map (·.1))[i]? = some k:=by rw [h1,List.getElem?_map,e];rfl
  rw [List.getElem?_map] at h2
  cases e3:kvs[i]? with
  | none=>rw [e3] at h2;cases h2
  | some p=>rw [e3] at h2;obtain ⟨k',v⟩:=p;have:=Option.some.inj h2;subst this;exact ⟨v,rfl⟩
theorem turn_dict {P:Program} {w:World} {K:PySem.W.Frag} {tg:Expr} (a it:Addr) {o:Obj} {kvs:List (Key × V)} {vs:List (Key × Value)} {ep:Nat} (rel:KV kvs vs) (hx:∀ h:Heap,h.get? a=some o→h.DictAt (mixKind P w) a vs ep) :
    Turn P w K tg (Itd a o kvs) [it] it (fun i h=>h.IsKeyIter it a i vs.length ep) where
  mem:=by simp
  obj:=fun i h st b hb=>by
    have e:b=it:=by simpa using hb
    subst e
    obtain ⟨o,e,c,d⟩:=st
    exact ⟨o,e,fun v z=>by rw [d] at z;cases z⟩
  keep:=fun i h h' st k=>st.at fun o e=>k it (by simp) o e
  item:=by
    intro X hP hw hK hc i pins s σ H E I hf st hg
    subst hP hw hK
    obtain ⟨hi,ha⟩:=hg
    have hl:=rel.length
    obtain ⟨⟨k,u⟩,hv⟩:∃ p,vs[i]? = some p:=⟨vs[i]'(by omega),List.getElem?_eq_getElem (by omega)⟩
    obtain ⟨v,hkv⟩:=rel.at hv
    obtain ⟨f0,f1,f2,f3,f4,f5⟩:=hf it (by simp)
    refine wpAny_pyNext_dict_item st (hx _ (dx_rd I.hok ha)) hv fun key h' hkey st' sb => ?_
    have I1:Inv X pins σ H { s with heap:=h' }:=I.turned (t':=s.toks) (fun b o hb e=>(sb.2 b hb).trans e) f0 f1 f3 f4 f5
    obtain ⟨o,e,c,d⟩:=id st'
    exact ⟨key,rfl,go_of (s := { s with heap:=h' }) e c d (by decide) ⟨kV k,H,I1,kV_of hkey,⟨rfl,(k,v),hkv,rfl⟩,st',fun b hb=>(hf b hb).1⟩⟩
  done:=by
    intro X hP hw hK hc i pins s σ H E I hf st hg
    subst hP hw hK
    obtain ⟨hi,ha⟩:=hg
    have hl:=rel.length
    obtain ⟨f0,f1,f2,f3,f4,f5⟩:=hf it (by simp)
    exact wpAny_pyNext_dict_end (I.ok.hd hc) st (hx _ (dx_rd I.hok ha)) (List.getElem?_eq_none (by omega)) fun h' eb=>⟨rfl,I.turned (t':=s.toks) (fun b o hb e=>eb b o hb e) f0 f1 f3 f4 f5⟩
  self:=fun _ _ _ _ _ st h=>wpAny_pyIter_keyiter st h
noncomputable def iDict (P:Program) (w:World) (tl:TE):TI:=fun σ H R=>tl σ H fun x H1=>∃ a kvs,x = .ref a∧H1 a=some (.dK kvs)∧∀ o,DXo P w a o kvs→R (Itd a o kvs) (upd H1 a (Ext a o))
section
variable {X:Cx} {tg l:Expr} {tl:TE}
theorem pi_dict (hl:PE X l tl):PI X tg l (iDict X.prog X.w tl):=by
  intro pins s σ H R I h
  refine thn (hl pins s σ H _ I h) fun v s1 ⟨x,H0,I0,r1,q1⟩ => ?_
  obtain ⟨a,kvs,e,ea0,q⟩:=q1
  subst e
  cases r1
  obtain ⟨o,dx,I1⟩:=I0.freeze ea0
  have q:=q o dx
  have ea:(upd H0 a (Ext a o)) a=some (Ext a o):=upd_same
  generalize upd H0 a (Ext a o)=H1 at I1 q ea
  obtain ⟨z,hd,vs,ep,rel,hx⟩:=dx
  refine wpAny_pyIter_dict hd (hx _ (dx_rd I1.hok ea)) ?_
  refine ⟨s1.heap.objs.size, [s1.heap.objs.size],_,_,H1,rfl,I1.kept (t':=s1.toks) fun b o e=>Heap.get?_push_of_some _ e,turn_dict a _ rel hx,⟨_,Heap.get?_push_size _ rfl,rfl,rfl⟩,fun b hb => ?_,q⟩
  have e:b=s1.heap.objs.size:=by simpa using hb
  subst e
  exact I1.fpOk (Nat.le_refl _) (I1.hok.fresh (Nat.le_refl _))
end
theorem for_dict {a:Addr} {o:Obj} {kvs:List (Key × V)} {g:TG} {tb:TS} {D:Ends} {σ : St} {H:Hp} (Pv:Nat→St→Hp→Prop) (h0:Pv 0 σ H) (hl:∀ i σ H,i≤kvs.length→Pv i σ H→H a=some (Ext a o))
    (hs:∀ i (kv:Key × V) σ H,kvs[i]? = some kv→Pv i σ H→g (kV kv.1) σ H fun σ2 H2=>tb { D with nx:=Pv (i+1),ct:=Pv (i+1),bk:=D.nx } σ2 H2) (hd:∀ σ H,Pv kvs.length σ H→D.nx σ H) :
    ∃ W:Nat→Nat→St→Hp→Prop,(∃ m,W 0 m σ H)∧∀ i m σ H,W i m σ H →
      ((Itd a o kvs).stop i H∧D.nx σ H)∨((Itd a o kvs).go i H∧∃ N:St→Hp→Prop,(∀ σ' H',N σ' H'→∃ m',m' < m∧W (i+1) m' σ' H')∧∀ x H',(Itd a o kvs).yld i H x H'→g x σ H' fun σ2 H2=>tb { D with nx:=N,ct:=N,bk:=D.nx } σ2 H2):=by
  refine ⟨fun i m σ H=>m=kvs.length - i∧i≤kvs.length∧Pv i σ H,⟨kvs.length,by simp,Nat.zero_le _,h0⟩,?_⟩
  rintro i m σ H ⟨rfl,hi,hp⟩
  by_cases hlt:i < kvs.length
  · refine .inr ⟨⟨hlt,hl i σ H hi hp⟩,Pv (i+1),fun σ' H' h'=>⟨kvs.length - (i+1),by omega,rfl,hlt,h'⟩,?_⟩
    rintro x H' ⟨rfl,kv,hkv,rfl⟩
    exact hs i kv σ _ hkv hp
  · have e:i=kvs.length:=by omega
    subst e
    exact .inl ⟨⟨Nat.le_refl _,hl _ σ H hi hp⟩,hd σ H hp⟩
noncomputable def tXGet (P:Program) (w:World) (td ty:TE):TE:=fun σ H Q=>td σ H fun x H1=>ty σ H1 fun y H2=>∃ a o kvs k v,x = .ref a∧y=kV k∧H2 a=some (Ext a o)∧DXo P w a o kvs∧valV kvs k=some v∧Q v H2
theorem pe_xget {X:Cx} {o i:Expr} {pos:Pos} {td ty:TE} (ho:PE X o td) (hi:PE X i ty) (hs:NoSl i):PE X (.Subscript o i pos) (tXGet X.prog X.w td ty):=by
  intro pins s σ H Q I h
  refine subD_of PySem.F.slot_dict_getitem.lookup hs (thn (ho pins s σ H _ I h) fun u s1 ⟨x,H1,I1,rx,q1⟩=>thn (hi pins s1 σ H1 _ I1 q1) fun iv s2 ⟨y,H2,I2,ry,a,ob,kvs,k,v,ex,ey,ea,⟨z,hd,vs,ep,rel,hx⟩,l,q2⟩ => ?_)
  subst ex ey
  obtain rfl:u=Value.ref a:=rx
  have dd:=(hx _ (dx_rd I2.hok ea)).dictOf
  obtain ⟨w',hw,rw'⟩:=RelO.some_of (v:=v) (o:=valueAt vs k) (by rw [← l];exact rel.val k)
  exact ⟨dd.typeIs,wpAny_getItem_of (kV_is ry) dd.mapOf hw ⟨v,H2,I2.tok _,rw',q2⟩⟩
end L2
namespace L2
open PySem PySem.Spec PyProof.Rows

section
variable {X:Cx} {pins:List (Addr × Obj)} {σ : St} {H:Hp} {s:Shared} {a:Addr} {kvs:List (Key × V)} {k:Key} {v:V} {u r:Value} {A:Around} {E:Value→Shared→Prop}
end
section
variable {X:Cx} {o e f:Expr} {apos cpos:Pos} {td ty tx:TE}
end
end L2
namespace Sw
open PySem L2
end Sw
namespace PySem
section
variable {prog:Program} {w:World} {A:Around} {E:Value→Shared→Prop} {s:Shared}
end
section
variable {prog:Program} {w:World} {A:Around} {s:Shared} {R:Result→Shared→Prop} {I l:Addr} {items:Array Value}
end
section
variable {prog:Program} {w:World} {A:Around} {E:Value→Shared→Prop} {s:Shared} {I l:Addr} {items:Array Value}
end
end PySem
namespace L2
open PySem PySem.Spec PyProof.Rows
theorem passNo {X:Cx}:Passes (CXE X.prog X.w) X E0:=fun pins σ H s e s' I h=>by
  obtain ⟨_,_,_,_,_,_,_,_,_,_,_,_,_,_,q⟩:=h
  exact False.elim q
end L2
namespace L2
open PySem PySem.Spec PyProof.Rows
end L2
namespace L2
open PySem PySem.Spec PyProof.Rows
section
variable {X:Cx}
end
section
variable {P:Program} {w:World} {A:Around} {s:Shared}
open SeqAt MeetsSeq MeetsSeq2 MeetsSeq3 SeqRoads2
open AutoSeq1 (wpAny_loadPart')
theorem valV_mem {kvs:List (Key × V)} (hn:(kvs.map (·.1)).Nodup):∀ kv∈kvs,valV kvs kv.1=some kv.2:=by
  induction kvs with
  | nil=>intro kv h;cases h
  | cons p r ih =>
    intro kv h
    rw [List.map_cons,List.nodup_cons] at hn
    rcases List.mem_cons.mp h with rfl | h
    · exact valV_pos rfl
    · rw [valV_neg (fun e=>hn.1 (by rw [e];exact List.mem_map.mpr ⟨kv,h,rfl⟩))]
      exact ih hn.2 kv h
end
end L2
namespace L2
open PySem PySem.W PySem.Calls PyProof.Rows
end L2
namespace L2
open PySem PySem.Spec PyProof.Rows
section
variable {X:Cx} {k:Nat} {y:Str} {p pos:Pos} {e:Expr} {es:List Expr} {tv:TE} {t:TA}
end
end L2
namespace L2
open PySem PySem.Spec PyProof.Rows
section
variable {prog:Program} {w:World} {A:Around} {R:Result→Shared→Prop} {I:Addr} {fp wr:List Addr} {n:Nat} {P:Nat→Value→Prop} {St:Nat→Heap→Prop} {kw:List (Str × Value)} {G:Heap→Prop}
end
section
variable {X:Cx} {e:Expr} {te:TE} {p pos kp cp:Pos} {j:Nat}
end
end L2
namespace L2
open PySem PySem.Spec PyProof.Rows
section
variable {P:Program} {w:World} {K:PySem.W.Frag} {mg:Str→Option Value} {base:Heap} {x m qual:Str} {st:Stmt} {N ps:List Str} {k:Nat} {sp:Sp}
end
section
variable {X:Cx} {k k':Nat} {x m:Str} {ps:List Str} {sp:Sp} {p pos apos:Pos} {e:Expr} {es:List Expr} {t:TA} {E:XK}
end
end L2
namespace L2
open PySem PySem.Spec PyProof.Rows
end L2
namespace L2
open PySem PySem.Spec PyProof.Rows
section
variable {prog:Program} {w:World} {A:Around} {R:Result→Shared→Prop} {I:Addr} {fp wr:List Addr} {n:Nat} {P:Nat→Value→Prop} {St:Nat→Heap→Prop} {kw:List (Str × Value)} {G:Heap→Prop}
end
section
variable {X:Cx} {e:Expr} {te:TE} {p pos kp cp:Pos} {j:Nat} {d:Int}
end

end L2
namespace HT
open PySem PySem.Spec PyProof.Rows
section
variable {prog:Program} {w:World} {A:Around} {E:Value→Shared→Prop} {s:Shared}
end
end HT
namespace L2
open PySem PySem.Spec PyProof.Rows
section
variable {X:Cx}
theorem pg_two {K:PySem.W.Frag} {x y:Str} {p1 p2 pos:Pos} {k:Nat} (hK:X.K=K) (hc:X.calm=true) (hN:X.N.Nodup) (h0:X.N[0]? = some x) (h1:X.N[1]? = some y) (hx:X.env.scope.names.lookup x=some .local) (hy:X.env.scope.names.lookup y=some .local) :
    PG X (.Tuple [.Name x p1,.Name y p2] k pos) (gTup K 2 (gCons (gName 0) (gCons (gName 1) gNil))):=by
  subst hK
  exact pg_tup hc (pgs_cons (pg_name hN h0 (.inl hx) (.inr hx)) (pgs_cons (pg_name hN h1 (.inl hy) (.inr hy)) pgs_nil))
end
end L2
namespace L2
open PySem PySem.Spec PyProof.Rows
section
variable {X:Cx}
end
end L2
namespace Sw
open PySem L2

theorem slice_cps (x:Str) (lo hi:Option Int):(Txt.slice x lo hi).cps.toList=(x.cps.toList.drop (HT.sIx x.length 0 lo)).take (HT.sIx x.length x.length hi - HT.sIx x.length 0 lo):=by
  have hx:x.cps.toList.length=x.length:=by simp [Str.length]
  obtain ⟨h1,h2,h3⟩:=slice_bounds lo hi x.length
  have ha:HT.sIx x.length 0 lo≤x.length:=HT.sIx_le _ _ (Nat.zero_le _) _
  have hb:HT.sIx x.length x.length hi≤x.length:=HT.sIx_le _ _ (Nat.le_refl _) _
  have e:Builtin.Str.strSliceIndices lo hi 1 x.length=sliceRange ((HT.sIx x.length 0 lo:Nat):Int) ((HT.sIx x.length x.length hi:Nat):Int) 1:=by
    rw [← h1, ← h2]
    unfold Builtin.Str.strSliceIndices sliceBounds
    rfl
  have e2:((sliceRange ((HT.sIx x.length 0 lo:Nat):Int) ((HT.sIx x.length x.length hi:Nat):Int) 1).filterMap (x.cps[·]?))=(x.cps.toList.drop (HT.sIx x.length 0 lo)).take (HT.sIx x.length x.length hi - HT.sIx x.length 0 lo):=by
    rw [sliceRange_one,pick_run]
  unfold Txt.slice
  rw [e]
  split
  · rename_i hc
    have hl:(sliceRange ((HT.sIx x.length 0 lo:Nat):Int) ((HT.sIx x.length x.length hi:Nat):Int) 1).length=x.length:=by simpa using hc
    rw [sliceRange_one,List.length_map,List.length_range] at hl
    have ea:HT.sIx x.length 0 lo=0∨x.length=0:=by omega
    rcases ea with ea | ea
    · rw [ea,Nat.sub_zero] at hl ⊢
      rw [List.drop_zero,hl, ← hx,List.take_length]
    · have:x.cps.toList = []:=List.length_eq_zero_iff.mp (hx.trans ea)
      rw [this];simp
  · show (_:List Nat).toArray.toList=_
    rw [e2]



end Sw
namespace L2
open PySem PySem.Spec PyProof.Rows
section
variable {X:Cx}
end
end L2
namespace L2
open PySem PySem.Spec PyProof.Rows

section
variable {prog:Program} {w:World} {A:Around} {E:Value→Shared→Prop} {s:Shared}
end
section
variable {M:Model} {A:Around} {E:Value→Shared→Prop} {qn nm:Str} {N C:Addr} {bm bs:List Value} {hdct ab:Bool} {sn:List Str} {sub:List Value} {col:Option Bool} {dd:Option Addr} {k0 k1 k2 k3 k5:Option Value} {newId:String}
end
section
variable {prog:Program} {w:World} {A:Around} {E:Value→Shared→Prop} {s:Shared} {env:Env} {qn nm:Str} {N C:Addr} {bm bs:List Value} {hdct ab:Bool} {sn:List Str} {sub:List Value} {col:Option Bool} {dd:Option Addr} {k0 k1 k2 k3 k5:Option Value} {newId:String}
end
section
variable {prog:Program} {w:World} {A:Around} {E:Value→Shared→Prop} {s:Shared} {env:Env} {qn nm:Str} {N C:Addr} {bm bs bmB:List Value} {hdct ab:Bool} {sn:List Str} {sub:List Value} {col:Option Bool} {dd:Option Addr} {k0 k1 k2 k3 k5:Option Value} {B newId initId:String}
end
section
variable {M:Model} {A:Around} {E:Value→Shared→Prop} {s:Shared}
end
end L2
namespace L2
open PySem PySem.Spec PyProof.Rows

section
variable {P:Program} {w:World} {K:PySem.W.Frag} {mg:Str→Option Value} {base:Heap} {N:List Str} {qual:Str} {scope:Scope} {f:Addr} {cdv:Value} {A:Around} {outer:List Env} {s0:Shared} {H0:Hp} {E:XK} {ea C:Addr}
end
section
variable {X:Cx} {pins:List (Addr × Obj)} {σ : St} {H0 H':Hp} {s0 s':Shared} {ea C:Addr} {a0:Value} {B h5:Heap}
end
section
variable {X:Cx} {k k':Nat} {m:Str} {C:Addr} {ps:List Str} {dvs:List V} {sp:Sp} {pos apos:Pos} {e o:Expr} {es:List Expr} {ta:TE} {t:TA} {pl:Sem Bool}
end
end L2
namespace L2
open PySem PySem.Spec PyProof.Rows

section
variable {prog:Program} {w:World} {K:Type} [DecidableEq K] {knd:HeapKind prog w K} {A:Around} {E:Value→Shared→Prop} {s:Shared} {d a:Addr} {k:K} {xs:List (K × Addr × Value)}
end
section
variable {prog:Program} {w:World} {K:Type} [DecidableEq K] (knd:HeapKind prog w K) (d a:Addr)
end
section
variable {X:Cx} {pins:List (Addr × Obj)} {σ : St} {H:Hp} {s:Shared} {a b:Addr} {kvs:List (NK × V)} {k:NK} {v:V} {A:Around} {E:Value→Shared→Prop}
end
section
variable {X:Cx} {o e:Expr} {apos cpos:Pos} {td ty:TE}
end
end L2
namespace L2
open PySem PySem.Spec PyProof.Rows
theorem KV.val_at {kvs:List (Key × V)} {vs:List (Key × Value)} (r:KV kvs vs):∀ {i:Nat} {k:Key} {u:Value},vs[i]? = some (k,u)→∃ kv,kvs[i]? = some kv∧RelV kv.2 u:=by
  unfold KV at r
  induction r with
  | nil=>intro i k u h;simp at h
  | @cons p q ps qs h t ih =>
    intro i k u e
    cases i with
    | zero=>simp at e;subst e;exact ⟨p,rfl,h.2⟩
    | succ i=>simpa using ih (by simpa using e)
end L2
namespace L2
open PySem PySem.Spec PyProof.Rows
section
variable {prog:Program} {w:World} {A:Around} {E:Value→Shared→Prop} {s:Shared}
theorem stop_it {α : Type} {Q : α → Shared→Prop} (hh:A.handled=none) (hE:∀ h' e,(∀ c o,s.heap.get? c=some o→h'.get? c=some o)→(∃ o,h'.get? e=some o∧o.cls = .type "StopIteration")→E (.ref e) { s with heap:=h' }) :
    wpAny (model prog w) A (Builtin.SmallTypes.stopIteration:Sem α) Q E s:=by
  show wpAny _ _ (newExc (.type "StopIteration") [] >>= _) _ _ _
  simp only [newExc,newTuple]
  refine wpAny_bind ?_
  wp_walk
  simp only [raiseNew]
  refine wpAny_bind (wpAny_handled ?_)
  rw [hh]
  refine wpAny_bind (wpAny_pure (wpAny_throw ?_))
  exact hE _ _ (fun c o e=>Heap.get?_push_of_some _ (Heap.get?_push_of_some _ e)) ⟨_,Heap.get?_push_size _ rfl,rfl⟩
theorem nextT_item {it t:Addr} {i:Nat} {items:Array Value} {x:Value} {Q:Value→Shared→Prop} (hit:s.heap.IsTupleIter it t i) (ht:s.heap.IsTuple t items) (hx:items[i]? = some x)
    (hQ:∀ h',h'.IsTupleIter it t (i+1)→Heap.SameBut it s.heap h'→Q x { s with heap:=h' }):wpAny (model prog w) A (Builtin.SmallTypes.nextOf (.ref it)) Q E s:=by
  obtain ⟨o,ho,hc,hd⟩:=id hit
  obtain ⟨ol,hol,_,nl,hdl⟩:=ht
  unfold Builtin.SmallTypes.nextOf
  refine wpAny_bind (wpAny_callSpecial?_slot (name:=Str.ofString "__next__") hit.typeIs F.slot_tuple_iterator_next (wpAny_call_entry F.slot_tuple_iterator_next hit.typeIs F.entry_tuple_iterator_next ?_ (F.args_tuple_iterator_next_1 _)))
  wp_walk using wpAny_field ho hd (x := .ref t) rfl,wpAny_field ho hd (x := .int i 0) rfl,wpAny_seqItems hol hdl
  rw [Int.toNat_natCast,hx]
  refine wpAny_bind (wpAny_setField ho hd (by simp) (wpAny_pure ⟨x,rfl,wpAny_pure (hQ _ ?_ (Heap.SameBut.update ..))⟩))
  exact ⟨_,Heap.get?_update_self _ ho (Obj.isFreed_of_fields (Obj.data_mapFields hd _)),(Obj.cls_mapFields ..).trans hc,by rw [Obj.data_mapFields hd];simp [rawInt]⟩
theorem nextT_end {it t:Addr} {i:Nat} {items:Array Value} {Q:Value→Shared→Prop} (hh:A.handled=none) (hit:s.heap.IsTupleIter it t i) (ht:s.heap.IsTuple t items) (hx:items[i]? = none)
    (hE:∀ h' e,Heap.ExtBut it s.heap h'→(∃ o,h'.get? e=some o∧o.cls = .type "StopIteration")→E (.ref e) { s with heap:=h' }):wpAny (model prog w) A (Builtin.SmallTypes.nextOf (.ref it)) Q E s:=by
  obtain ⟨o,ho,hc,hd⟩:=id hit
  obtain ⟨ol,hol,_,nl,hdl⟩:=ht
  unfold Builtin.SmallTypes.nextOf
  refine wpAny_bind (wpAny_callSpecial?_slot (name:=Str.ofString "__next__") hit.typeIs F.slot_tuple_iterator_next (wpAny_call_entry F.slot_tuple_iterator_next hit.typeIs F.entry_tuple_iterator_next ?_ (F.args_tuple_iterator_next_1 _)))
  wp_walk using wpAny_field ho hd (x := .ref t) rfl,wpAny_field ho hd (x := .int i 0) rfl,wpAny_seqItems hol hdl
  rw [Int.toNat_natCast,hx]
  refine wpAny_bind (wpAny_rule (wpAny_bind (wpAny_setField ho hd (by simp) ?_)))
  exact stop_it hh fun h' e hk he=>hE h' e (fun c o n q=>hk c o ((Heap.SameBut.update ..).extBut c o n q)) he
structure ZT (z TI TO i1 i2 t1 t2:Addr) (f0:Value) (k:Nat) (h:Heap):Prop where
  hz:IsZip h z TI TO f0
  hTI:IsPair h TI (.ref i1) (.ref i2)
  hTO:∃ a b,IsPair h TO a b
  h1:h.IsTupleIter i1 t1 k
  h2:h.IsTupleIter i2 t2 k
structure ZLeft (z TO i1 i2:Addr) (h h':Heap):Prop where
  but:∀ c o,c≠z→c≠TO→c≠i1→c≠i2→h.get? c=some o→h'.get? c=some o
theorem tI_but {it t c:Addr} {k:Nat} {h h':Heap} (x:h.IsTupleIter it t k) (e:Heap.ExtBut c h h') (n:it≠c):h'.IsTupleIter it t k:=let ⟨o,a,b,d⟩:=x; ⟨o,e it o n a,b,d⟩
theorem tT_but {t c:Addr} {xs:Array Value} {h h':Heap} (x:h.IsTuple t xs) (e:Heap.ExtBut c h h') (n:t≠c):h'.IsTuple t xs:=let ⟨o,a,b,m,d⟩:=x; ⟨o,e t o n a,b,m,d⟩
theorem zipT_item {z TI TO i1 i2 t1 t2:Addr} {k:Nat} {xs ys:Array Value} {x y:Value} {Q:Value→Shared→Prop} (D:ZipApart z TI TO i1 i2 t1 t2) (Z:ZT z TI TO i1 i2 t1 t2 .none k s.heap)
    (l1:s.heap.IsTuple t1 xs) (l2:s.heap.IsTuple t2 ys) (hx:xs[k]? = some x) (hy:ys[k]? = some y)
    (hQ:∀ h',ZT z TI TO i1 i2 t1 t2 (rawInt s.heap.objs.size) (k+1) h'→IsPair h' s.heap.objs.size x y→ZLeft z TO i1 i2 s.heap h'→Q (.ref s.heap.objs.size) { s with heap:=h' }) :
    wpAny (model prog w) A (Builtin.«zip.__next__» ⟨[.ref z], []⟩) (fun fin s'=>∃ v,fin = .done (.ret v)∧Q v s') E s:=by
  obtain ⟨hz,hTI,⟨a,b,hTO⟩,h1,h2⟩:=Z
  refine (show wpAny _ _ (field (.ref z) 2 >>= _) _ _ _ from wpAny_bind (wpAny_field hz rfl (x := .bool false) rfl (show wpAny _ _ (field (.ref z) 3 >>= _) _ _ _ from wpAny_bind (wpAny_field hz rfl (x := .ref TI) rfl (wpAny_bind (wpAny_seqItems hTI rfl ?_))))))
  refine (show wpAny _ _ (Builtin.SmallTypes.ownedTupleIsFree (.ref z) >>= _) _ _ _ from wpAny_bind ?_)
  unfold Builtin.SmallTypes.ownedTupleIsFree
  refine wpAny_bind (wpAny_field hz rfl (x := .none) rfl (wpAny_pure ?_));simp only [if_true]
  refine wpAny_bind (wpAny_rule (wpAny_bind (wpAny_field hz rfl (x := .ref TO) rfl (wpAny_bind (wpAny_setField_rec hz (by simp) fun g1 z1 s1 => ?_)))))
  have z1:IsZip g1 z TI TO .ellipsis:=z1
  refine wpAny_bind ?_
  simp only [List.zipIdx_nil,List.zipIdx_cons,List.forIn_nil,List.forIn_cons];refine wpAny_bind (wpAny_bind (wpAny_onRaise ?_))
  refine (show wpAny _ _ (Builtin.SmallTypes.nextOf (.ref i1) >>= _) _ _ _ from wpAny_bind (nextT_item (tI_but h1 s1.extBut D.i1z) (tT_but l1 s1.extBut D.l1z) hx fun g2 n1 s2=>wpAny_pure ?_))
  have o2:IsPair g2 TO a b:=s2.extBut _ _ D.TOi1 (s1.extBut _ _ D.TOz hTO)
  refine wpAny_bind (wpAny_seqItems o2 rfl (wpAny_bind (wpAny_updateSeq_pair o2 fun g3 o3 s3=>wpAny_bind (wpAny_letGo (wpAny_pure (wpAny_bind (wpAny_bind (wpAny_onRaise ?_))))))))
  have o3:IsPair g3 TO x b:=o3
  refine (show wpAny _ _ (Builtin.SmallTypes.nextOf (.ref i2) >>= _) _ _ _ from wpAny_bind (nextT_item (tI_but (tI_but (tI_but h2 s1.extBut D.i2z) s2.extBut D.i12.symm) s3.extBut D.TOi2.symm)
    (tT_but (tT_but (tT_but l2 s1.extBut D.l2z) s2.extBut D.l2i1) s3.extBut D.l2TO) hy fun g4 n2 s4=>wpAny_pure ?_))
  have o4:IsPair g4 TO x b:=s4.extBut _ _ D.TOi2 o3
  refine wpAny_bind (wpAny_seqItems o4 rfl (wpAny_bind (wpAny_updateSeq_pair o4 fun g5 o5 s5=>wpAny_bind (wpAny_letGo (wpAny_pure (wpAny_pure (wpAny_bind (wpAny_seqItems (show IsPair g5 TO x y from o5) rfl (wpAny_bind (wpAny_newTuple ?_)))))))))) 
  have o5:IsPair g5 TO x y:=o5
  have sz:g5.objs.size=s.heap.objs.size:=by rw [s5.1,s4.1,s3.1,s2.1,s1.1]
  have z5:IsZip g5 z TI TO .ellipsis:=s5.extBut _ _ D.TOz.symm (s4.extBut _ _ D.i2z.symm (s3.extBut _ _ D.TOz.symm (s2.extBut _ _ D.i1z.symm z1)))
  have k5:∀ c o,c≠z→c≠TO→c≠i1→c≠i2→s.heap.get? c=some o→g5.get? c=some o:=fun c o c1 c2 c3 c4 e=>s5.extBut _ _ c2 (s4.extBut _ _ c4 (s3.extBut _ _ c2 (s2.extBut _ _ c3 (s1.extBut _ _ c1 e))))
  have n15:g5.IsTupleIter i1 t1 (k+1):=tI_but (tI_but (tI_but n1 s3.extBut D.TOi1.symm) s4.extBut D.i12) s5.extBut D.TOi1.symm
  have n25:g5.IsTupleIter i2 t2 (k+1):=tI_but n2 s5.extBut D.TOi2.symm
  have zlt:z < g5.objs.size:=Heap.lt_size z5
  refine (show wpAny _ _ (Builtin.SmallTypes.ownedTupleHandOut (.ref z) (.ref g5.objs.size) >>= _) _ _ _ from wpAny_bind ?_)
  unfold Builtin.SmallTypes.ownedTupleHandOut
  refine wpAny_bind (wpAny_setField_rec (show IsZip (g5.push { cls := .type "tuple",data := .seq #[x,y] }) z TI TO .ellipsis from Heap.get?_push_of_some _ z5) (by simp) fun g7 z7 s7 => ?_)
  refine wpAny_setField_rec (show IsZip g7 z TI TO (rawInt g5.objs.size) from z7) (by simp) fun g8 z8 s8 => ?_
  have z8:IsZip g8 z TI TO (rawInt g5.objs.size):=z8
  have up:∀ c o,c≠z→g5.get? c=some o→g8.get? c=some o:=fun c o c1 e=>s8.extBut _ _ c1 (s7.extBut _ _ c1 (Heap.get?_push_of_some _ e))
  have t8:IsPair g8 g5.objs.size x y:=s8.extBut _ _ (Nat.ne_of_gt zlt) (s7.extBut _ _ (Nat.ne_of_gt zlt) (Heap.get?_push_size _ rfl))
  have i8:IsPair g8 TI (.ref i1) (.ref i2):=up _ _ D.TIz (k5 _ _ D.TIz D.TITO D.TIi1 D.TIi2 hTI)
  refine wpAny_pure ⟨_,rfl,?_⟩
  rw [sz] at z8 t8
  show Q (.ref g5.objs.size) _
  rw [sz]
  refine hQ g8 ⟨z8,i8,⟨_,_,up _ _ D.TOz o5⟩,?_,?_⟩ t8 ⟨fun c o c1 c2 c3 c4 e=>up c o c1 (k5 c o c1 c2 c3 c4 e)⟩
  · exact let ⟨o,q,r⟩:=n15; ⟨o,up _ o D.i1z q,r⟩
  · exact let ⟨o,q,r⟩:=n25; ⟨o,up _ o D.i2z q,r⟩
theorem zipT_end {z TI TO i1 i2 t1 t2:Addr} {k:Nat} {xs:Array Value} {Q:Fin→Shared→Prop} (hh:A.handled=none) (D:ZipApart z TI TO i1 i2 t1 t2) (Z:ZT z TI TO i1 i2 t1 t2 .none k s.heap)
    (l1:s.heap.IsTuple t1 xs) (hx:xs[k]? = none) (hE:∀ h' e,ZLeft z TO i1 i2 s.heap h'→(∃ o,h'.get? e=some o∧o.cls = .type "StopIteration")→E (.ref e) { s with heap:=h' }) :
    wpAny (model prog w) A (Builtin.«zip.__next__» ⟨[.ref z], []⟩) Q E s:=by
  obtain ⟨hz,hTI,⟨a,b,hTO⟩,h1,h2⟩:=Z
  refine (show wpAny _ _ (field (.ref z) 2 >>= _) _ _ _ from wpAny_bind (wpAny_field hz rfl (x := .bool false) rfl (show wpAny _ _ (field (.ref z) 3 >>= _) _ _ _ from wpAny_bind (wpAny_field hz rfl (x := .ref TI) rfl (wpAny_bind (wpAny_seqItems hTI rfl ?_))))))
  refine (show wpAny _ _ (Builtin.SmallTypes.ownedTupleIsFree (.ref z) >>= _) _ _ _ from wpAny_bind ?_)
  unfold Builtin.SmallTypes.ownedTupleIsFree
  refine wpAny_bind (wpAny_field hz rfl (x := .none) rfl (wpAny_pure ?_));simp only [if_true]
  refine wpAny_bind (wpAny_rule (wpAny_bind (wpAny_field hz rfl (x := .ref TO) rfl (wpAny_bind (wpAny_setField_rec hz (by simp) fun g1 z1 s1 => ?_)))))
  have z1:IsZip g1 z TI TO .ellipsis:=z1
  refine wpAny_bind ?_
  simp only [List.zipIdx_nil,List.zipIdx_cons,List.forIn_nil,List.forIn_cons];refine wpAny_bind (wpAny_bind (wpAny_onRaise ?_))
  refine (show wpAny _ _ (Builtin.SmallTypes.nextOf (.ref i1) >>= _) _ _ _ from wpAny_bind (nextT_end hh (tI_but h1 s1.extBut D.i1z) (tT_but l1 s1.extBut D.l1z) hx fun g2 e s2 he => ?_))
  obtain ⟨oe,hoe,hce⟩:=he
  have z2:IsZip g2 z TI TO .ellipsis:=s2 _ _ D.i1z.symm z1
  have ne:e≠z:=fun q=>by subst q;rw [z2] at hoe;cases hoe;exact absurd (Value.type.inj hce) (by decide)
  exact wpAny_setField_rec z2 (by simp) fun g3 _ s3=>hE g3 e ⟨fun c o c1 _ c3 _ q=>s3.extBut _ _ c1 (s2 _ _ c3 (s1.extBut _ _ c1 q))⟩ ⟨oe,s3.extBut _ _ ne hoe,hce⟩
theorem zipT_next {z TI TO i1 i2 t1 t2:Addr} {k:Nat} {xs ys:Array Value} {x y:Value} {Q:Option Value→Shared→Prop} (D:ZipApart z TI TO i1 i2 t1 t2) (Z:ZT z TI TO i1 i2 t1 t2 .none k s.heap)
    (l1:s.heap.IsTuple t1 xs) (l2:s.heap.IsTuple t2 ys) (hx:xs[k]? = some x) (hy:ys[k]? = some y)
    (hQ:∀ h',ZT z TI TO i1 i2 t1 t2 (rawInt s.heap.objs.size) (k+1) h'→IsPair h' s.heap.objs.size x y→ZLeft z TO i1 i2 s.heap h'→Q (some (.ref s.heap.objs.size)) { s with heap:=h' }) :
    wpAny (model prog w) A (pyNext (.ref z)) Q E s:=by
  have ty:s.TypeIs (.ref z) "zip" := ⟨_,Z.hz,rfl⟩
  unfold pyNext
  exact wpAny_bind (wpAny_attempt (wpAny_callSpecial?_slot (name:=Str.ofString "__next__") ty F.slot_zip_next (wpAny_call_entry F.slot_zip_next ty F.entry_zip_next (zipT_item D Z l1 l2 hx hy fun h' a b c=>wpAny_pure (hQ h' a b c)) (F.args_zip_next_1 _))))
theorem zipT_done {z TI TO i1 i2 t1 t2:Addr} {k:Nat} {xs:Array Value} {Q:Option Value→Shared→Prop} (hh:A.handled=none) (D:ZipApart z TI TO i1 i2 t1 t2) (Z:ZT z TI TO i1 i2 t1 t2 .none k s.heap)
    (l1:s.heap.IsTuple t1 xs) (hx:xs[k]? = none) (hQ:∀ h',ZLeft z TO i1 i2 s.heap h'→Q none { s with heap:=h' }):wpAny (model prog w) A (pyNext (.ref z)) Q E s:=by
  have ty:s.TypeIs (.ref z) "zip" := ⟨_,Z.hz,rfl⟩
  unfold pyNext
  refine wpAny_bind (wpAny_attempt (wpAny_callSpecial?_slot (name:=Str.ofString "__next__") ty F.slot_zip_next (wpAny_call_entry F.slot_zip_next ty F.entry_zip_next (zipT_end hh D Z l1 hx fun h' e hk he => ?_) (F.args_zip_next_1 _))))
  exact let ⟨o,ho,hc⟩:=he;wpAny_bind (wpAny_isInstance (T := "StopIteration") (b:=true) ⟨o,ho,hc⟩ isSubtype_stop (wpAny_pure (hQ _ hk)))
end
noncomputable abbrev zT1 (h:Heap) (a:Addr):Heap:=h.push { cls := .type "tuple_iterator",data := .fields #[.ref a,.int 0 0] }
noncomputable abbrev zT2 (h:Heap) (a b:Addr):Heap:=zT1 (zT1 h a) b
noncomputable abbrev zT3 (h:Heap) (a b:Addr):Heap:=(zT2 h a b).push { cls := .type "tuple",data := .seq #[.ref h.objs.size,.ref (zT1 h a).objs.size] }
noncomputable abbrev zT4 (h:Heap) (a b:Addr):Heap:=(zT3 h a b).push { cls := .type "tuple",data := .seq #[.none,.none] }
noncomputable abbrev zT5 (h:Heap) (a b:Addr):Heap:=(zT4 h a b).push { cls := .type "zip",data := .fields #[.none,.bool false,.bool false,.ref (zT2 h a b).objs.size,.ref (zT3 h a b).objs.size] }
theorem zipT_meets (a b:Addr) (xs ys:Array Value):Meets (Builtin.«zip.__new__» ⟨[.type "zip",.ref a,.ref b], []⟩) (fun _ R s=>s.heap.IsTuple a xs∧s.heap.IsTuple b ys ∧
      R (.ok (.ret (.ref (zT4 s.heap a b).objs.size))) { s with heap:=zT5 s.heap a b }) :=
  .of_wp fun prog w A R s h=>by
    obtain ⟨hp,g,d,tk,os⟩:=s;obtain ⟨ha,hb,h⟩:=h
    have sub:=sub_zip
    have A1:Heap.IsTuple (Shared.heap ⟨hp,g,d,tk,os⟩) a xs:=ha
    have B1:Heap.IsTuple (Shared.heap ⟨zT1 hp a,g,d,tk,os⟩) b ys:=let ⟨o,e,r⟩:=hb; ⟨o,Heap.get?_push_of_some _ e,r⟩
    wp_walk using wpAny_pyIter_tuple A1,wpAny_pyIter_tuple B1
    exact ⟨_,rfl,h⟩
end L2
namespace L2
open PySem PySem.Spec PyProof.Rows
section
variable {prog:Program} {w:World} {A:Around} {E:Value→Shared→Prop} {s:Shared}
theorem zipT_call {a b:Addr} {xs ys:Array Value} {Q:Value→Shared→Prop} (ha:s.heap.IsTuple a xs) (hb:s.heap.IsTuple b ys)
    (h:∀ h',ZT (s.heap.objs.size+4) (s.heap.objs.size+2) (s.heap.objs.size+3) s.heap.objs.size (s.heap.objs.size+1) a b .none 0 h'→(∀ c o,s.heap.get? c=some o→h'.get? c=some o)→Q (.ref (s.heap.objs.size+4)) { s with heap:=h' }) :
    wpAny (model prog w) A (call (.type "zip") [.ref a,.ref b]) Q E s:=by
  refine callType_new F.called_zip (by decide) (F.typeCall_zip_2 _ _) (F.newCall_zip_2 _ _) (fun obj=>F.args_object_init_3 obj _ _) F.entry_zip_new (zipT_meets a b xs ys) ⟨ha,hb,?_⟩
  have e1:(zT1 s.heap a).objs.size=s.heap.objs.size+1:=Heap.size_push ..
  have e2:(zT2 s.heap a b).objs.size=s.heap.objs.size+2:=by rw [Heap.size_push,e1]
  have e3:(zT3 s.heap a b).objs.size=s.heap.objs.size+3:=by rw [Heap.size_push,e2]
  have e4:(zT4 s.heap a b).objs.size=s.heap.objs.size+4:=by rw [Heap.size_push,e3]
  have up {h:Heap} {c:Addr} {o p:Obj} (x:h.get? c=some o):(h.push p).get? c=some o:=Heap.get?_push_of_some _ x
  have q5:(zT5 s.heap a b).get? (zT4 s.heap a b).objs.size=some _:=Heap.get?_push_size _ rfl
  have q4:(zT5 s.heap a b).get? (zT3 s.heap a b).objs.size=some _:=up (Heap.get?_push_size _ rfl)
  have q3:(zT5 s.heap a b).get? (zT2 s.heap a b).objs.size=some _:=up (up (Heap.get?_push_size _ rfl))
  have q2:(zT5 s.heap a b).get? (zT1 s.heap a).objs.size=some _:=up (up (up (Heap.get?_push_size _ rfl)))
  have q1:(zT5 s.heap a b).get? s.heap.objs.size=some _:=up (up (up (up (Heap.get?_push_size _ rfl))))
  show _∧_
  rw [e2,e3,e4] at q5
  rw [e1,e2] at q3
  rw [e3] at q4
  rw [e1] at q2
  rw [e4]
  exact ⟨⟨_,q5,rfl⟩,h _ ⟨q5,q3,⟨_,_,q4⟩,⟨_,q1,rfl,rfl⟩,⟨_,q2,rfl,rfl⟩⟩ fun c o x=>up (up (up (up (up x))))⟩
end
section
variable {X:Cx} {pins:List (Addr × Obj)} {σ : St} {H:Hp} {s:Shared} {h':Heap}
theorem Inv.turnedM {ch:List Addr} {t':Nat} (I:Inv X pins σ H s) (k:∀ b o,b ∉ ch→s.heap.get? b=some o→h'.get? b=some o) (hf:∀ b∈ch,FpOk X pins H b):Inv X pins σ H { s with heap:=h',toks:=t' }:=by
  have nit:∀ b u,H b=some u→b ∉ ch:=fun b u e z=>by rw [(hf b z).1] at e;cases e
  refine I.step (g':=s.gens) (d':=s.drawn) (ch:=ch) (fun b hb => ?_) (fun b o _ _ hc e _=>k b o hc e) (fun b o _ _ hc e _=>⟨o.slots,k b o hc e⟩) (fun _ _ _ _ n=>n)
    (fun b o hc e=>⟨o,k b o hc e⟩) (fun _ _ e=>e) (fun _ _ _ e=>e) (fun b ps e=>⟨#[],by rw [e];simp⟩) (fun m hm => ?_) (fun b u e => ?_) I.bare
  · obtain ⟨_,f1,_,f3,f4,f5⟩:=hf b hb
    exact ⟨f3,f1,f4,f5⟩
  · obtain ⟨o,es,ep,ho,r⟩:=hm
    exact ⟨o,es,ep,k _ o (fun z=>(hf _ z).2.1 rfl) ho,r⟩
  · refine (I.hok b u e).stay (fun c v hc q=>k c v ?_ q) (fun _ q=>q) fun _ _ q=>q
    rcases hc with z | z
    · rw [z];exact nit b u e
    · exact nit c _ z
end
noncomputable def Itz (K:PySem.W.Frag) (a b:Addr):It :=
  ⟨fun i H=>∃ xs ys x y,SqT K H a xs∧SqT K H b ys∧xs[i]? = some x∧ys[i]? = some y,
   fun i H r H'=>∃ p u v,H p=none∧r = .ref p∧(∀ xs,SqT K H a xs→xs[i]? = some u)∧(∀ ys,SqT K H b ys→ys[i]? = some v)∧H'=upd H p (.tup [u,v]),
   fun i H=>∃ xs,SqT K H a xs∧xs.length=i⟩
theorem turn_zipT {P:Program} {w:World} {K:PySem.W.Frag} {elts:List Expr} {k:Nat} {tp:Pos} (a b z TI TO i1 i2:Addr) (D:ZipApart z TI TO i1 i2 a b) :
    Turn P w K (.Tuple elts k tp) (Itz K a b) [z,TI,TO,i1,i2] z (ZT z TI TO i1 i2 a b .none) where
  mem:=by simp
  obj:=fun i h st c hc=>by
    obtain ⟨hz,hTI,⟨x,y,hTO⟩,⟨o1,q1,_,d1⟩,⟨o2,q2,_,d2⟩⟩:=st
    simp only [List.mem_cons,List.not_mem_nil,or_false] at hc
    rcases hc with rfl | rfl | rfl | rfl | rfl
    · exact ⟨_,hz,fun v e=>nomatch (show Data.fields _=Data.cell v from e)⟩
    · exact ⟨_,hTI,fun v e=>nomatch (show Data.seq _ _=Data.cell v from e)⟩
    · exact ⟨_,hTO,fun v e=>nomatch (show Data.seq _ _=Data.cell v from e)⟩
    · exact ⟨o1,q1,fun v e=>by rw [d1] at e;cases e⟩
    · exact ⟨o2,q2,fun v e=>by rw [d2] at e;cases e⟩
  keep:=fun i h h' st k=>by
    obtain ⟨hz,hTI,⟨x,y,hTO⟩,⟨o1,q1,r1⟩,⟨o2,q2,r2⟩⟩:=st
    exact ⟨k z (by simp) _ hz,k TI (by simp) _ hTI,⟨x,y,k TO (by simp) _ hTO⟩,⟨o1,k i1 (by simp) _ q1,r1⟩,⟨o2,k i2 (by simp) _ q2,r2⟩⟩
  item:=by
    intro X hP hw hK hc i pins s σ H E I hf st hg
    subst hP hw hK
    obtain ⟨xs,ys,x,y,hq,hr,hx,hy⟩:=hg
    obtain ⟨its,rv,p,_⟩:=I.tuple hq
    obtain ⟨jts,rv',p',_⟩:=I.tuple hr
    obtain ⟨u,hu,ru⟩:=rv.get hx
    obtain ⟨v,hv,rw'⟩:=rv'.get hy
    refine zipT_next D st (show s.heap.IsTuple a its.toArray from p) (show s.heap.IsTuple b jts.toArray from p') (x:=u) (y:=v) (by simpa using hu) (by simpa using hv) fun h1 Z1 T1 L1 => ?_
    have hlt:∀ c o,s.heap.get? c=some o→c≠s.heap.objs.size:=fun c o e=>Nat.ne_of_lt (Heap.lt_size e)
    have zl:=hlt z _ st.hz
    refine ⟨_,rfl,wpAny_letOwnedTupleGo_zip Z1.hz fun h2 hz2 hs2 => ?_⟩
    have ext:=hs2.extBut
    have kk:∀ c o,c ∉ [z,TI,TO,i1,i2]→s.heap.get? c=some o→h2.get? c=some o:=fun c o hc q=>by
      have c1:c≠z:=fun e=>hc (by simp [e])
      exact ext _ _ c1 (L1.but c o c1 (fun e=>hc (by simp [e])) (fun e=>hc (by simp [e])) (fun e=>hc (by simp [e])) q)
    have st2:ZT z TI TO i1 i2 a b .none (i+1) h2:=by
      obtain ⟨_,hTI,⟨x',y',hTO⟩,n1,n2⟩:=Z1
      exact ⟨hz2,ext _ _ D.TIz hTI,⟨x',y',ext _ _ D.TOz hTO⟩,tI_but n1 ext D.i1z,tI_but n2 ext D.i2z⟩
    refine ⟨.ref s.heap.objs.size,upd H s.heap.objs.size (.tup [x,y]),?_,rfl,⟨_,x,y,I.hok.fresh (Nat.le_refl _),rfl,fun zs hz=>by rw [I.tuple_inj hz hq];exact hx,fun zs hz=>by rw [I.tuple_inj hz hr];exact hy,rfl⟩,st2,fun c hc => ?_⟩
    · refine I.turnedLaid (ch := [z,TI,TO,i1,i2]) (t':=s.toks) kk hf (Nat.le_refl _) ⟨by show 2≤sizeLine;decide, [u,v],.cons ru (.cons rw' .nil),?_⟩
      exact ⟨_,ext _ _ zl.symm T1,rfl,_,rfl,rfl⟩
    · have:c≠s.heap.objs.size:=by
        obtain ⟨_,hTI,⟨_,_,hTO⟩,⟨_,q1,_⟩,⟨_,q2,_⟩⟩:=st
        simp only [List.mem_cons,List.not_mem_nil,or_false] at hc
        rcases hc with rfl | rfl | rfl | rfl | rfl
        · exact zl
        · exact hlt _ _ hTI
        · exact hlt _ _ hTO
        · exact hlt _ _ q1
        · exact hlt _ _ q2
      rw [upd_ne this]
      exact (hf c hc).1
  done:=by
    intro X hP hw hK hc i pins s σ H E I hf st hg
    subst hP hw hK
    obtain ⟨xs,hq,hx⟩:=hg
    obtain ⟨its,rv,p,_⟩:=I.tuple hq
    have hl:=rv.length
    refine zipT_done (I.ok.hd hc) D st (show s.heap.IsTuple a its.toArray from p) (by simp;omega) fun h1 L1=>⟨rfl,?_⟩
    refine I.turnedM (ch := [z,TI,TO,i1,i2]) (t':=s.toks) (fun c o hc q=>L1.but c o (fun e=>hc (by simp [e])) (fun e=>hc (by simp [e])) (fun e=>hc (by simp [e])) (fun e=>hc (by simp [e])) q) hf
  self:=fun _ _ _ _ _ st h=>wpAny_pyIter_zip st.hz h
inductive J_iZipT (K:PySem.W.Frag) (R:It→Hp→Prop) (vs:List V) (H1:Hp):Prop
  | mk:∀ a b xs ys,(vs = [.ref a,.ref b])→(SqT K H1 a xs)→(SqT K H1 b ys)→(R (Itz K a b) H1)→J_iZipT K R vs H1
noncomputable def iZipT (K:PySem.W.Frag) (ta:TA):TI:=fun σ H R=>ta σ H fun vs H1=>J_iZipT K R vs H1
theorem boot_zip:bootBuiltins "zip" = some (.type "zip"):=by decide +kernel
section
variable {X:Cx}
theorem pi_zipT {l m:Expr} {ta:TA} {elts:List Expr} {k:Nat} {tp p pos:Pos} (hg:Gl X "zip") (hm:X.mg "zip" = none) (ha:PA X [l,m] ta)
    (he:starEach (l :: [m]) X.env=(false,eval l X.env) :: starEach [m] X.env:=by rfl) (hpl:(backTo pos (starEach [m] X.env)).any (·.1)=false:=by rfl) :
    PI X (.Tuple elts k tp) (.Call (.Name "zip" p) [l,m] [] pos) (iZipT X.K ta):=by
  intro pins s σ H R I h
  refine Call_ (ld_blt I hg hm boot_zip (PyProof.Rows.callWith_type1 (thn (ha pos pins s σ H _ I h) fun us s1 ⟨vs,H1,I1,r1,q1⟩ => ?_) he hpl))
  obtain ⟨a,b,xs,ys,e,hq,hr,q⟩:=q1
  subst e
  obtain ⟨u,v,rfl,ru,rv⟩:=vals2 r1
  cases ru;cases rv
  obtain ⟨its,_,pa,_⟩:=I1.tuple hq
  obtain ⟨jts,_,pb,_⟩:=I1.tuple hr
  have la:a < s1.heap.objs.size:=let ⟨_,e,_⟩:=pa; Heap.lt_size e
  have lb:b < s1.heap.objs.size:=let ⟨_,e,_⟩:=pb; Heap.lt_size e
  refine zipT_call (show s1.heap.IsTuple a its.toArray from pa) (show s1.heap.IsTuple b jts.toArray from pb) fun h1 Z1 hk => ?_
  have I2:Inv X pins σ H1 { s1 with heap:=h1 }:=I1.kept (t':=s1.toks) hk
  have fp:∀ c,s1.heap.objs.size≤c→FpOk X pins H1 c:=fun c hc=>I1.fpOk hc (I1.hok.fresh hc)
  refine wpAny_pyIter_zip (s := { s1 with heap:=h1 }) Z1.hz ⟨_, [s1.heap.objs.size+4,s1.heap.objs.size+2,s1.heap.objs.size+3,s1.heap.objs.size,s1.heap.objs.size+1],_,_,H1,rfl,I2,turn_zipT a b _ _ _ _ _ (zipApart_new la lb),Z1,fun c hc => ?_,q⟩
  simp only [List.mem_cons,List.not_mem_nil,or_false] at hc
  rcases hc with rfl | rfl | rfl | rfl | rfl
  · exact fp _ (Nat.le_add_right ..)
  · exact fp _ (Nat.le_add_right ..)
  · exact fp _ (Nat.le_add_right ..)
  · exact fp _ (Nat.le_refl _)
  · exact fp _ (Nat.le_add_right ..)
end
end L2
namespace L2
open PySem PySem.Spec PyProof.Rows
theorem Inv.thaw {X:Cx} {pins:List (Addr × Obj)} {σ : St} {H:Hp} {s:Shared} {a:Addr} {o:Obj} {kvs:List (Key × V)} (I:Inv X pins σ H s) (e:H a=some (Ext a o)) (d:DXo X.prog X.w a o kvs):Inv X pins σ (upd H a (.dK kvs)) s:=by
  obtain ⟨z,hd,vs,ep,rel,hx⟩:=d
  have ho:=dx_rd I.hok e
  obtain ⟨o',es,h1,h2⟩:=hx _ ho
  exact d_write (h':=s.heap) (t':=s.toks) I (by rw [e];exact True.intro) (Heap.SameBut.refl _ _) ⟨o,ho⟩ (dk_new z hd rel ⟨o',es,ep,h1,h2⟩)
inductive Thaw (P:Program) (w:World) (N:St→Hp→Prop) (σ : St) (H:Hp):Prop
  | mk (a:Addr) (o:Obj) (kvs:List (Key × V)) (e:H a=some (Ext a o)) (d:DXo P w a o kvs) (q:N σ (upd H a (.dK kvs))):Thaw P w N σ H
noncomputable def tThaw (P:Program) (w:World) (t:TS):TS:=fun D σ H=>t { D with nx:=Thaw P w D.nx } σ H
theorem ps_thaw {X:Cx} {st:Stmt} {t:TS} (h:PS X st t):PS X st (tThaw X.prog X.w t):=by
  intro pins s σ H D I ht
  refine thn (h pins s σ H _ I ht) fun f s' hf => ?_
  cases f with
  | next =>
    obtain ⟨σ',H',I',a,o,kvs,e,d,q⟩:=hf
    exact ⟨σ',_,I'.thaw e d,q⟩
  | _=>exact hf
end L2
namespace L2
open PySem PySem.Spec PyProof.Rows
section
variable {prog:Program} {w:World} {A:Around} {E:Value→Shared→Prop} {s:Shared}
theorem rawK_item {it d:Addr} {i ep:Nat} {es:Array DictEntry} {od:Obj} {Q:Option Value→Shared→Prop} (hit:s.heap.IsKeyIter it d i es.size ep) (hod:s.heap.get? d=some od) (hdd:od.data = .dict es ep) (hlt:i < es.size)
    (hQ:∀ h',h'.IsKeyIter it d (i+1) es.size ep→Heap.SameBut it s.heap h'→Q (some es[i].key) { s with heap:=h' }):wpAny (model prog w) A (pyNext (.ref it)) Q E s:=by
  obtain ⟨o,ho,hc,hd⟩:=id hit
  have hown:Builtin.Dict_items.ownsTuple "dict_keyiterator" = false:=by decide
  have hit':(s.heap.update it (Obj.mapFields (·.setIfInBounds 1 (rawInt ((i:Int)+1))))).IsKeyIter it d (i+1) es.size ep :=
    ⟨_,Heap.get?_update_self _ ho (Obj.isFreed_of_fields (Obj.data_mapFields hd _)),(Obj.cls_mapFields ..).trans hc,by rw [Obj.data_mapFields hd];simp [rawInt]⟩
  unfold pyNext
  refine wpAny_bind (wpAny_attempt (wpAny_callSpecial?_slot (name:=Str.ofString "__next__") hit.typeIs F.slot_dict_keyiterator_next (wpAny_call_entry F.slot_dict_keyiterator_next hit.typeIs F.entry_dict_keyiterator_next ?_ (F.args_dict_keyiterator_next_1 _))))
  refine wpAny_bind (wpAny_pure (wpAny_bind (wpAny_bind (wpAny_bind (wpAny_typeNameOfWhole_keyiter hit.typeIs (wpAny_pure (wpAny_bind (wpAny_fieldsOf ho hd ?_))))))))
  rw [hown]
  show wpAny _ _ (if (Value.ref d == Value.none)=true then _ else _) _ _ s
  rw [if_neg (show ¬ ((Value.ref d == Value.none)=true) from Bool.false_ne_true)]
  refine wpAny_bind (wpAny_pure (wpAny_bind (wpAny_dictEntries hod hdd ?_)))
  rw [if_neg (by simp)]
  refine wpAny_bind (wpAny_pure (wpAny_bind (wpAny_dictEpoch hod hdd ?_)))
  rw [if_neg (by simp)]
  refine wpAny_pure ?_
  simp only [show ¬ ((i:Int) < 0) from by omega,if_false,Int.toNat_natCast,Array.getElem?_eq_getElem hlt]
  refine wpAny_bind (wpAny_bind (wpAny_typeNameOfWhole_keyiter hit.typeIs (wpAny_pure (wpAny_bind (wpAny_isOneOf_keyiter hit.typeIs ?_)))))
  show wpAny _ _ (setField (.ref it) 1 (rawInt ((i:Int)+1)) >>= _) _ _ s
  refine wpAny_bind (wpAny_setField ho hd (by simp) (wpAny_bind (wpAny_holding ?_)))
  refine wpAny_bind (wpAny_isOneOf_keyiter (s := { s with heap:=s.heap.update it (Obj.mapFields (·.setIfInBounds 1 (rawInt ((i:Int)+1)))) }) hit'.typeIs ?_)
  show wpAny _ _ (pure es[i].key) _ _ _
  exact wpAny_pure (wpAny_pure ⟨_,rfl,wpAny_pure (hQ _ hit' (Heap.SameBut.update ..))⟩)
theorem rawK_end {it d:Addr} {i ep:Nat} {es:Array DictEntry} {od:Obj} {Q:Option Value→Shared→Prop} (hh:A.handled=none) (hit:s.heap.IsKeyIter it d i es.size ep) (hod:s.heap.get? d=some od) (hdd:od.data = .dict es ep) (hge:es.size≤i)
    (hQ:∀ h',Heap.ExtBut it s.heap h'→Q none { s with heap:=h' }):wpAny (model prog w) A (pyNext (.ref it)) Q E s:=by
  obtain ⟨o,ho,hc,hd⟩:=id hit
  have hown:Builtin.Dict_items.ownsTuple "dict_keyiterator" = false:=by decide
  unfold pyNext
  refine wpAny_bind (wpAny_attempt (wpAny_callSpecial?_slot (name:=Str.ofString "__next__") hit.typeIs F.slot_dict_keyiterator_next (wpAny_call_entry F.slot_dict_keyiterator_next hit.typeIs F.entry_dict_keyiterator_next ?_ (F.args_dict_keyiterator_next_1 _))))
  refine wpAny_bind (wpAny_pure (wpAny_bind (wpAny_bind (wpAny_bind (wpAny_typeNameOfWhole_keyiter hit.typeIs (wpAny_pure (wpAny_bind (wpAny_fieldsOf ho hd ?_))))))))
  rw [hown]
  show wpAny _ _ (if (Value.ref d == Value.none)=true then _ else _) _ _ s
  rw [if_neg (show ¬ ((Value.ref d == Value.none)=true) from Bool.false_ne_true)]
  refine wpAny_bind (wpAny_pure (wpAny_bind (wpAny_dictEntries hod hdd ?_)))
  rw [if_neg (by simp)]
  refine wpAny_bind (wpAny_pure (wpAny_bind (wpAny_dictEpoch hod hdd ?_)))
  rw [if_neg (by simp)]
  refine wpAny_pure ?_
  simp only [show ¬ ((i:Int) < 0) from by omega,if_false,Int.toNat_natCast,Array.getElem?_eq_none hge]
  refine wpAny_bind (wpAny_bind (wpAny_typeNameOfWhole_keyiter hit.typeIs (wpAny_pure ?_)))
  show wpAny _ _ (setField (.ref it) 0 .none >>= _) _ _ s
  refine wpAny_bind (wpAny_setField ho hd (by simp) ?_)
  refine stop_it (s := { s with heap:=_ }) (show A.in1.handled=none from hh) fun h' e hk he => ?_
  refine wpAny_bind (wpAny_isInstance (T := "StopIteration") (b:=true) (let ⟨o,a,b⟩:=he; ⟨o,a,b⟩) isSubtype_stop (wpAny_pure (hQ _ fun c o' n q=>hk c o' ((Heap.SameBut.update ..).extBut c o' n q))))
theorem rawV_item {it d:Addr} {i ep:Nat} {es:Array DictEntry} {od:Obj} {Q:Option Value→Shared→Prop} (hit:s.heap.IsValIter it d i es.size ep) (hod:s.heap.get? d=some od) (hdd:od.data = .dict es ep) (hlt:i < es.size)
    (hQ:∀ h',h'.IsValIter it d (i+1) es.size ep→Heap.SameBut it s.heap h'→Q (some es[i].val) { s with heap:=h' }):wpAny (model prog w) A (pyNext (.ref it)) Q E s:=by
  obtain ⟨o,ho,hc,hd⟩:=id hit
  have hown:Builtin.Dict_items.ownsTuple "dict_valueiterator" = false:=by decide
  have hit':(s.heap.update it (Obj.mapFields (·.setIfInBounds 1 (rawInt ((i:Int)+1))))).IsValIter it d (i+1) es.size ep :=
    ⟨_,Heap.get?_update_self _ ho (Obj.isFreed_of_fields (Obj.data_mapFields hd _)),(Obj.cls_mapFields ..).trans hc,by rw [Obj.data_mapFields hd];simp [rawInt]⟩
  unfold pyNext
  refine wpAny_bind (wpAny_attempt (wpAny_callSpecial?_slot (name:=Str.ofString "__next__") hit.typeIs F.slot_dict_valueiterator_next (wpAny_call_entry F.slot_dict_valueiterator_next hit.typeIs F.entry_dict_valueiterator_next ?_ (F.args_dict_valueiterator_next_1 _))))
  refine wpAny_bind (wpAny_pure (wpAny_bind (wpAny_bind (wpAny_bind (wpAny_typeNameOfWhole_valiter hit.typeIs (wpAny_pure (wpAny_bind (wpAny_fieldsOf ho hd ?_))))))))
  rw [hown]
  show wpAny _ _ (if (Value.ref d == Value.none)=true then _ else _) _ _ s
  rw [if_neg (show ¬ ((Value.ref d == Value.none)=true) from Bool.false_ne_true)]
  refine wpAny_bind (wpAny_pure (wpAny_bind (wpAny_dictEntries hod hdd ?_)))
  rw [if_neg (by simp)]
  refine wpAny_bind (wpAny_pure (wpAny_bind (wpAny_dictEpoch hod hdd ?_)))
  rw [if_neg (by simp)]
  refine wpAny_pure ?_
  simp only [show ¬ ((i:Int) < 0) from by omega,if_false,Int.toNat_natCast,Array.getElem?_eq_getElem hlt]
  refine wpAny_bind (wpAny_bind (wpAny_typeNameOfWhole_valiter hit.typeIs (wpAny_pure (wpAny_bind (wpAny_isOneOf_valiter hit.typeIs ?_)))))
  show wpAny _ _ (setField (.ref it) 1 (rawInt ((i:Int)+1)) >>= _) _ _ s
  refine wpAny_bind (wpAny_setField ho hd (by simp) (wpAny_bind (wpAny_holding ?_)))
  refine wpAny_bind (wpAny_isOneOf_valiter (s := { s with heap:=s.heap.update it (Obj.mapFields (·.setIfInBounds 1 (rawInt ((i:Int)+1)))) }) hit'.typeIs ?_)
  show wpAny _ _ (Builtin.Dict_items.isOneOf (.ref it) _ >>= _) _ _ _
  refine wpAny_bind (wpAny_isOneOf_valiter (s := { s with heap:=s.heap.update it (Obj.mapFields (·.setIfInBounds 1 (rawInt ((i:Int)+1)))) }) hit'.typeIs ?_)
  show wpAny _ _ (pure es[i].val) _ _ _
  exact wpAny_pure (wpAny_pure ⟨_,rfl,wpAny_pure (hQ _ hit' (Heap.SameBut.update ..))⟩)
theorem rawV_end {it d:Addr} {i ep:Nat} {es:Array DictEntry} {od:Obj} {Q:Option Value→Shared→Prop} (hh:A.handled=none) (hit:s.heap.IsValIter it d i es.size ep) (hod:s.heap.get? d=some od) (hdd:od.data = .dict es ep) (hge:es.size≤i)
    (hQ:∀ h',Heap.ExtBut it s.heap h'→Q none { s with heap:=h' }):wpAny (model prog w) A (pyNext (.ref it)) Q E s:=by
  obtain ⟨o,ho,hc,hd⟩:=id hit
  have hown:Builtin.Dict_items.ownsTuple "dict_valueiterator" = false:=by decide
  unfold pyNext
  refine wpAny_bind (wpAny_attempt (wpAny_callSpecial?_slot (name:=Str.ofString "__next__") hit.typeIs F.slot_dict_valueiterator_next (wpAny_call_entry F.slot_dict_valueiterator_next hit.typeIs F.entry_dict_valueiterator_next ?_ (F.args_dict_valueiterator_next_1 _))))
  refine wpAny_bind (wpAny_pure (wpAny_bind (wpAny_bind (wpAny_bind (wpAny_typeNameOfWhole_valiter hit.typeIs (wpAny_pure (wpAny_bind (wpAny_fieldsOf ho hd ?_))))))))
  rw [hown]
  show wpAny _ _ (if (Value.ref d == Value.none)=true then _ else _) _ _ s
  rw [if_neg (show ¬ ((Value.ref d == Value.none)=true) from Bool.false_ne_true)]
  refine wpAny_bind (wpAny_pure (wpAny_bind (wpAny_dictEntries hod hdd ?_)))
  rw [if_neg (by simp)]
  refine wpAny_bind (wpAny_pure (wpAny_bind (wpAny_dictEpoch hod hdd ?_)))
  rw [if_neg (by simp)]
  refine wpAny_pure ?_
  simp only [show ¬ ((i:Int) < 0) from by omega,if_false,Int.toNat_natCast,Array.getElem?_eq_none hge]
  refine wpAny_bind (wpAny_bind (wpAny_typeNameOfWhole_valiter hit.typeIs (wpAny_pure ?_)))
  show wpAny _ _ (setField (.ref it) 0 .none >>= _) _ _ s
  refine wpAny_bind (wpAny_setField ho hd (by simp) ?_)
  refine stop_it (s := { s with heap:=_ }) (show A.in1.handled=none from hh) fun h' e hk he => ?_
  refine wpAny_bind (wpAny_isInstance (T := "StopIteration") (b:=true) (let ⟨o,a,b⟩:=he; ⟨o,a,b⟩) isSubtype_stop (wpAny_pure (hQ _ fun c o' n q=>hk c o' ((Heap.SameBut.update ..).extBut c o' n q))))
theorem rawK_iter {d:Addr} {ep:Nat} {es:Array DictEntry} {od:Obj} {Q:Value→Shared→Prop} (hd:(d == sysModules)=false) (hT:s.TypeIs (.ref d) "dict") (hod:s.heap.get? d=some od) (hdd:od.data = .dict es ep)
    (hQ:Q (.ref s.heap.objs.size) { s with heap:=s.heap.push { cls := .type "dict_keyiterator",data := .fields #[.ref d,.int 0 0,.int es.size 0,.int ep 0] } }):wpAny (model prog w) A (pyIter (.ref d)) Q E s:=by
  refine wpAny_pyIter_slot hT F.slot_dict_iter (wpAny_call_entry F.slot_dict_iter hT F.entry_dict_iter ?_ (F.args_dict_iter_1 _))
  unfold Builtin.«dict.__iter__» Builtin.Dict.dictSlotNone
  refine wpAny_bind (wpAny_bind (wpAny_notOrdered_dict hT (show wpAny _ _ (pure (Value.ref d)) _ _ s from wpAny_pure ?_)))
  show wpAny _ _ (Builtin.Dict.showsAll d >>= _) _ _ s
  unfold Builtin.Dict.showsAll
  rw [if_neg (by rw [hd];exact Bool.false_ne_true)]
  refine wpAny_bind (wpAny_pure (wpAny_bind (wpAny_dictEntries hod hdd (wpAny_bind (wpAny_dictEpoch hod hdd ?_)))))
  refine wpAny_bind (wpAny_newObj_type (wpAny_pure ⟨_,rfl, "dict_keyiterator",_,⟨_,Heap.get?_push_size _ rfl,rfl⟩,F.slot_dict_keyiterator_next.lookup,?_⟩))
  simpa [rawInt] using hQ
theorem rawV_iter {v d:Addr} {ep:Nat} {es:Array DictEntry} {od:Obj} {Q:Value→Shared→Prop} (hv:s.heap.IsValuesView v d) (hod:s.heap.get? d=some od) (hdd:od.data = .dict es ep)
    (hQ:Q (.ref s.heap.objs.size) { s with heap:=s.heap.push { cls := .type "dict_valueiterator",data := .fields #[.ref d,.int 0 0,.int es.size 0,.int ep 0] } }):wpAny (model prog w) A (pyIter (.ref v)) Q E s:=by
  obtain ⟨ov,hov,hcv,hdv⟩:=id hv
  refine wpAny_pyIter_slot hv.typeIs F.slot_dict_values_iter (wpAny_call_entry F.slot_dict_values_iter hv.typeIs F.entry_dict_values_iter ?_ (F.args_dict_values_iter_1 _))
  unfold Builtin.«dict_values.__iter__» Builtin.Dict_items.dictOf Builtin.Dict_items.newIterator
  refine wpAny_bind (wpAny_pure (wpAny_bind (wpAny_bind (wpAny_field hov hdv (x := .ref d) rfl (wpAny_pure ?_)))))
  have hown:Builtin.Dict_items.ownsTuple "dict_valueiterator" = false:=by decide
  refine wpAny_bind (wpAny_bind (wpAny_dictEntries hod hdd (wpAny_bind (wpAny_dictEpoch hod hdd ?_))))
  simp only [hown,Bool.false_eq_true,if_false]
  refine wpAny_newObj_type (wpAny_pure ⟨_,rfl, "dict_valueiterator",_,⟨_,Heap.get?_push_size _ rfl,rfl⟩,F.slot_dict_valueiterator_next.lookup,?_⟩)
  simpa [rawInt] using hQ
theorem rawV_view {d:Addr} (hd:(d == sysModules)=false):MeetsIn prog w (Builtin.«dict.values» ⟨[.ref d], []⟩) (fun _ R s=>s.TypeIs (.ref d) "dict" ∧
      R (.ok (.ret (.ref s.heap.objs.size))) { s with heap:=s.heap.push { cls := .type "dict_values",data := .fields #[.ref d] } }) :=
  .of_wp fun A R s ⟨hT,h⟩=>by
    unfold Builtin.«dict.values»
    refine wpAny_bind ?_
    unfold Builtin.Dict.noArgs
    refine wpAny_bind (wpAny_notOrdered_dict hT (show wpAny _ _ (pure d) _ _ s from wpAny_pure ?_))
    show wpAny _ _ (Builtin.Dict.showsAll d >>= _) _ _ s
    unfold Builtin.Dict.showsAll
    rw [if_neg (by rw [hd];exact Bool.false_ne_true)]
    exact wpAny_bind (wpAny_pure (wpAny_bind (wpAny_newObj_type (wpAny_pure ⟨_,rfl,h⟩))))
end
end L2
namespace L2
open PySem PySem.Spec PyProof.Rows
noncomputable def DNo (P:Program) (w:World) (H:Hp) (a:Addr) (o:Obj) (kvs:List (NK × V)):Prop := ∃ (xs:List (NK × Addr × Value)) (es:Array DictEntry) (ep:Nat),H a=some (Ext a o)∧KN H kvs xs∧o.data = .dict es ep∧es.toList=xs.map (entryOfKey (nkKind P w))
theorem DN.o {P:Program} {w:World} {H:Hp} {a:Addr} {kvs:List (NK × V)} (d:DN P w H a kvs):∃ o,DNo P w H a o kvs:=by
  obtain ⟨_,_,xs,o,es,ep,h1,h2,_,h4,h5,_⟩:=d
  exact ⟨o,xs,es,ep,h1,h2,h4,h5⟩
theorem DNo.keep {P:Program} {w:World} {H H':Hp} {a:Addr} {o:Obj} {kvs:List (NK × V)} (d:DNo P w H a o kvs) (ha:H a=some (Ext a o)→H' a=some (Ext a o)) (ht:∀ b ys,H b=some (.tup ys)→H' b=some (.tup ys)):DNo P w H' a o kvs:=by
  obtain ⟨xs,es,ep,h1,h2,h3⟩:=d
  exact ⟨xs,es,ep,ha h1,h2.keeps ht,h3⟩
theorem DNo.same {P:Program} {w:World} {H H':Hp} {a:Addr} {o:Obj} {kvs:List (NK × V)} (d:DNo P w H a o kvs) (s:Same H H'):DNo P w H' a o kvs:=d.keep (s _ _) (fun b ys=>s _ _)
theorem entry_at {P:Program} {w:World} {H:Hp} {kvs:List (NK × V)} {xs:List (NK × Addr × Value)} {es:Array DictEntry} (r:KN H kvs xs) (he:es.toList=xs.map (entryOfKey (nkKind P w))):es.size=kvs.length∧∀ i (h:i < es.size),∃ kv b,kvs[i]? = some kv∧es[i].key = .ref b∧NKey H kv.1 b∧RelV kv.2 es[i].val:=by
  have l1:es.size=xs.length:=by rw [← Array.length_toList,he,List.length_map]
  have l2:=Paired.length r
  refine ⟨by omega,fun i h => ?_⟩
  have hx:xs[i]? = some (xs[i]'(by omega)):=List.getElem?_eq_getElem (by omega)
  have hk:kvs[i]? = some (kvs[i]'(by omega)):=List.getElem?_eq_getElem (by omega)
  obtain ⟨q,hq,e1,e2,e3⟩:=Paired.at r hk
  rw [hx] at hq
  cases hq
  have he2:es[i]=entryOfKey (nkKind P w) (xs[i]'(by omega)):=by
    have:es.toList[i]? = (xs.map (entryOfKey (nkKind P w)))[i]? := by rw [he]
    rw [List.getElem?_map,hx,Array.getElem?_toList,Array.getElem?_eq_getElem h] at this
    exact Option.some.inj this
  exact ⟨_,_,hk,by rw [he2];rfl,e2,by rw [he2];exact e3⟩
noncomputable def ItnK (P:Program) (w:World) (a:Addr) (o:Obj) (kvs:List (NK × V)):It :=
  ⟨fun i H=>i < kvs.length∧DNo P w H a o kvs,fun i H x H'=>H'=H∧∃ kv b,kvs[i]? = some kv∧x = .ref b∧NKey H kv.1 b,fun i H=>kvs.length≤i∧DNo P w H a o kvs⟩
noncomputable def ItnV (P:Program) (w:World) (a:Addr) (o:Obj) (kvs:List (NK × V)):It :=
  ⟨fun i H=>i < kvs.length∧DNo P w H a o kvs,fun i H x H'=>H'=H∧∃ kv,kvs[i]? = some kv∧x=kv.2,fun i H=>kvs.length≤i∧DNo P w H a o kvs⟩
theorem turn_keysN {P:Program} {w:World} {K:PySem.W.Frag} {tg:Expr} (a it:Addr) {o:Obj} {kvs:List (NK × V)} {es:Array DictEntry} {ep:Nat} (hdd:o.data = .dict es ep) :
    Turn P w K tg (ItnK P w a o kvs) [it] it (fun i h=>h.IsKeyIter it a i es.size ep) where
  mem:=by simp
  obj:=fun i h st b hb=>by
    have e:b=it:=by simpa using hb
    subst e
    obtain ⟨o,e,c,d⟩:=st
    exact ⟨o,e,fun v z=>by rw [d] at z;cases z⟩
  keep:=fun i h h' st k=>st.at fun o e=>k it (by simp) o e
  item:=by
    intro X hP hw hK hc i pins s σ H E I hf st hg
    subst hP hw hK
    obtain ⟨hi,xs,es',ep',hH,rel,hdd',hes⟩:=hg
    rw [hdd] at hdd'
    cases hdd'
    obtain ⟨hsz,hat⟩:=entry_at rel hes
    obtain ⟨kv,b,hkv,ek,nk,_⟩:=hat i (by omega)
    obtain ⟨f0,f1,f2,f3,f4,f5⟩:=hf it (by simp)
    refine rawK_item st (dx_rd I.hok hH) hdd (by omega) fun h' st' sb => ?_
    have I1:Inv X pins σ H { s with heap:=h' }:=I.turned (t':=s.toks) (fun b o hb e=>(sb.2 b hb).trans e) f0 f1 f3 f4 f5
    obtain ⟨o,e,c,d⟩:=id st'
    exact ⟨_,rfl,go_of (s := { s with heap:=h' }) e c d (by decide) ⟨.ref b,H,I1,by rw [ek];rfl,⟨rfl,kv,b,hkv,rfl,nk⟩,st',fun b hb=>(hf b hb).1⟩⟩
  done:=by
    intro X hP hw hK hc i pins s σ H E I hf st hg
    subst hP hw hK
    obtain ⟨hi,xs,es',ep',hH,rel,hdd',hes⟩:=hg
    rw [hdd] at hdd'
    cases hdd'
    obtain ⟨hsz,_⟩:=entry_at rel hes
    obtain ⟨f0,f1,f2,f3,f4,f5⟩:=hf it (by simp)
    exact rawK_end (I.ok.hd hc) st (dx_rd I.hok hH) hdd (by omega) fun h' eb=>⟨rfl,I.turned (t':=s.toks) (fun b o hb e=>eb b o hb e) f0 f1 f3 f4 f5⟩
  self:=fun _ _ _ _ _ st h=>wpAny_pyIter_keyiter st h
theorem turn_valsN {P:Program} {w:World} {K:PySem.W.Frag} {tg:Expr} (a it:Addr) {o:Obj} {kvs:List (NK × V)} {es:Array DictEntry} {ep:Nat} (hdd:o.data = .dict es ep) :
    Turn P w K tg (ItnV P w a o kvs) [it] it (fun i h=>h.IsValIter it a i es.size ep) where
  mem:=by simp
  obj:=fun i h st b hb=>by
    have e:b=it:=by simpa using hb
    subst e
    obtain ⟨o,e,c,d⟩:=st
    exact ⟨o,e,fun v z=>by rw [d] at z;cases z⟩
  keep:=fun i h h' st k=>st.at fun o e=>k it (by simp) o e
  item:=by
    intro X hP hw hK hc i pins s σ H E I hf st hg
    subst hP hw hK
    obtain ⟨hi,xs,es',ep',hH,rel,hdd',hes⟩:=hg
    rw [hdd] at hdd'
    cases hdd'
    obtain ⟨hsz,hat⟩:=entry_at rel hes
    obtain ⟨kv,b,hkv,ek,nk,rv⟩:=hat i (by omega)
    obtain ⟨f0,f1,f2,f3,f4,f5⟩:=hf it (by simp)
    refine rawV_item st (dx_rd I.hok hH) hdd (by omega) fun h' st' sb => ?_
    have I1:Inv X pins σ H { s with heap:=h' }:=I.turned (t':=s.toks) (fun b o hb e=>(sb.2 b hb).trans e) f0 f1 f3 f4 f5
    obtain ⟨o,e,c,d⟩:=id st'
    exact ⟨_,rfl,go_of (s := { s with heap:=h' }) e c d (by decide) ⟨kv.2,H,I1,rv,⟨rfl,kv,hkv,rfl⟩,st',fun b hb=>(hf b hb).1⟩⟩
  done:=by
    intro X hP hw hK hc i pins s σ H E I hf st hg
    subst hP hw hK
    obtain ⟨hi,xs,es',ep',hH,rel,hdd',hes⟩:=hg
    rw [hdd] at hdd'
    cases hdd'
    obtain ⟨hsz,_⟩:=entry_at rel hes
    obtain ⟨f0,f1,f2,f3,f4,f5⟩:=hf it (by simp)
    exact rawV_end (I.ok.hd hc) st (dx_rd I.hok hH) hdd (by omega) fun h' eb=>⟨rfl,I.turned (t':=s.toks) (fun b o hb e=>eb b o hb e) f0 f1 f3 f4 f5⟩
  self:=fun _ _ _ _ _ st h=>wpAny_pyIter_valiter st h
inductive J_iKeysN (P:Program) (w:World) (R:It→Hp→Prop) (x:V) (H1:Hp):Prop
  | mk (a:Addr) (kvs:List (NK × V)) (e:x = .ref a) (ea:DN P w H1 a kvs) (q:∀ o,DNo P w H1 a o kvs→R (ItnK P w a o kvs) H1):J_iKeysN P w R x H1
noncomputable def iKeysN (P:Program) (w:World) (tl:TE):TI:=fun σ H R=>tl σ H fun x H1=>J_iKeysN P w R x H1
inductive J_iValsN (P:Program) (w:World) (R:It→Hp→Prop) (x:V) (H1:Hp):Prop
  | mk (a:Addr) (kvs:List (NK × V)) (e:x = .ref a) (ea:DN P w H1 a kvs) (q:∀ o,DNo P w H1 a o kvs→R (ItnV P w a o kvs) H1):J_iValsN P w R x H1
noncomputable def iValsN (P:Program) (w:World) (tl:TE):TI:=fun σ H R=>tl σ H fun x H1=>J_iValsN P w R x H1
theorem pi_keysN {X:Cx} {tg l:Expr} {tl:TE} (hl:PE X l tl):PI X tg l (iKeysN X.prog X.w tl):=by
  intro pins s σ H R I h
  refine thn (hl pins s σ H _ I h) fun v s1 ⟨x,H1,I1,r1,q1⟩ => ?_
  obtain ⟨a,kvs,e,d,q⟩:=q1
  subst e
  obtain rfl:v=Value.ref a:=r1
  obtain ⟨o,dno⟩:=d.o
  have hT:=dn_typeIs I1 d
  have hsm:(a == sysModules)=false:=d.2.1
  have q:=q o dno
  obtain ⟨xs,es,ep,hH,rel,hdd,hes⟩:=dno
  refine rawK_iter hsm hT (dx_rd I1.hok hH) hdd ?_
  refine ⟨_, [_],_,_,H1,rfl,I1.kept (t':=s1.toks) fun b o e=>Heap.get?_push_of_some _ e,turn_keysN a _ hdd,⟨_,Heap.get?_push_size _ rfl,rfl,rfl⟩,fun b hb => ?_,q⟩
  have e:b=s1.heap.objs.size:=by simpa using hb
  subst e
  exact I1.fpOk (Nat.le_refl _) (I1.hok.fresh (Nat.le_refl _))
theorem pi_valsN {X:Cx} {tg o:Expr} {tl:TE} {apos cpos:Pos} (ho:PE X o tl) (hbase:attributeBase o "values" X.env (eval o X.env)=eval o X.env:=by rfl) (hline:(apos.endLine == cpos.line)=true:=by rfl) :
    PI X tg (.Call (.Attribute o "values" apos) [] [] cpos) (iValsN X.prog X.w tl):=by
  intro pins s σ H R I h
  refine wpAny_Call_method0_late hbase hline (thn (ho pins s σ H _ I h) fun v s1 ⟨x,H1,I1,r1,q1⟩ => ?_)
  obtain ⟨a,kvs,e,d,q⟩:=q1
  subst e
  obtain rfl:v=Value.ref a:=r1
  obtain ⟨o,dno⟩:=d.o
  obtain ⟨t1,t2,_⟩:=isN_at I1 ⟨kvs,d⟩
  have hsm:(a == sysModules)=false:=d.2.1
  have q:=q o dno
  obtain ⟨xs,es,ep,hH,rel,hdd,hes⟩:=dno
  refine ⟨"dict", "dict.values",PySem.F.plainAttrs_dict,PySem.F.slot_dict_values,PySem.F.type_dict_values,t1,t2,Calls.callWith_builtin rfl (PySem.evalArgs_none ?_)⟩
  refine call_meetsIn PySem.F.slot_dict_values t1 PySem.F.entry_dict_values (PySem.F.args_dict_values_1 _) (rawV_view hsm) ⟨t1,?_⟩
  have kp:∀ b o',s1.heap.get? b=some o'→(s1.heap.push { cls := .type "dict_values",data := .fields #[.ref a] }).get? b=some o':=fun b o' e=>Heap.get?_push_of_some _ e
  have I2:Inv X pins σ H1 { s1 with heap:=s1.heap.push { cls := .type "dict_values",data := .fields #[.ref a] } }:=I1.kept (t':=s1.toks) kp
  refine rawV_iter (d:=a) ⟨_,Heap.get?_push_size _ rfl,rfl,rfl⟩ (dx_rd I2.hok hH) hdd ?_
  refine ⟨_, [_],_,_,H1,rfl,I2.kept (t':=s1.toks) fun b o e=>Heap.get?_push_of_some _ e,turn_valsN a _ hdd,⟨_,Heap.get?_push_size _ rfl,rfl,rfl⟩,fun b hb => ?_,q⟩
  have e:b=(s1.heap.push { cls := .type "dict_values",data := .fields #[.ref a] }).objs.size:=by simpa using hb
  subst e
  exact I2.fpOk (Nat.le_refl _) (I2.hok.fresh (Nat.le_refl _))
section
variable {P:Program} {w:World} {a:Addr} {o:Obj} {kvs:List (NK × V)} {g:TG} {tb:TS} {D:Ends} {σ : St} {H:Hp}
theorem for_keysN (Pv:Nat→St→Hp→Prop) (h0:Pv 0 σ H) (hl:∀ i σ H,i≤kvs.length→Pv i σ H→DNo P w H a o kvs)
    (hs:∀ i (kv:NK × V) b σ H,kvs[i]? = some kv→NKey H kv.1 b→Pv i σ H→g (.ref b) σ H fun σ2 H2=>tb { D with nx:=Pv (i+1),ct:=Pv (i+1),bk:=D.nx } σ2 H2) (hd:∀ σ H,Pv kvs.length σ H→D.nx σ H) :
    ∃ W:Nat→Nat→St→Hp→Prop,(∃ m,W 0 m σ H)∧∀ i m σ H,W i m σ H →
      ((ItnK P w a o kvs).stop i H∧D.nx σ H)∨((ItnK P w a o kvs).go i H∧∃ N:St→Hp→Prop,(∀ σ' H',N σ' H'→∃ m',m' < m∧W (i+1) m' σ' H')∧∀ x H',(ItnK P w a o kvs).yld i H x H'→g x σ H' fun σ2 H2=>tb { D with nx:=N,ct:=N,bk:=D.nx } σ2 H2):=by
  refine ⟨fun i m σ H=>m=kvs.length - i∧i≤kvs.length∧Pv i σ H,⟨kvs.length,by simp,Nat.zero_le _,h0⟩,?_⟩
  rintro i m σ H ⟨rfl,hi,hp⟩
  by_cases hlt:i < kvs.length
  · refine .inr ⟨⟨hlt,hl i σ H hi hp⟩,Pv (i+1),fun σ' H' h'=>⟨kvs.length - (i+1),by omega,rfl,hlt,h'⟩,?_⟩
    rintro x H' ⟨rfl,kv,b,hkv,rfl,nk⟩
    exact hs i kv b σ _ hkv nk hp
  · have e:i=kvs.length:=by omega
    subst e
    exact .inl ⟨⟨Nat.le_refl _,hl _ σ H hi hp⟩,hd σ H hp⟩
theorem for_valsN (Pv:Nat→St→Hp→Prop) (h0:Pv 0 σ H) (hl:∀ i σ H,i≤kvs.length→Pv i σ H→DNo P w H a o kvs)
    (hs:∀ i (kv:NK × V) σ H,kvs[i]? = some kv→Pv i σ H→g kv.2 σ H fun σ2 H2=>tb { D with nx:=Pv (i+1),ct:=Pv (i+1),bk:=D.nx } σ2 H2) (hd:∀ σ H,Pv kvs.length σ H→D.nx σ H) :
    ∃ W:Nat→Nat→St→Hp→Prop,(∃ m,W 0 m σ H)∧∀ i m σ H,W i m σ H →
      ((ItnV P w a o kvs).stop i H∧D.nx σ H)∨((ItnV P w a o kvs).go i H∧∃ N:St→Hp→Prop,(∀ σ' H',N σ' H'→∃ m',m' < m∧W (i+1) m' σ' H')∧∀ x H',(ItnV P w a o kvs).yld i H x H'→g x σ H' fun σ2 H2=>tb { D with nx:=N,ct:=N,bk:=D.nx } σ2 H2):=by
  refine ⟨fun i m σ H=>m=kvs.length - i∧i≤kvs.length∧Pv i σ H,⟨kvs.length,by simp,Nat.zero_le _,h0⟩,?_⟩
  rintro i m σ H ⟨rfl,hi,hp⟩
  by_cases hlt:i < kvs.length
  · refine .inr ⟨⟨hlt,hl i σ H hi hp⟩,Pv (i+1),fun σ' H' h'=>⟨kvs.length - (i+1),by omega,rfl,hlt,h'⟩,?_⟩
    rintro x H' ⟨rfl,kv,hkv,rfl⟩
    exact hs i kv σ _ hkv hp
  · have e:i=kvs.length:=by omega
    subst e
    exact .inl ⟨⟨Nat.le_refl _,hl _ σ H hi hp⟩,hd σ H hp⟩
end
section
variable {X:Cx} {pins:List (Addr × Obj)} {σ : St} {H:Hp} {s:Shared} {a b:Addr} {kvs:List (NK × V)} {k:NK} {v:V} {A:Around} {E:Value→Shared→Prop}
theorem dn_get2 {Q:Value→Shared→Prop} {z:V} {r:Value} (hu:A.units+10 < cLine) (I:Inv X pins σ H s) (d:DN X.prog X.w H a kvs) (nk:NKey H k b) (rz:RelV z r) (h:∀ w' s',Inv X pins σ H s'→RelV ((valV kvs k).getD z) w'→Q w' s') :
    wpAny (model X.prog X.w) A (call (.builtin "dict.get") [.ref a,.ref b,r]) Q E s:=by
  obtain ⟨_,hd,xs,rel,dd⟩:=dn_rd I.hok d
  exact call_meetsIn PySem.F.slot_dict_get dd.typeIs PySem.F.entry_dict_get (PySem.F.args_dict_get_3 _ _ _) (meetsH_dict_get_default (nkKind X.prog X.w) a b hd r) ⟨(show A.units+1+5 < cLine by omega),k,xs,nkey_of I.hok nk,dd,h _ _ (I.tok _) ((rel.val k).getD rz)⟩
end
inductive J_tNGet2 (P:Program) (w:World) (ty tx:TE) (σ : St) (Q:VK) (x:V) (H1:Hp):Prop
  | mk (a:Addr) (z0:x = .ref a) (z1:∃ kvs,DN P w H1 a kvs) (z2:ty σ H1 fun y H2=>tx σ H2 fun z H3=>∃ b kvs k,y = .ref b∧DN P w H3 a kvs∧NKey H3 k b∧Q ((valV kvs k).getD z) H3):J_tNGet2 P w ty tx σ Q x H1
noncomputable def tNGet2 (P:Program) (w:World) (td ty tx:TE):TE:=fun σ H Q=>td σ H fun x H1=>J_tNGet2 P w ty tx σ Q x H1
theorem pe_nget2 {X:Cx} {o e f:Expr} {apos cpos:Pos} {td ty tx:TE} (hu:X.A.units+10 < cLine) (ho:PE X o td) (he:PE X e ty) (hf:PE X f tx) (m:M2 X o "get" apos e f cpos):PE X (.Call (.Attribute o "get" apos) [e,f] [] cpos) (tNGet2 X.prog X.w td ty tx):=by
  intro pins s σ H Q I h
  refine wpAny_Call_method m.base m.few m.line PySem.F.plainAttrs_dict PySem.F.slot_dict_get PySem.F.type_dict_get (thn (ho pins s σ H _ I h) fun u s1 ⟨x,H1,I1,rx,a,ex,d,q1⟩ => ?_)
  subst ex
  obtain rfl:u=Value.ref a:=rx
  obtain ⟨t1,t2,_⟩:=isN_at I1 d
  refine ⟨t1,t2,?_⟩
  rw [m.trees]
  refine Calls.callWith_builtin rfl (Calls.evalArgs_plain (Calls.spliced_cons (thn (he pins s1 σ H1 _ I1 q1) fun iv s2 ⟨y,H2,I2,ry,q2⟩ =>
    Calls.spliced_cons (thn (hf pins s2 σ H2 _ I2 q2) fun fv s3 ⟨z,H3,I3,rz,b,kvs,k,ey,d3,nk,q3⟩=>Calls.spliced_nil ?_))))
  subst ey
  obtain rfl:iv=Value.ref b:=ry
  exact dn_get2 hu I3 d3 nk rz fun w' s4 I4 rw'=>⟨_,H3,I4,rw',q3⟩
noncomputable def rGetN (P:Program) (w:World):V→V→Hp→VK→Prop:=fun o i H Q=>∃ a b kvs k v,o = .ref a∧i = .ref b∧DN P w H a kvs∧NKey H k b∧valV kvs k=some v∧Q v H
noncomputable def rSetN (P:Program) (w:World):V→V→V→Hp→(Hp→Prop)→Prop:=fun o i v H Q=>∃ a b kvs k,o = .ref a∧i = .ref b∧DN P w H a kvs∧NKey H k b∧kvs.length < sizeLine∧∀ φ,DN P w (upd H a (.ext φ)) a (putK kvs k v)→Q (upd H a (.ext φ))
theorem get_dn {X:Cx} (hu:X.A.units+10 < cLine):PGet X (rGetN X.prog X.w):=by
  intro pins s σ H o i ov iv Q I ro ri h
  obtain ⟨a,b,kvs,k,v,rfl,rfl,d,nk,hv,q⟩:=h
  cases ro;cases ri
  exact dn_getItem hu I d nk hv fun w' s3 I3 rw'=>⟨v,H,I3,rw',q⟩
theorem set_dn {X:Cx} (hu:X.A.units+10 < cLine):PSet X (rSetN X.prog X.w):=by
  intro pins s σ H o i v ov iv u Q I ro ri rv h
  obtain ⟨a,b,kvs,k,rfl,rfl,d,nk,hl,q⟩:=h
  cases ro;cases ri
  exact dn_setItem hu I d nk rv hl fun φ s' I' d'=>⟨_,I',q φ d'⟩
end L2
namespace L2
open PySem PySem.Spec PyProof.Rows
section
variable {prog:Program} {w:World} {A:Around} {E:Value→Shared→Prop} {s:Shared} {R:Result→Shared→Prop} {I:Addr} {fp wr:List Addr} {n:Nat} {P:Nat→Value→Prop} {St:Nat→Heap→Prop} {C:Heap→Prop} {bt:Nat→Nat→Bool}
noncomputable def CmpH (prog:Program) (w:World) (A:Around) (C:Heap→Prop) (P:Nat→Value→Prop) (bt:Nat→Nat→Bool):Prop :=
  ∀ i j vi vj (s:Shared) (Q:Value→Shared→Prop) (E:Value→Shared→Prop),C s.heap→P i vi→P j vj→Q (.bool (bt i j)) s→wpAny (model prog w) A (richCompare .Lt vi vj) Q E s
noncomputable def KeptBut (wr:List Addr) (S:Addr) (h h':Heap):Prop := ∀ b o,b ∉ wr→b≠S→h.get? b=some o→h'.get? b=some o
theorem minH_loop (W:Walks prog w A.in1 I fp wr n P St) (hcmp:CmpH prog w A.in1 C P bt) (S:Addr) (hSf:S ∉ fp) (hC:∀ h h',C h→KeptBut wr S h h'→C h') :
    ∀ (k j:Nat) (s:Shared) (vb:Value) (c:Nat),n - (j+1)=k→j+1≤n→St (j+1) s.heap→P (argBest bt j) vb→C s.heap →
    s.heap.get? S=some { cls := .type "list",dict:=none,data := .seq #[vb,vb] c,slots := #[] } →
    (∀ v h' tk,P (argBest bt (n - 1)) v→KeptBut wr S s.heap h'→R (.ok (.ret v)) { s with heap:=h',toks:=tk })→codeAny (model prog w) A (.builtin "min.loop" ⟨[.ref I,.none,.ref S], []⟩) R s:=by
  have hSw:S ∉ wr:=fun h=>hSf (W.sub _ h)
  have hname:(toString "min" ++ toString ".loop" : String) = "min.loop" := by decide
  intro k
  induction k with
  | zero =>
    intro j s vb c hk hj hst hPb hCs hS hR
    have hin:j+1=n:=by omega
    refine codeAny_builtin F.entry_min_loop ?_
    rw [Around.under_plainId F.plain_min_loop _]
    refine (show wpAny _ A.in1 (seqItems? (.ref S) >>= _) _ _ s from wpAny_bind (wpAny_seqItems hS rfl (show wpAny _ A.in1 (tryCatch (pyNext (.ref I)) _ >>= _) _ _ s from wpAny_bind (wpAny_tryCatch (W.done s _ _ (hin ▸ hst) fun h' tk hk' => ?_)))))
    have hS':=hk' S _ hSw hS
    refine (show wpAny _ A.in1 (updateSeq S (fun _ => #[]) >>= _) _ _ _ from wpAny_bind (wpAny_updateSeq hS' rfl (wpAny_bind (wpAny_letGo (wpAny_pure ?_)))))
    exact hR vb _ tk (by rw [← hin];exact hPb) fun b o hbw hbS e=>(Heap.get?_update_other _ _ (Ne.symm hbS)).trans (hk' b o hbw e)
  | succ k ih =>
    intro j s vb c hk hj hst hPb hCs hS hR
    have hlt:j+1 < n:=by omega
    refine codeAny_builtin F.entry_min_loop ?_
    rw [Around.under_plainId F.plain_min_loop _]
    refine (show wpAny _ A.in1 (seqItems? (.ref S) >>= _) _ _ s from wpAny_bind (wpAny_seqItems hS rfl (show wpAny _ A.in1 (tryCatch (pyNext (.ref I)) _ >>= _) _ _ s from wpAny_bind (wpAny_tryCatch (W.item (j+1) s _ _ hlt hst fun v h' tk hP hst' hk' => ?_)))))
    have hS':=hk' S _ hSw hS
    have kb:KeptBut wr S s.heap h':=fun b o hw _ e=>hk' b o hw e
    have hC1:=hC _ _ hCs kb
    show wpAny _ A.in1 (tryCatch (holding [v,v] (richCompare .Lt v vb >>= _)) _ >>= _) _ _ _
    refine wpAny_bind (wpAny_tryCatch (wpAny_holding (wpAny_bind (hcmp (j+1) (argBest bt j) v vb { s with heap:=h',toks:=tk } _ _ hC1 hP hPb ?_))))
    refine wpAny_bind (wpAny_holding (wpAny_truthy_bool ?_))
    refine wpAny_bind (wpAny_letGo (wpAny_pure ?_))
    cases hb:bt (j+1) (argBest bt j) with
    | true =>
      simp only [if_true]
      refine wpAny_bind (wpAny_updateSeq hS' rfl (wpAny_bind (wpAny_letGo ?_)))
      rw [hname]
      have ku:∀ b o,b≠S→h'.get? b=some o→(h'.update S (Obj.mapSeq fun _ => #[v,v])).get? b=some o:=fun b o hbS e=>(Heap.get?_update_other _ _ (Ne.symm hbS)).trans e
      refine wpAny_pure ⟨plainId_quiet F.plain_min_loop _,ih (j+1) _ v _ (by omega) hlt (W.frame _ _ _ hst' fun b hbf o e=>ku b o (fun z=>hSf (by rw [← z];exact hbf)) e) (by simp only [argBest,hb,if_true];exact hP) (hC _ _ hC1 fun b o _ hbS e=>ku b o hbS e) (Heap.get?_update_self _ hS' rfl) fun v' h'' tk' hP' hk'' => ?_⟩
      exact hR v' h'' tk' hP' fun b o hw hbS e=>hk'' b o hw hbS (ku b o hbS (hk' b o hw e))
    | false =>
      simp only [Bool.false_eq_true,if_false]
      refine wpAny_bind (wpAny_letGo ?_)
      rw [hname]
      refine wpAny_pure ⟨plainId_quiet F.plain_min_loop _,ih (j+1) _ vb c (by omega) hlt hst' (by simp only [argBest,hb,Bool.false_eq_true,if_false];exact hPb) hC1 hS' fun v' h'' tk' hP' hk'' => ?_⟩
      exact hR v' h'' tk' hP' fun b o hw hbS e=>hk'' b o hw hbS (hk' b o hw e)
theorem minH_first (W:Walks prog w A.in1 I fp wr n P St) (hcmp:CmpH prog w A.in1 C P bt) (S:Addr) (hSf:S ∉ fp) (hC:∀ h h',C h→KeptBut wr S h h'→C h') (hn:0 < n) {c:Nat} (hst:St 0 s.heap) (hCs:C s.heap)
    (hS:s.heap.get? S=some { cls := .type "list",dict:=none,data := .seq #[] c,slots := #[] })
    (hR:∀ v h' tk,P (argBest bt (n - 1)) v→KeptBut wr S s.heap h'→R (.ok (.ret v)) { s with heap:=h',toks:=tk }):codeAny (model prog w) A (.builtin "min.loop" ⟨[.ref I,.none,.ref S], []⟩) R s:=by
  have hSw:S ∉ wr:=fun h=>hSf (W.sub _ h)
  have hname:(toString "min" ++ toString ".loop" : String) = "min.loop" := by decide
  refine codeAny_builtin F.entry_min_loop ?_
  rw [Around.under_plainId F.plain_min_loop _]
  refine (show wpAny _ A.in1 (seqItems? (.ref S) >>= _) _ _ s from wpAny_bind (wpAny_seqItems hS rfl (show wpAny _ A.in1 (tryCatch (pyNext (.ref I)) _ >>= _) _ _ s from wpAny_bind (wpAny_tryCatch (W.item 0 s _ _ hn hst fun v h' tk hP hst' hk' => ?_)))))
  have hS':=hk' S _ hSw hS
  refine (show wpAny _ A.in1 (updateSeq S (fun _ => #[v,v]) >>= _) _ _ _ from wpAny_bind (wpAny_updateSeq hS' rfl ?_))
  rw [hname]
  have ku:∀ b o,b≠S→h'.get? b=some o→(h'.update S (Obj.mapSeq fun _ => #[v,v])).get? b=some o:=fun b o hbS e=>(Heap.get?_update_other _ _ (Ne.symm hbS)).trans e
  refine wpAny_pure ⟨plainId_quiet F.plain_min_loop _,minH_loop W hcmp S hSf hC _ 0 _ v _ rfl hn (W.frame _ _ _ hst' fun b hbf o e=>ku b o (fun z=>hSf (by rw [← z];exact hbf)) e) hP (hC _ _ hCs fun b o hw hbS e=>ku b o hbS (hk' b o hw e)) (Heap.get?_update_self _ hS' rfl) fun v' h'' tk' hP' hk'' => ?_⟩
  exact hR v' h'' tk' hP' fun b o hw hbS e=>hk'' b o hw hbS (ku b o hbS (hk' b o hw e))
theorem call_minH {x:Value} {Q:Value→Shared→Prop}
    (h:wpAny (model prog w) A.in1 (pyIter x) (fun it s₂ => ∃ I fp wr n P St bt C,it = .ref I∧Walks prog w A.in1 I fp wr n P St∧St 0 s₂.heap∧(∀ b∈fp,b < s₂.heap.objs.size)∧0 < n∧CmpH prog w A.in1 C P bt∧C s₂.heap∧(∀ h h',C h→KeptBut wr s₂.heap.objs.size h h'→C h')∧(∀ h o,C h→C (h.push o)) ∧
      ∀ v h' tk,P (argBest bt (n - 1)) v→(∀ b o,b ∉ wr→s₂.heap.get? b=some o→h'.get? b=some o)→Q v { s₂ with heap:=h',toks:=tk }) E s) :
    wpAny (model prog w) A (call (.builtin "min") [x]) Q E s:=by
  have hname:(toString "min" ++ toString ".loop" : String) = "min.loop" := by decide
  refine call_function_tree F.kind_min F.plain_min F.entry_min (F.args_min1 _) ?_
  refine (show wpAny _ A.in1 (Builtin.Builtins.bindParams "min" ["key", "default"] 0 ⟨[], []⟩ >>= _) _ _ s from wpAny_bind (wpAny_of_eq (show Builtin.Builtins.bindParams "min" ["key", "default"] 0 ⟨[], []⟩=pure [none,none] from rfl) ?_))
  refine wpAny_bind (wpAny_pure (wpAny_bind (wpAny_mono h (fun it s₂ h₂ => ?_) fun _ _ e=>e)))
  obtain ⟨I,fp,wr,n,P,St,bt,C,rfl,W,hst,hfp,hn,hcmp,hC0,hC,hCp,hQ⟩:=h₂
  refine wpAny_bind (wpAny_newObj_type ?_)
  have hSf:s₂.heap.objs.size ∉ fp:=fun hm=>Nat.lt_irrefl _ (hfp _ hm)
  rw [hname]
  refine wpAny_pure ⟨plainId_quiet F.plain_min_loop _,minH_first W hcmp s₂.heap.objs.size hSf hC hn (W.frame _ _ _ hst fun b _ o e=>Heap.get?_push_of_some _ e) (hCp _ _ hC0) (Heap.get?_push_size _ rfl) fun v h' tk hP hk => ?_⟩
  refine hQ v h' tk hP fun b o hw e=>hk b o hw (fun z => ?_) (Heap.get?_push_of_some _ e)
  have:=Heap.lt_size e
  rw [z] at this
  exact absurd this (Nat.lt_irrefl _)
end
end L2
namespace L2
open PySem PySem.Spec PyProof.Rows
theorem best_of {bt:Nat→Nat→Bool} (irr:∀ i,bt i i=false) (tr:∀ i j k,bt i j=true→bt j k=true→bt i k=true):∀ m,argBest bt m≤m∧∀ j,j≤m→bt j (argBest bt m)=false
  | 0=>⟨Nat.le_refl _,fun j hj=>by rw [show j=0 by omega];exact irr 0⟩
  | m+1=>by
    obtain ⟨h1,h2⟩:=best_of irr tr m
    cases e:bt (m+1) (argBest bt m) with
    | true =>
      have eb:argBest bt (m+1)=m+1:=by rw [argBest,e];rfl
      rw [eb]
      refine ⟨Nat.le_refl _,fun j hj => ?_⟩
      rcases Nat.lt_or_eq_of_le hj with q | q
      · cases e2:bt j (m+1) with
        | false=>rfl
        | true=>have:=tr j (m+1) _ e2 e;rw [h2 j (by omega)] at this;cases this
      · rw [q];exact irr _
    | false =>
      have eb:argBest bt (m+1)=argBest bt m:=by rw [argBest,e];rfl
      rw [eb]
      refine ⟨by omega,fun j hj => ?_⟩
      rcases Nat.lt_or_eq_of_le hj with q | q
      · exact h2 j (by omega)
      · rw [q];exact e
theorem lexI_irr:∀ a:List Int,HT.lexLt a a=false
  | []=>rfl
  | x :: a=>by rw [HT.lexLt_cons,if_pos rfl];exact lexI_irr a
theorem lexI_tr:∀ {a b c:List Int},HT.lexLt a b=true→HT.lexLt b c=true→HT.lexLt a c=true
  | [], [],_,h,_=>by cases h
  | [],_ :: _, [],_,h=>by cases h
  | [],_ :: _,_ :: _,_,_=>rfl
  | _ :: _, [],_,h,_=>by cases h
  | _ :: _,_ :: _, [],_,h=>by cases h
  | x :: a,y :: b,z :: c,h,h'=>by
    rw [HT.lexLt_cons] at h h' ⊢
    by_cases e1:x=y
    · rw [if_pos e1] at h
      by_cases e2:y=z
      · rw [if_pos e2] at h'
        rw [if_pos (e1.trans e2)];exact lexI_tr h h'
      · rw [if_neg e2] at h'
        rw [if_neg (fun q=>e2 (e1 ▸ q))]
        rw [e1];exact h'
    · rw [if_neg e1] at h
      have h:=of_decide_eq_true h
      by_cases e2:y=z
      · rw [if_neg (fun q=>e1 (q.trans e2.symm))]
        exact decide_eq_true (by omega)
      · rw [if_neg e2] at h'
        have h':=of_decide_eq_true h'
        rw [if_neg (by omega)]
        exact decide_eq_true (by omega)
inductive J_minVT (Q:VK) (x:V) (H1:Hp):Prop
  | mk (a:Addr) (kvs:List (Key × V)) (F:Nat→List Int) (e:x = .ref a) (ea:H1 a=some (.dK kvs)) (hn:0 < kvs.length) (hF:∀ i kv,kvs[i]? = some kv→∃ p,kv.2 = .ref p∧H1 p=some (.tup ((F i).map V.int)))
    (q:∀ i kv,kvs[i]? = some kv→(∀ j,j < kvs.length→HT.lexLt (F j) (F i)=false)→Q kv.2 H1):J_minVT Q x H1
noncomputable def tMinVT (td:TE):TE:=fun σ H Q=>td σ H fun x H1=>J_minVT Q x H1
inductive J_minVI (Q:VK) (x:V) (H1:Hp):Prop
  | mk (a:Addr) (kvs:List (Key × V)) (F:Nat→Int) (e:x = .ref a) (ea:H1 a=some (.dK kvs)) (hn:0 < kvs.length) (hF:∀ (i:Nat) (kv:Key × V),kvs[i]? = some kv→kv.2 = .int (F i))
    (q:∀ i,i < kvs.length→(∀ j,j < kvs.length→F i≤F j)→Q (.int (F i)) H1):J_minVI Q x H1
noncomputable def tMinVI (td:TE):TE:=fun σ H Q=>td σ H fun x H1=>J_minVI Q x H1
section
variable {X:Cx} {o:Expr} {td:TE} {np apos cpos pos:Pos}
theorem minV_of {pins:List (Addr × Obj)} {σ : St} {H:Hp} {s:Shared} {Q:VK} (hc:X.calm=true) (hg:Gl X "min") (hm:X.mg "min" = none) (I:Inv X pins σ H s) {R:V→Hp→Prop} (ho:wpAny (model X.prog X.w) X.A (eval o X.env) (EP X pins σ R) X.xe s)
    (hbase:attributeBase o "values" X.env (eval o X.env)=eval o X.env) (hline:(apos.endLine == cpos.line)=true)
    (hR:∀ x H1 s1,R x H1→Inv X pins σ H1 s1→∃ a kvs,x = .ref a∧H1 a=some (.dK kvs)∧0 < kvs.length∧∀ vs,KV kvs vs→∃ bt C,CmpH X.prog X.w X.A.in1 C (fun i v=>∃ k,vs[i]? = some (k,v)) bt∧C s1.heap∧(∀ h h',C h→(∀ b o,b < s1.heap.objs.size→h.get? b=some o→h'.get? b=some o)→C h') ∧
      ∀ v k,vs[argBest bt (vs.length - 1)]? = some (k,v)→∃ y,RelV y v∧Q y H1) :
    wpAny (model X.prog X.w) X.A (eval (.Call (.Name "min" np) [.Call (.Attribute o "values" apos) [] [] cpos] [] pos) X.env) (EP X pins σ Q) X.xe s:=by
  refine wpAny_Call_Name_kw (ld_blt I hg hm boot_min_ ?_ (by decide) (by decide))
  refine PyProof.Rows.callWith_builtin1 ?_ rfl rfl
  rw [show starEach [.Call (.Attribute o "values" apos) [] [] cpos] X.env = [(false,eval (.Call (.Attribute o "values" apos) [] [] cpos) X.env)] from rfl]
  refine Calls.spliced_cons ?_
  refine wpAny_Call_method0_late hbase hline (thn ho fun v s1 ⟨x,H1,I1,r1,q1⟩ => ?_)
  obtain ⟨a,kvs,e,ea,hn,q⟩:=hR x H1 s1 q1 I1
  subst e
  obtain rfl:v=Value.ref a:=r1
  obtain ⟨z,hd,vs,rel,dd⟩:=dk_of I1.hok ea
  obtain ⟨ep,hat⟩:=dd.dictAt
  obtain ⟨bt,C,hcmp,hC0,hC,q⟩:=q vs rel
  have hob:∀ b,Value.ref a = .ref b→∃ o',s1.heap.get? b=some o'∧o'.dict=none:=fun b e=>by
    cases e
    obtain ⟨o',es,h1,h2,_⟩:=hat
    exact ⟨o',h1,h2.2.1⟩
  refine ⟨"dict", "dict.values",PySem.F.plainAttrs_dict,PySem.F.slot_dict_values,PySem.F.type_dict_values,dd.typeIs,hob,Calls.callWith_builtin rfl (PySem.evalArgs_none ?_)⟩
  refine call_meetsIn PySem.F.slot_dict_values dd.typeIs PySem.F.entry_dict_values (PySem.F.args_dict_values_1 _) (meets_dict_values (mixKind X.prog X.w) a hd) ⟨⟨vs,dd⟩,?_⟩
  refine Calls.spliced_nil ?_
  have hlt:a < s1.heap.objs.size:=by obtain ⟨o',es,h1,_⟩:=hat;exact Heap.lt_size h1
  have kp:∀ b o',s1.heap.get? b=some o'→(s1.heap.push { cls := .type "dict_values",data := .fields #[.ref a] }).get? b=some o':=fun b o' e=>Heap.get?_push_of_some _ e
  refine call_minH ?_
  refine wpAny_pyIter_values (knd:=mixKind X.prog X.w) (d:=a) (kvs:=vs) (ep:=ep) ⟨_,Heap.get?_push_size _ rfl,rfl,rfl⟩ (hat.at' fun o e=>kp _ _ e) ?_
  have hs2:(s1.heap.push { cls := .type "dict_values",data := .fields #[.ref a] }).objs.size=s1.heap.objs.size+1:=Heap.size_push ..
  have kp2:∀ b o',s1.heap.get? b=some o'→((s1.heap.push { cls := .type "dict_values",data := .fields #[.ref a] }).push { cls := .type "dict_valueiterator",data := .fields #[.ref a,.int 0 0,.int vs.length 0,.int ep 0] }).get? b=some o':=fun b o' e=>Heap.get?_push_of_some _ (kp b o' e)
  refine ⟨_,_, [(s1.heap.push { cls := .type "dict_values",data := .fields #[.ref a] }).objs.size],vs.length,_,_,bt,C,rfl,Walks.dictValues (knd:=mixKind X.prog X.w) (A:=X.A.in1) (I.ok.hd hc) _ a (by rw [hs2];exact Nat.ne_of_lt (Nat.lt_succ_of_lt hlt)) vs ep,⟨⟨_,Heap.get?_push_size _ rfl,rfl,rfl⟩,hat.at' fun o e=>kp2 _ _ e⟩,fun b hb => ?_,by rw [← rel.length];exact hn,hcmp,hC _ _ hC0 fun b o _ e=>kp2 b o e,fun h h' hh hk=>hC h h' hh fun b o hb e => ?_,fun h o hh=>hC h _ hh fun b o' _ e=>Heap.get?_push_of_some _ e,fun v h' tk hP hk => ?_⟩
  · have e3:=Heap.size_push (s1.heap.push { cls := .type "dict_values",data := .fields #[.ref a] }) { cls := .type "dict_valueiterator",data := .fields #[.ref a,.int 0 0,.int vs.length 0,.int ep 0] }
    show b < (Heap.push _ _).objs.size
    rw [e3,hs2]
    rcases List.mem_cons.mp hb with rfl | hb
    · rw [hs2];exact Nat.lt_succ_self _
    · rw [List.mem_singleton.mp hb];exact Nat.lt_succ_of_lt (Nat.lt_succ_of_lt hlt)
  · refine hk b o (fun z => ?_) ?_ e
    · rw [List.mem_singleton.mp z,hs2] at hb;omega
    · intro z
      have e3:=Heap.size_push (s1.heap.push { cls := .type "dict_values",data := .fields #[.ref a] }) { cls := .type "dict_valueiterator",data := .fields #[.ref a,.int 0 0,.int vs.length 0,.int ep 0] }
      have z:b=(Heap.push (s1.heap.push { cls := .type "dict_values",data := .fields #[.ref a] }) { cls := .type "dict_valueiterator",data := .fields #[.ref a,.int 0 0,.int vs.length 0,.int ep 0] }).objs.size:=z
      rw [e3,hs2] at z
      omega
  · obtain ⟨k,hP⟩:=hP
    obtain ⟨y,ry,qy⟩:=q v k hP
    refine ⟨y,H1,?_,ry,qy⟩
    exact I1.kept fun b o' e=>hk b o' (fun z=>by
      have:=Heap.lt_size e
      rw [List.mem_singleton.mp z,hs2] at this;exact absurd this (Nat.not_lt_of_le (Nat.le_succ _))) (kp2 b o' e)
theorem pe_minVT (hu:X.A.units+1 < cLine) (hc:X.calm=true) (hg:Gl X "min") (hm:X.mg "min" = none) (ho:PE X o td) (hbase:attributeBase o "values" X.env (eval o X.env)=eval o X.env:=by rfl) (hline:(apos.endLine == cpos.line)=true:=by rfl) :
    PE X (.Call (.Name "min" np) [.Call (.Attribute o "values" apos) [] [] cpos] [] pos) (tMinVT td):=by
  intro pins s σ H Q I h
  refine minV_of hc hg hm I (ho pins s σ H _ I h) hbase hline fun x H1 s1 q1 I1 => ?_
  obtain ⟨a,kvs,F,rfl,ea,hn,hF,q⟩:=q1
  refine ⟨a,kvs,rfl,ea,hn,fun vs rel => ?_⟩
  have hl:=rel.length
  have at_:∀ (i:Nat) (k:Key) (v:Value),vs[i]? = some (k,v)→∃ p,v=Value.ref p∧H1 p=some (.tup ((F i).map V.int))∧∃ kv,kvs[i]? = some kv∧kv.2 = .ref p:=fun i k v e=>by
    obtain ⟨kv,hkv,rv⟩:=rel.val_at e
    obtain ⟨p,ep,hp⟩:=hF i kv hkv
    rw [ep] at rv
    exact ⟨p,rv,hp,kv,hkv,ep⟩
  refine ⟨fun i j=>HT.lexLt (F i) (F j),fun h=>∀ i k v,vs[i]? = some (k,v)→∃ p its,v=Value.ref p∧p < s1.heap.objs.size∧IsTup h p its.toArray∧IntsAre its (F i),?_,?_,?_,?_⟩
  · rintro i j vi vj s' Q' E' hC ⟨ki,hi⟩ ⟨kj,hj⟩ hq
    obtain ⟨p,its,rfl,_,p1,i1⟩:=hC i ki vi hi
    obtain ⟨p',its',rfl,_,p2,i2⟩:=hC j kj vj hj
    exact HT.lt_tupInts (A:=X.A.in1) p1 p2 i1 i2 hu hq
  · intro i k v e
    obtain ⟨p,ev,hp,_⟩:=at_ i k v e
    obtain ⟨its,rv,pt,_⟩:=I1.tuple (SqT.of hp)
    refine ⟨p,its,ev,?_,pt,intsAre_of rv⟩
    obtain ⟨o,e,_⟩:=pt
    exact Heap.lt_size e
  · intro h h' hC hk i k v e
    obtain ⟨p,its,ev,lt,⟨o,e1,e2⟩,ii⟩:=hC i k v e
    exact ⟨p,its,ev,lt,⟨o,hk p o lt e1,e2⟩,ii⟩
  · intro v k e
    obtain ⟨p,ev,hp,kv,hkv,ekv⟩:=at_ _ k v e
    obtain ⟨h1,h2⟩:=best_of (bt:=fun i j=>HT.lexLt (F i) (F j)) (fun i=>lexI_irr (F i)) (fun i j k=>lexI_tr) (vs.length - 1)
    refine ⟨kv.2,by rw [ekv,ev];rfl,q _ kv hkv fun j hj=>h2 j (by omega)⟩
theorem pe_minVI (hc:X.calm=true) (hg:Gl X "min") (hm:X.mg "min" = none) (ho:PE X o td) (hbase:attributeBase o "values" X.env (eval o X.env)=eval o X.env:=by rfl) (hline:(apos.endLine == cpos.line)=true:=by rfl) :
    PE X (.Call (.Name "min" np) [.Call (.Attribute o "values" apos) [] [] cpos] [] pos) (tMinVI td):=by
  intro pins s σ H Q I h
  refine minV_of hc hg hm I (ho pins s σ H _ I h) hbase hline fun x H1 s1 q1 I1 => ?_
  obtain ⟨a,kvs,F,rfl,ea,hn,hF,q⟩:=q1
  refine ⟨a,kvs,rfl,ea,hn,fun vs rel => ?_⟩
  have hl:=rel.length
  have at_:∀ (i:Nat) (k:Key) (v:Value),vs[i]? = some (k,v)→∃ t,v=Value.int (F i) t:=fun i k v e=>by
    obtain ⟨kv,hkv,rv⟩:=rel.val_at e
    rw [hF i kv hkv] at rv
    exact rv
  refine ⟨fun i j=>decide (F i < F j),fun _=>True,?_,trivial,fun _ _ _ _=>trivial,?_⟩
  · rintro i j vi vj s' Q' E' _ ⟨ki,hi⟩ ⟨kj,hj⟩ hq
    obtain ⟨t,rfl⟩:=at_ i ki vi hi
    obtain ⟨t',rfl⟩:=at_ j kj vj hj
    exact HT.rcLt_int _ _ _ _ _ _ _ _ _ _ hq
  · intro v k e
    obtain ⟨t,rfl⟩:=at_ _ k v e
    obtain ⟨h1,h2⟩:=best_of (bt:=fun i j=>decide (F i < F j)) (fun i=>decide_eq_false (Int.lt_irrefl _)) (fun i j k a b=>decide_eq_true (Int.lt_trans (of_decide_eq_true a) (of_decide_eq_true b))) (vs.length - 1)
    refine ⟨.int _,⟨t,rfl⟩,q _ (by omega) fun j hj => ?_⟩
    have:=of_decide_eq_false (h2 j (by omega))
    omega
end
end L2
namespace L2
open PySem PySem.Spec PyProof.Rows
theorem comp_new {K:PySem.W.Frag} {a:Addr} {xs:List V} {te:TE} {σ : St} {caps:List (Str × Nat)} {H:Hp} {Q:VK} (ob:HO) (hS:SqL K H a xs) (hz:xs.length≤1000)
    (hel:∀ x,x∈xs→∀ H',Same H H'→∀ Q':VK,(∀ b H'',H' b=none→Same H' H''→H'' b=some ob→Q' (.ref b) H'')→te (some x :: capt σ caps) H' Q')
    (hq:∀ D H' (ads:List Addr),H D=none→Same H H'→H' D=some (.lst (ads.map V.ref))→ads.length=xs.length→ads.Nodup→(∀ b∈ads,H b=none∧H' b=some ob∧b≠D)→Q (.ref D) H') :
    CompBody (Itl K a) (gName 0) te (List.replicate 1 none ++ capt σ caps) H Q:=by
  intro D hD
  refine ⟨fun i m τ zs H'=>m=xs.length - i∧i≤xs.length∧(∃ o, τ = o :: capt σ caps)∧Same H H'∧H' D=some (.lst zs)∧∃ ads:List Addr,zs=ads.map V.ref∧ads.length=i∧ads.Nodup∧∀ b∈ads,H b=none∧H' b=some ob∧b≠D,
    ⟨xs.length,by simp,Nat.zero_le _,⟨none,rfl⟩,same_new hD _,upd_same, [],rfl,rfl,List.nodup_nil,fun b hb=>nomatch hb⟩,?_⟩
  rintro i m τ zs H' ⟨rfl,hi,⟨o,rfl⟩,sm,hDl,ads,rfl,hlen,hnd,hall⟩
  refine ⟨hDl,?_⟩
  by_cases hlt:i < xs.length
  · refine .inr ⟨⟨xs,xs[i],sm.seq hS,by simp [hlt]⟩,?_,fun x H'' y => ?_⟩
    · rw [List.length_map,hlen];exact small1000 (by omega)
    · obtain ⟨e,y⟩:=y
      subst e
      have hx:=y xs (sm.seq hS)
      show te (some x :: capt σ caps) _ _
      refine hel x (List.mem_of_getElem? hx) _ sm _ fun b H2 hb s2 hb2 => ?_
      have hD2:=s2 _ _ hDl
      have nbD:b≠D:=fun z=>by rw [z,hDl] at hb;cases hb
      have hbH:H b=none:=sm.free hb
      refine ⟨hD2,xs.length - (i+1),by omega,rfl,hlt,⟨_,rfl⟩,(sm.trans s2).put hD,upd_same,ads ++ [b],by rw [List.map_append];rfl,by rw [List.length_append,hlen];rfl,?_,fun c hc => ?_⟩
      · rw [List.nodup_append]
        refine ⟨hnd,List.nodup_cons.mpr ⟨List.not_mem_nil,List.nodup_nil⟩,fun p hp q hq e => ?_⟩
        rw [e,List.mem_singleton.mp hq] at hp
        have:=(hall b hp).2.1
        rw [hb] at this;cases this
      · rcases List.mem_append.mp hc with hc | hc
        · obtain ⟨h1,h2,h3⟩:=hall c hc
          exact ⟨h1,by rw [upd_ne h3];exact s2 _ _ h2,h3⟩
        · rw [List.mem_singleton.mp hc]
          exact ⟨hbH,by rw [upd_ne nbD];exact hb2,nbD⟩
  · have e:i=xs.length:=by omega
    subst e
    exact .inl ⟨⟨xs,sm.seq hS,Nat.le_refl _⟩,hq D H' ads hD sm hDl hlen hnd hall⟩
end L2
namespace Sw
open PySem L2
noncomputable abbrev WEd:=Nat × Nat × Nat
noncomputable def sumTo (f:Nat→Nat):Nat→Nat
  | 0=>0
  | n+1=>sumTo f n+f n
theorem sumTo_le {f g:Nat→Nat}:∀ {n:Nat},(∀ k,k < n→f k≤g k)→sumTo f n≤sumTo g n
  | 0,_=>Nat.le_refl _
  | n+1,h=>by
    have h1:=sumTo_le (n:=n) fun k hk=>h k (by omega)
    have h2:=h n (by omega)
    show sumTo f n+f n≤sumTo g n+g n
    omega
inductive Der (ts:List Tm) (es:List WEd):Nat→Nat→Nat→Prop
  | refl (a:Nat):Der ts es a a 0
  | edge {a b w:Nat}:(a,b,w)∈es→Der ts es a b w
  | symm {a b n:Nat}:Der ts es a b n→Der ts es b a n
  | trans {a b c n m:Nat}:Der ts es a b n→Der ts es b c m→Der ts es a c (n+m)
  | like {a b:Nat} {x:Str} {as bs:List Nat} (f:Nat→Nat):ts[a]? = some (.of x as)→ts[b]? = some (.of x bs)→as.length=bs.length→(∀ k u v:Nat,as[k]? = some u→bs[k]? = some v→Der ts es u v (f k))→Der ts es a b (1+sumTo f as.length)
noncomputable abbrev Mx:=Nat→Nat→Option Nat
noncomputable def Lt (M:Mx) (a b m:Nat):Prop := ∃ k,M a b=some k∧k≤m
theorem Lt.le {M:Mx} {a b m m':Nat} (h:Lt M a b m) (hm:m≤m'):Lt M a b m':=by
  obtain ⟨k,e,hk⟩:=h
  exact ⟨k,e,Nat.le_trans hk hm⟩
structure GoodM (ts:List Tm) (es:List WEd) (n:Nat) (M:Mx):Prop where
  diag:∀ a,a < n→M a a=some 0
  symm:∀ a b,M a b=M b a
  edge:∀ a b w,(a,b,w)∈es→Lt M a b w
  tri:∀ a b c k m,M a b=some k→M b c=some m→Lt M a c (k+m)
  like:∀ a b x as bs (f:Nat→Nat),ts[a]? = some (.of x as)→ts[b]? = some (.of x bs)→as.length=bs.length→(∀ k u v:Nat,as[k]? = some u→bs[k]? = some v→Lt M u v (f k))→Lt M a b (1+sumTo f as.length)
theorem good_der {ts:List Tm} {es:List WEd} {M:Mx} (g:GoodM ts es ts.length M) (he:∀ a b w,(a,b,w)∈es→a < ts.length∧b < ts.length) (harm:Arms ts) {a b n:Nat} (h:Der ts es a b n):(a=b∧ts.length≤a)∨Lt M a b n:=by
  induction h with
  | refl a =>
    by_cases ha:a < ts.length
    · exact .inr ⟨0,g.diag a ha,Nat.le_refl _⟩
    · exact .inl ⟨rfl,by omega⟩
  | edge h=>exact .inr (g.edge _ _ _ h)
  | symm _ ih =>
    rcases ih with ⟨rfl,hh⟩ | ⟨k,e,hk⟩
    · exact .inl ⟨rfl,hh⟩
    · exact .inr ⟨k,by rw [g.symm];exact e,hk⟩
  | @trans a b c n m h1 h2 ih1 ih2 =>
    rcases ih1 with ⟨rfl,h⟩ | ⟨k,e,hk⟩
    · rcases ih2 with ⟨rfl,_⟩ | ⟨k,e,hk⟩
      · exact .inl ⟨rfl,h⟩
      · exact .inr ⟨k,e,by omega⟩
    · rcases ih2 with ⟨rfl,h⟩ | ⟨k2,e2,hk2⟩
      · exact .inr ⟨k,e,by omega⟩
      · obtain ⟨k3,e3,hk3⟩:=g.tri _ _ _ _ _ e e2
        exact .inr ⟨k3,e3,by omega⟩
  | @like a b x as bs f h1 h2 hl hk ih =>
    refine .inr (g.like a b x as bs f h1 h2 hl fun k u v hu hv => ?_)
    rcases ih k u v hu hv with ⟨rfl,h⟩ | h
    · have:=harm a x as h1 u (List.mem_of_getElem? hu)
      have:=(List.getElem?_eq_some_iff.mp h1).1
      omega
    · exact h
noncomputable def distF (ts:List Tm) (es:List WEd) (a b:Nat):Option Nat :=
  @dite _ (∃ n,Der ts es a b n∧∀ m,Der ts es a b m→n≤m) (Classical.propDecidable _) (fun h=>some (Classical.choose h)) fun _=>none
theorem least_ex {p:Nat→Prop}:(∃ n,p n)→∃ n,p n∧∀ m,p m→n≤m:=fun ⟨n,h⟩=>by
  induction n using Nat.strongRecOn with
  | ind n ih =>
    by_cases hx:∃ m,m < n∧p m
    · obtain ⟨m,hm,hp⟩:=hx
      exact ih m hm hp
    · exact ⟨n,h,fun m hp=>Nat.le_of_not_lt fun z=>hx ⟨m,z,hp⟩⟩
theorem dist_some {ts:List Tm} {es:List WEd} {a b n:Nat} (h:Der ts es a b n) (hm:∀ m,Der ts es a b m→n≤m):distF ts es a b=some n:=by
  have ex:∃ n,Der ts es a b n∧∀ m,Der ts es a b m→n≤m:=⟨n,h,hm⟩
  unfold distF
  rw [dif_pos ex]
  have:=Classical.choose_spec ex
  congr 1
  exact Nat.le_antisymm (this.2 n h) (hm _ this.1)
theorem dist_spec {ts:List Tm} {es:List WEd} {a b n:Nat} (h:distF ts es a b=some n):Der ts es a b n∧∀ m,Der ts es a b m→n≤m:=by
  unfold distF at h
  split at h
  · rename_i ex
    have:=Classical.choose_spec ex
    rw [Option.some.inj h] at this
    exact this
  · cases h
theorem dist_none {ts:List Tm} {es:List WEd} {a b:Nat} (h:distF ts es a b=none) {n:Nat} (d:Der ts es a b n):False:=by
  obtain ⟨k,h1,h2⟩:=least_ex ⟨n,d⟩
  rw [dist_some h1 h2] at h
  cases h
theorem good_dist {ts:List Tm} {es:List WEd} {M:Mx} (g:GoodM ts es ts.length M) (he:∀ a b w,(a,b,w)∈es→a < ts.length∧b < ts.length) (harm:Arms ts) (sound:∀ a b n,M a b=some n→Der ts es a b n) {a b:Nat} (ha:a < ts.length):M a b=distF ts es a b:=by
  cases e:M a b with
  | some n =>
    symm
    refine dist_some (sound a b n e) fun m hm => ?_
    rcases good_der g he harm hm with ⟨rfl,h⟩ | ⟨k,ek,hk⟩
    · omega
    · rw [e] at ek;cases ek;exact hk
  | none =>
    symm
    cases e2:distF ts es a b with
    | none=>rfl
    | some n =>
      rcases good_der g he harm (dist_spec e2).1 with ⟨rfl,h⟩ | ⟨k,ek,hk⟩
      · omega
      · rw [e] at ek;cases ek
theorem der_eqv {ts:List Tm} {es:List WEd} {a b n:Nat} (d:Der ts es a b n):Eqv ts (es.map fun e=>(e.1,e.2.1)) a b:=by
  induction d with
  | refl a=>exact .refl a
  | edge m=>exact .edge (List.mem_map.mpr ⟨_,m,rfl⟩)
  | symm _ ih=>exact .symm ih
  | trans _ _ i1 i2=>exact .trans i1 i2
  | like f h1 h2 hl _ ih=>exact .cong h1 h2 hl ih
end Sw
namespace Sw
open PySem L2
structure DE where
  a:Nat
  b:Nat
  k:Nat
  f:Bool
noncomputable def DE.Pr (x:DE) (p q:Nat):Prop:=(x.a=p∧x.b=q)∨(x.a=q∧x.b=p)
theorem DE.Pr.symm {x:DE} {p q:Nat} (h:x.Pr p q):x.Pr q p:=h.elim .inr .inl
structure SS where
  L:Mx
  W:Mx
  Hd:Nat→Option (Nat × Nat)
  Sg:Mx
  St:Nat→List (Nat × Nat)
  dn:List DE
noncomputable def SS.Dn (s:SS) (p q k:Nat):Prop := ∃ x∈s.dn,x.Pr p q∧x.k=k
noncomputable def SS.Two (s:SS) (a b k:Nat):Prop := ∃ q k1 k2,k=k1+k2∧1≤k1∧1≤k2∧s.Dn a q k1∧s.Dn q b k2
structure SI (ts:List Tm) (es:List WEd) (n:Nat) (s:SS):Prop where
  sym:∀ a b,s.L a b=s.L b a
  diag:∀ a,a < n→s.L a a=some 0
  dom:∀ a b k,s.L a b=some k→a < n∧b < n
  pos:∀ a b k,a≠b→s.L a b=some k→1≤k
  wl:∀ a b k,s.W a b=some k→a < b∧s.L a b=some k
  cov:∀ a b k,a < b→s.L a b=some k→s.W a b=some k∨∃ x∈s.dn,x.a=a∧x.b=b∧x.k=k
  dl:∀ x∈s.dn,x.a < x.b∧s.L x.a x.b=some x.k∧s.W x.a x.b=none
  mono:∀ x∈s.dn,∀ c d m,s.W c d=some m→x.k≤m
  ord:s.dn.Pairwise fun x y=>x.k≤y.k
  st:∀ b c k,(c,k)∈s.St b↔∃ x∈s.dn,x.Pr b c∧x.k=k∧x.f=true
  two:∀ a b k,s.W a b=some k→s.Sg a b=some k∨s.Two a b k
  twoD:∀ x∈s.dn,x.f=true∨s.Two x.a x.b x.k
  sound:∀ a b k,s.L a b=some k→Der ts es a b k
structure HdOk (s:SS):Prop where
  hn:∀ a,s.Hd a=none→∀ b,s.W a b=none
  hs:∀ a k b,s.Hd a=some (k,b)→s.W a b=some k∧∀ c m,s.W a c=some m→k≤m
noncomputable def LeM (L L':Mx):Prop := ∀ a b k,L a b=some k→Lt L' a b k
theorem LeM.refl (L:Mx):LeM L L:=fun a b k e=>⟨k,e,Nat.le_refl _⟩
theorem LeM.trans {L1 L2 L3:Mx} (h:LeM L1 L2) (h':LeM L2 L3):LeM L1 L3:=fun a b k e=>by
  obtain ⟨m,e1,h1⟩:=h a b k e
  obtain ⟨m2,e2,h2⟩:=h' a b m e1
  exact ⟨m2,e2,by omega⟩
theorem Lt.mono {L L':Mx} {a b k:Nat} (h:Lt L a b k) (le:LeM L L'):Lt L' a b k:=by
  obtain ⟨m,e,hm⟩:=h
  exact (le a b m e).le hm
theorem SI.dnL {ts:List Tm} {es:List WEd} {n:Nat} {s:SS} (h:SI ts es n s) {p q k:Nat} (d:s.Dn p q k):s.L p q=some k∧p≠q:=by
  obtain ⟨x,hx,hp,rfl⟩:=d
  obtain ⟨h1,h2,_⟩:=h.dl x hx
  rcases hp with ⟨rfl,rfl⟩ | ⟨rfl,rfl⟩
  · exact ⟨h2,by omega⟩
  · exact ⟨by rw [h.sym];exact h2,by omega⟩
noncomputable def setM (M:Mx) (a b k:Nat):Mx:=fun x y=>if x=a∧y=b then some k else M x y
theorem setM_at {M:Mx} {a b k:Nat}:setM M a b k a b=some k:=if_pos ⟨rfl,rfl⟩
theorem setM_ne {M:Mx} {a b k x y:Nat} (h:¬ (x=a∧y=b)):setM M a b k x y=M x y:=if_neg h
noncomputable def headLess:Option (Nat × Nat)→Nat→Bool
  | none,_=>true
  | some p,k=>decide (k < p.1)
theorem headLess_iff {o:Option (Nat × Nat)} {k:Nat}:headLess o k=true↔∀ m h,o=some (m,h)→k < m:=by
  cases o with
  | none=>exact ⟨fun _ m h e=>(by cases e),fun _=>rfl⟩
  | some p =>
    obtain ⟨m,h⟩:=p
    show decide (k < m)=true↔_
    rw [decide_eq_true_iff]
    exact ⟨fun z m' h' e=>by cases e;exact z,fun z=>z m h rfl⟩
noncomputable def offerF (s:SS) (a b k:Nat) (sg:Bool):SS :=
  { s with
    L:=setM (setM s.L a b k) b a k
    W:=setM s.W (min a b) (max a b) k
    Hd:=fun x=>if x=min a b∧headLess (s.Hd (min a b)) k=true then some (k,max a b) else s.Hd x
    Sg:=if sg then setM s.Sg (min a b) (max a b) k else s.Sg }
theorem offer_L (s:SS) (a b k:Nat) (sg:Bool) (x y:Nat):(offerF s a b k sg).L x y=if (x=a∧y=b)∨(x=b∧y=a) then some k else s.L x y:=by
  show setM (setM s.L a b k) b a k x y=_
  unfold setM
  by_cases h1:x=b∧y=a
  · rw [if_pos h1,if_pos (.inr h1)]
  · rw [if_neg h1]
    by_cases h2:x=a∧y=b
    · rw [if_pos h2,if_pos (.inl h2)]
    · rw [if_neg h2,if_neg (fun z=>z.elim h2 h1)]
structure OfferOk (ts:List Tm) (es:List WEd) (n:Nat) (s:SS) (a b k:Nat) (sg:Bool):Prop where
  ne:a≠b
  la:a < n
  lb:b < n
  less:∀ m,s.L a b=some m→k < m
  top:∀ x∈s.dn,x.k≤k
  pos:1≤k
  der:Der ts es a b k
  prov:sg=true∨s.Two (min a b) (max a b) k
theorem offer_ok {ts:List Tm} {es:List WEd} {n:Nat} {s:SS} {a b k:Nat} {sg:Bool} (h:SI ts es n s) (hh:HdOk s) (o:OfferOk ts es n s a b k sg):SI ts es n (offerF s a b k sg)∧HdOk (offerF s a b k sg)∧LeM s.L (offerF s a b k sg).L:=by
  have hmm:min a b < max a b:=by have:=o.ne;omega
  have hL:∀ x y,(offerF s a b k sg).L x y=if (x=a∧y=b)∨(x=b∧y=a) then some k else s.L x y:=offer_L s a b k sg
  have hmem:∀ {x y:Nat},x < y→(((x=a∧y=b)∨(x=b∧y=a))↔(x=min a b∧y=max a b)):=fun {x y} hxy=>by
    constructor
    · intro z;rcases z with ⟨rfl,rfl⟩ | ⟨rfl,rfl⟩ <;> omega
    · intro ⟨z1,z2⟩
      rcases Nat.lt_or_ge a b with q | q
      · exact .inl (by omega)
      · exact .inr (by omega)
  have nod:∀ x∈s.dn, ¬ (x.a=min a b∧x.b=max a b):=fun x hx ⟨e1,e2⟩=>by
    obtain ⟨h1,h2,_⟩:=h.dl x hx
    have hk:=o.top x hx
    have h3:s.L a b=some x.k:=by
      rcases Nat.lt_or_ge a b with q | q
      · rw [e1,e2,show min a b=a by omega,show max a b=b by omega] at h2;exact h2
      · rw [e1,e2,show min a b=b by omega,show max a b=a by omega,h.sym] at h2;exact h2
    have:=o.less _ h3
    omega
  refine ⟨⟨?_,?_,?_,?_,?_,?_,?_,?_,h.ord,h.st,?_,h.twoD,?_⟩,⟨?_,?_⟩,?_⟩
  · intro x y
    rw [hL,hL]
    by_cases e:(x=a∧y=b)∨(x=b∧y=a)
    · rw [if_pos e,if_pos (e.elim (fun z => .inr ⟨z.2,z.1⟩) fun z => .inl ⟨z.2,z.1⟩)]
    · rw [if_neg e,if_neg (fun z=>e (z.elim (fun z => .inr ⟨z.2,z.1⟩) fun z => .inl ⟨z.2,z.1⟩)),h.sym]
  · intro x hx
    rw [hL,if_neg (fun z=>by rcases z with ⟨rfl,e⟩ | ⟨rfl,e⟩;exact o.ne e;exact o.ne e.symm)]
    exact h.diag x hx
  · intro x y m e
    rw [hL] at e
    split at e
    · rename_i c
      rcases c with ⟨rfl,rfl⟩ | ⟨rfl,rfl⟩
      · exact ⟨o.la,o.lb⟩
      · exact ⟨o.lb,o.la⟩
    · exact h.dom x y m e
  · intro x y m hne e
    rw [hL] at e
    split at e
    · cases e;exact o.pos
    · exact h.pos x y m hne e
  · intro x y m e
    have e:setM s.W (min a b) (max a b) k x y=some m:=e
    unfold setM at e
    split at e
    · rename_i c
      cases e
      refine ⟨by omega,?_⟩
      rw [hL,if_pos ((hmem (by omega)).mpr c)]
    · rename_i c
      obtain ⟨h1,h2⟩:=h.wl x y m e
      refine ⟨h1,?_⟩
      rw [hL,if_neg (fun z=>c ((hmem h1).mp z))]
      exact h2
  · intro x y m hxy e
    rw [hL] at e
    show setM s.W (min a b) (max a b) k x y=some m∨_
    split at e
    · rename_i c
      have c:=(hmem hxy).mp c
      unfold setM
      rw [if_pos c]
      exact .inl e
    · rename_i c
      rw [setM_ne (fun z=>c ((hmem hxy).mpr z))]
      exact h.cov x y m hxy e
  · intro x hx
    obtain ⟨h1,h2,h3⟩:=h.dl x hx
    have c:=nod x hx
    refine ⟨h1,?_,?_⟩
    · rw [hL,if_neg (fun z=>c ((hmem h1).mp z))];exact h2
    · show setM s.W (min a b) (max a b) k x.a x.b=none
      rw [setM_ne c];exact h3
  · intro x hx c d m e
    have e:setM s.W (min a b) (max a b) k c d=some m:=e
    unfold setM at e
    split at e
    · cases e;exact o.top x hx
    · exact h.mono x hx c d m e
  · intro x y m e
    have e:setM s.W (min a b) (max a b) k x y=some m:=e
    show (if sg then setM s.Sg (min a b) (max a b) k else s.Sg) x y=some m∨s.Two x y m
    unfold setM at e
    split at e
    · rename_i c
      cases e
      obtain ⟨rfl,rfl⟩:=c
      rcases o.prov with e | e
      · rw [e,if_pos rfl,setM_at];exact .inl rfl
      · exact .inr e
    · rename_i c
      have q:=h.two x y m e
      cases sg with
      | false=>exact q
      | true=>rw [if_pos rfl,setM_ne c];exact q
  · intro x y m e
    rw [hL] at e
    split at e
    · rename_i c
      cases e
      rcases c with ⟨rfl,rfl⟩ | ⟨rfl,rfl⟩
      · exact o.der
      · exact .symm o.der
    · exact h.sound x y m e
  · intro x e y
    have e:(if x=min a b∧headLess (s.Hd (min a b)) k=true then some (k,max a b) else s.Hd x)=none:=e
    split at e
    · cases e
    · rename_i c
      have hw:=hh.hn x e
      show setM s.W (min a b) (max a b) k x y=none
      by_cases ex:x=min a b∧y=max a b
      · exact absurd ⟨ex.1,headLess_iff.mpr fun m h z=>by rw [← ex.1,e] at z;cases z⟩ c
      · rw [setM_ne ex];exact hw y
  · intro x m y e
    have e:(if x=min a b∧headLess (s.Hd (min a b)) k=true then some (k,max a b) else s.Hd x)=some (m,y):=e
    split at e
    · rename_i c
      cases e
      obtain ⟨rfl,hc⟩:=c
      refine ⟨setM_at,fun d m e => ?_⟩
      have e:setM s.W (min a b) (max a b) k (min a b) d=some m:=e
      unfold setM at e
      split at e
      · cases e;exact Nat.le_refl _
      · cases hd:s.Hd (min a b) with
        | none=>rw [hh.hn _ hd d] at e;cases e
        | some p =>
          obtain ⟨m',h'⟩:=p
          have:=headLess_iff.mp hc m' h' hd
          have:=(hh.hs _ _ _ hd).2 d m e
          omega
    · rename_i c
      obtain ⟨h1,h2⟩:=hh.hs x m y e
      by_cases ex:x=min a b
      · have nl:¬ k < m:=fun z=>c ⟨ex,headLess_iff.mpr fun m' h' e'=>by rw [← ex,e] at e';cases e';exact z⟩
        have ny:y≠max a b:=fun ey=>by
          rw [ex,ey] at h1
          have:=(h.wl _ _ _ h1).2
          have:s.L a b=some m:=by
            rcases Nat.lt_or_ge a b with q | q
            · rw [show min a b=a by omega,show max a b=b by omega] at this;exact this
            · rw [show min a b=b by omega,show max a b=a by omega,h.sym] at this;exact this
          exact nl (o.less m this)
        refine ⟨?_,fun d m' e' => ?_⟩
        · show setM s.W (min a b) (max a b) k x y=some m
          rw [setM_ne (fun z=>ny z.2)];exact h1
        · have e':setM s.W (min a b) (max a b) k x d=some m':=e'
          unfold setM at e'
          split at e'
          · cases e';omega
          · exact h2 d m' e'
      · refine ⟨?_,fun d m' e' => ?_⟩
        · show setM s.W (min a b) (max a b) k x y=some m
          rw [setM_ne (fun z=>ex z.1)];exact h1
        · have e':setM s.W (min a b) (max a b) k x d=some m':=e'
          rw [setM_ne (fun z=>ex z.1)] at e'
          exact h2 d m' e'
  · intro x y m e
    rw [show Lt (offerF s a b k sg).L x y m=∃ j,(offerF s a b k sg).L x y=some j∧j≤m from rfl,hL]
    split
    · rename_i c
      refine ⟨k,rfl,?_⟩
      have:s.L a b=some m:=by
        rcases c with ⟨rfl,rfl⟩ | ⟨rfl,rfl⟩
        · exact e
        · rw [h.sym];exact e
      exact Nat.le_of_lt (o.less m this)
    · exact ⟨m,e,Nat.le_refl _⟩
end Sw
namespace Sw
open PySem L2
structure RowHead (w:Nat→Option Nat) (hd:Option (Nat × Nat)):Prop where
  hn:hd=none→∀ y,w y=none
  hs:∀ k y,hd=some (k,y)→w y=some k∧∀ c m,w c=some m→k≤m
noncomputable def dropM (M:Mx) (a b:Nat):Mx:=fun x y=>if x=a∧y=b then none else M x y
theorem dropM_some {M:Mx} {a b x y k:Nat} (h:dropM M a b x y=some k):¬ (x=a∧y=b)∧M x y=some k:=by
  unfold dropM at h
  split at h
  · cases h
  · rename_i c;exact ⟨c,h⟩
noncomputable def popF (s:SS) (a b k:Nat) (f:Bool) (hd:Option (Nat × Nat)):SS :=
  { s with
    W:=dropM s.W a b
    Hd:=fun x=>if x=a then hd else s.Hd x
    dn:=s.dn ++ [⟨a,b,k,f⟩]
    St:=fun x=>if f=true then (if x=a then s.St a ++ [(b,k)] else if x=b then s.St b ++ [(a,k)] else s.St x) else s.St x }
theorem SS.Two.more {s s':SS} {a b k:Nat} (h:s.Two a b k) (hd:∀ x∈s.dn,x∈s'.dn):s'.Two a b k:=by
  obtain ⟨q,k1,k2,e,h1,h2,⟨x,hx,px⟩,y,hy,py⟩:=h
  exact ⟨q,k1,k2,e,h1,h2,⟨x,hd x hx,px⟩,y,hd y hy,py⟩
theorem pop_ok {ts:List Tm} {es:List WEd} {n:Nat} {s:SS} {a b k:Nat} {f:Bool} {hd:Option (Nat × Nat)} (h:SI ts es n s) (hh:HdOk s) (hw:s.W a b=some k) (least:∀ c d m,s.W c d=some m→k≤m) (hf:s.Sg a b=some k→f=true)
    (rh:RowHead (fun y=>dropM s.W a b a y) hd):SI ts es n (popF s a b k f hd)∧HdOk (popF s a b k f hd):=by
  obtain ⟨hab,hL⟩:=h.wl a b k hw
  have sub:∀ x∈s.dn,x∈(popF s a b k f hd).dn:=fun x hx=>List.mem_append.mpr (.inl hx)
  have nod:∀ x∈s.dn, ¬ (x.a=a∧x.b=b):=fun x hx ⟨e1,e2⟩=>by
    have:=(h.dl x hx).2.2
    rw [e1,e2,hw] at this
    cases this
  refine ⟨⟨h.sym,h.diag,h.dom,h.pos,?_,?_,?_,?_,?_,?_,?_,?_,h.sound⟩,⟨?_,?_⟩⟩
  · intro x y m e
    exact h.wl x y m (dropM_some e).2
  · intro x y m hxy e
    rcases h.cov x y m hxy e with hq | ⟨z,hz,q⟩
    · by_cases c:x=a∧y=b
      · obtain ⟨rfl,rfl⟩:=c
        rw [hw] at hq
        cases hq
        exact .inr ⟨_,List.mem_append.mpr (.inr (List.mem_singleton_self _)),rfl,rfl,rfl⟩
      · refine .inl ?_
        show dropM s.W a b x y=some m
        unfold dropM
        rw [if_neg c];exact hq
    · exact .inr ⟨z,sub z hz,q⟩
  · intro x hx
    rcases List.mem_append.mp hx with hx | hx
    · obtain ⟨h1,h2,h3⟩:=h.dl x hx
      refine ⟨h1,h2,?_⟩
      show dropM s.W a b x.a x.b=none
      unfold dropM
      split
      · rfl
      · exact h3
    · rw [List.mem_singleton.mp hx]
      refine ⟨hab,hL,?_⟩
      show dropM s.W a b a b=none
      unfold dropM
      rw [if_pos ⟨rfl,rfl⟩]
  · intro x hx c d m e
    have e:=(dropM_some e).2
    rcases List.mem_append.mp hx with hx | hx
    · exact h.mono x hx c d m e
    · rw [List.mem_singleton.mp hx];exact least c d m e
  · show (s.dn ++ [_]).Pairwise _
    rw [List.pairwise_append]
    exact ⟨h.ord,List.pairwise_singleton _ _,fun x hx y hy=>by rw [List.mem_singleton.mp hy];exact h.mono x hx a b k hw⟩
  · intro p c m
    show (c,m)∈(if f=true then (if p=a then s.St a ++ [(b,k)] else if p=b then s.St b ++ [(a,k)] else s.St p) else s.St p)↔∃ x∈s.dn ++ [⟨a,b,k,f⟩],x.Pr p c∧x.k=m∧x.f=true
    have old:(c,m)∈s.St p↔∃ x∈s.dn,x.Pr p c∧x.k=m∧x.f=true:=h.st p c m
    have cut:(∃ x∈s.dn ++ [⟨a,b,k,f⟩],x.Pr p c∧x.k=m∧x.f=true)↔(∃ x∈s.dn,x.Pr p c∧x.k=m∧x.f=true)∨(((a=p∧b=c)∨(a=c∧b=p))∧k=m∧f=true):=by
      constructor
      · rintro ⟨x,hx,q⟩
        rcases List.mem_append.mp hx with hx | hx
        · exact .inl ⟨x,hx,q⟩
        · rw [List.mem_singleton.mp hx] at q;exact .inr q
      · rintro (⟨x,hx,q⟩ | q)
        · exact ⟨x,List.mem_append.mpr (.inl hx),q⟩
        · exact ⟨_,List.mem_append.mpr (.inr (List.mem_singleton_self _)),q⟩
    rw [cut, ← old]
    by_cases ef:f=true
    · rw [if_pos ef]
      by_cases e1:p=a
      · subst e1
        rw [if_pos rfl,List.mem_append,List.mem_singleton]
        constructor
        · rintro (q | q)
          · exact .inl q
          · cases q;exact .inr ⟨.inl ⟨rfl,rfl⟩,rfl,ef⟩
        · rintro (q | ⟨q,rfl,_⟩)
          · exact .inl q
          · rcases q with ⟨_,rfl⟩ | ⟨rfl,q⟩
            · exact .inr rfl
            · omega
      · rw [if_neg e1]
        by_cases e2:p=b
        · subst e2
          rw [if_pos rfl,List.mem_append,List.mem_singleton]
          constructor
          · rintro (q | q)
            · exact .inl q
            · cases q;exact .inr ⟨.inr ⟨rfl,rfl⟩,rfl,ef⟩
          · rintro (q | ⟨q,rfl,_⟩)
            · exact .inl q
            · rcases q with ⟨q,_⟩ | ⟨rfl,_⟩
              · exact absurd q.symm e1
              · exact .inr rfl
        · rw [if_neg e2]
          exact ⟨.inl,fun q=>q.elim id fun ⟨q,_⟩=>by rcases q with ⟨q,_⟩ | ⟨_,q⟩;exact absurd q.symm e1;exact absurd q.symm e2⟩
    · rw [if_neg ef]
      exact ⟨.inl,fun q=>q.elim id fun ⟨_,_,q⟩=>absurd q ef⟩
  · intro x y m e
    rcases h.two x y m (dropM_some e).2 with q | q
    · exact .inl q
    · exact .inr (q.more sub)
  · intro x hx
    rcases List.mem_append.mp hx with hx | hx
    · exact (h.twoD x hx).elim .inl fun q => .inr (q.more sub)
    · rw [List.mem_singleton.mp hx]
      rcases h.two a b k hw with q | q
      · exact .inl (hf q)
      · exact .inr (q.more sub)
  · intro x e y
    show dropM s.W a b x y=none
    have e:(if x=a then hd else s.Hd x)=none:=e
    split at e
    · rename_i c;rw [c];exact rh.hn e y
    · rename_i c
      unfold dropM
      rw [if_neg (fun z=>c z.1)]
      exact hh.hn x e y
  · intro x m y e
    have e:(if x=a then hd else s.Hd x)=some (m,y):=e
    show dropM s.W a b x y=some m∧∀ c m',dropM s.W a b x c=some m'→m≤m'
    split at e
    · rename_i c;rw [c];exact rh.hs m y e
    · rename_i c
      have q:∀ y,dropM s.W a b x y=s.W x y:=fun y=>by unfold dropM;rw [if_neg (fun z=>c z.1)]
      obtain ⟨h1,h2⟩:=hh.hs x m y e
      exact ⟨by rw [q];exact h1,fun c m' e'=>h2 c m' (by rw [← q];exact e')⟩
noncomputable def less (L:Mx) (a b k:Nat):Bool:=match L a b with
  | none=>true
  | some m=>decide (k < m)
theorem less_iff {L:Mx} {a b k:Nat}:less L a b k=true↔∀ m,L a b=some m→k < m:=by
  unfold less
  split
  · rename_i e;exact ⟨fun _ m z=>(by rw [e] at z;cases z),fun _=>rfl⟩
  · rename_i m e
    rw [decide_eq_true_iff]
    exact ⟨fun z m' e'=>by rw [e] at e';cases e';exact z,fun z=>z m e⟩
theorem less_not {L:Mx} {a b k:Nat} (h:less L a b k=false):Lt L a b k:=by
  unfold less at h
  split at h
  · cases h
  · rename_i m e
    exact ⟨m,e,Nat.le_of_not_lt (of_decide_eq_false h)⟩
structure Keep (ts:List Tm) (es:List WEd) (n:Nat) (s s':SS):Prop where
  si:SI ts es n s'
  hd:HdOk s'
  le:LeM s.L s'.L
  dn:s'.dn=s.dn
  st:s'.St=s.St
theorem Keep.refl {ts:List Tm} {es:List WEd} {n:Nat} {s:SS} (h:SI ts es n s) (hh:HdOk s):Keep ts es n s s:=⟨h,hh,LeM.refl _,rfl,rfl⟩
theorem Keep.trans {ts:List Tm} {es:List WEd} {n:Nat} {s s1 s2:SS} (h:Keep ts es n s s1) (h':Keep ts es n s1 s2):Keep ts es n s s2:=⟨h'.si,h'.hd,h.le.trans h'.le,h'.dn.trans h.dn,h'.st.trans h.st⟩
noncomputable def tryF (s:SS) (a b k:Nat) (sg:Bool):SS:=if less s.L a b k=true then offerF s a b k sg else s
theorem try_ok {ts:List Tm} {es:List WEd} {n:Nat} {s:SS} {a b k:Nat} {sg:Bool} (h:SI ts es n s) (hh:HdOk s) (la:a < n) (lb:b < n) (top:∀ x∈s.dn,x.k≤k) (pos:1≤k) (der:Der ts es a b k) (prov:a≠b→sg=true∨s.Two (min a b) (max a b) k) :
    Keep ts es n s (tryF s a b k sg)∧Lt (tryF s a b k sg).L a b k:=by
  unfold tryF
  cases e:less s.L a b k with
  | false=>rw [if_neg (by decide)];exact ⟨Keep.refl h hh,less_not e⟩
  | true =>
    rw [if_pos rfl]
    have hl:=less_iff.mp e
    have ne:a≠b:=fun z=>by subst z;have:=hl 0 (h.diag a la);omega
    obtain ⟨h1,h2,h3⟩:=offer_ok h hh ⟨ne,la,lb,hl,top,pos,der,prov ne⟩
    exact ⟨⟨h1,h2,h3,rfl,rfl⟩,k,by rw [offer_L,if_pos (.inl ⟨rfl,rfl⟩)],Nat.le_refl _⟩
theorem two_norm {s:SS} {a b k:Nat} (h:s.Two a b k):s.Two (min a b) (max a b) k:=by
  rcases Nat.le_total a b with q | q
  · rw [Nat.min_eq_left q,Nat.max_eq_right q];exact h
  · rw [Nat.min_eq_right q,Nat.max_eq_left q]
    obtain ⟨c,k1,k2,e,h1,h2,⟨x,hx,px,ex⟩,y,hy,py,ey⟩:=h
    exact ⟨c,k2,k1,by omega,h2,h1,⟨y,hy,py.symm,ey⟩,x,hx,px.symm,ex⟩
noncomputable def lengthF (a k:Nat) (s:SS) (l:List (Nat × Nat)):SS:=l.foldl (fun s e=>tryF s a e.1 (k+e.2) false) s
theorem length_ok {ts:List Tm} {es:List WEd} {n:Nat} {a b k:Nat}:∀ {l:List (Nat × Nat)} {s:SS},SI ts es n s→HdOk s→s.Dn a b k→(∀ x∈s.dn,x.k≤k)→(∀ e∈l,e∈s.St b) →
    Keep ts es n s (lengthF a k s l)∧∀ e∈l,Lt (lengthF a k s l).L a e.1 (k+e.2)
  | [],s,h,hh,_,_,_=>⟨Keep.refl h hh,fun e he=>nomatch he⟩
  | (c,m) :: l,s,h,hh,d,top,sub=>by
    obtain ⟨x,hx,px,ex,_⟩:=(h.st b c m).mp (sub _ List.mem_cons_self)
    have d2:s.Dn b c m:=⟨x,hx,px,ex⟩
    obtain ⟨l1,n1⟩:=h.dnL d
    obtain ⟨l2,n2⟩:=h.dnL d2
    have p1:=h.pos _ _ _ n1 l1
    have p2:=h.pos _ _ _ n2 l2
    obtain ⟨kp,lt⟩:=try_ok (sg:=false) h hh (h.dom _ _ _ l1).1 (h.dom _ _ _ l2).2 (fun y hy=>Nat.le_trans (top y hy) (Nat.le_add_right k m)) (by omega) (.trans (h.sound _ _ _ l1) (h.sound _ _ _ l2)) (fun _ => .inr (two_norm ⟨b,k,m,rfl,p1,p2,d,d2⟩))
    have d':(tryF s a c (k+m) false).Dn a b k:=by unfold SS.Dn;rw [kp.dn];exact d
    obtain ⟨kp2,lt2⟩:=length_ok (l:=l) kp.si kp.hd d' (by rw [kp.dn];exact top) (by rw [kp.st];exact fun e he=>sub e (List.mem_cons_of_mem _ he))
    refine ⟨kp.trans kp2,fun e he => ?_⟩
    rcases List.mem_cons.mp he with rfl | he
    · exact lt.mono kp2.le
    · exact lt2 e he
noncomputable def FA (s:SS) (m:Nat):Prop := ∀ i j x y,s.dn[i]? = some y→s.dn[j]? = some x→i < j→j < m→y.f=true→∀ p q r,x.Pr p q→y.Pr q r→Lt s.L p r (x.k+y.k)
theorem FA.keep {ts:List Tm} {es:List WEd} {n:Nat} {s s':SS} {m:Nat} (h:FA s m) (k:Keep ts es n s s'):FA s' m:=fun i j x y hi hj lt lm f p q r px py=>by
  rw [k.dn] at hi hj
  exact (h i j x y hi hj lt lm f p q r px py).mono k.le
theorem pr_two {x:DE} {p q a b:Nat} (h:x.Pr p q) (ha:x.a=a) (hb:x.b=b):(p=a∧q=b)∨(p=b∧q=a):=by
  rcases h with ⟨h1,h2⟩ | ⟨h1,h2⟩
  · exact .inl ⟨h1.symm.trans ha,h2.symm.trans hb⟩
  · exact .inr ⟨h2.symm.trans hb,h1.symm.trans ha⟩
theorem settle_ok {ts:List Tm} {es:List WEd} {n:Nat} {s:SS} {a b k:Nat} {f:Bool} {hd:Option (Nat × Nat)} (h:SI ts es n s) (hh:HdOk s) (fa:FA s s.dn.length) (hw:s.W a b=some k) (least:∀ c d m,s.W c d=some m→k≤m) (hf:s.Sg a b=some k→f=true)
    (rh:RowHead (fun y=>dropM s.W a b a y) hd) (s1 s2 s3:SS) (e1:s1=popF s a b k f hd) (e2:s2=lengthF a k s1 (s1.St b)) (e3:s3=lengthF b k s2 (s2.St a)) :
    Keep ts es n s1 s3∧FA s3 s3.dn.length∧s3.dn=s.dn ++ [⟨a,b,k,f⟩]∧LeM s.L s3.L∧(∀ x∈s3.dn,x.k≤k):=by
  obtain ⟨i1,o1⟩:=pop_ok (f:=f) h hh hw least hf rh
  rw [← e1] at i1 o1
  have dn1:s1.dn=s.dn ++ [⟨a,b,k,f⟩]:=by rw [e1];rfl
  have L1:s1.L=s.L:=by rw [e1];rfl
  have top:∀ x∈s1.dn,x.k≤k:=fun x hx=>by
    rw [dn1] at hx
    rcases List.mem_append.mp hx with hx | hx
    · exact h.mono x hx a b k hw
    · rw [List.mem_singleton.mp hx];exact Nat.le_refl _
  have last:(⟨a,b,k,f⟩:DE)∈s1.dn:=by rw [dn1];exact List.mem_append.mpr (.inr (List.mem_singleton_self _))
  obtain ⟨k2,t2⟩:=length_ok (a:=a) (b:=b) (k:=k) (l:=s1.St b) i1 o1 ⟨_,last,.inl ⟨rfl,rfl⟩,rfl⟩ top (fun e he=>he)
  rw [← e2] at k2 t2
  obtain ⟨k3,t3⟩:=length_ok (a:=b) (b:=a) (k:=k) (l:=s2.St a) k2.si k2.hd ⟨_,by rw [k2.dn];exact last,.inr ⟨rfl,rfl⟩,rfl⟩ (by rw [k2.dn];exact top) (fun e he=>he)
  rw [← e3] at k3 t3
  have kk:=k2.trans k3
  have dn3:s3.dn=s.dn ++ [⟨a,b,k,f⟩]:=kk.dn.trans dn1
  refine ⟨kk,?_,dn3,by rw [← L1];exact kk.le,by rw [kk.dn];exact top⟩
  intro i j x y hi hj lt lm fy p q r px py
  rw [dn3] at hi hj lm
  rw [List.length_append,List.length_singleton] at lm
  by_cases ej:j < s.dn.length
  · rw [List.getElem?_append_left ej] at hj
    rw [List.getElem?_append_left (by omega)] at hi
    have:=fa i j x y hi hj lt ej fy p q r px py
    exact this.mono (by rw [← L1];exact kk.le)
  · have ej2:j=s.dn.length:=by omega
    subst ej2
    rw [List.getElem?_concat_length] at hj
    cases hj
    rw [List.getElem?_append_left lt] at hi
    have hy:y∈s1.dn:=by rw [dn1];exact List.mem_append.mpr (.inl (List.mem_of_getElem? hi))
    rcases pr_two px rfl rfl with ⟨ep,eq⟩ | ⟨ep,eq⟩
    · rw [ep]
      rw [eq] at py
      have:=t2 (r,y.k) ((i1.st b r y.k).mpr ⟨y,hy,py,rfl,fy⟩)
      exact this.mono k3.le
    · rw [ep]
      rw [eq] at py
      refine t3 (r,y.k) ?_
      rw [k2.st]
      exact (i1.st a r y.k).mpr ⟨y,hy,py,rfl,fy⟩
theorem tri_ok {ts:List Tm} {es:List WEd} {n:Nat} {s:SS} (h:SI ts es n s) (fa:FA s s.dn.length) (hw:∀ a b,s.W a b=none):∀ a b c k m,s.L a b=some k→s.L b c=some m→Lt s.L a c (k+m):=by
  have at_:∀ a b k,a≠b→s.L a b=some k→∃ (i:Nat) (x:DE),s.dn[i]? = some x∧x.Pr a b∧x.k=k:=fun a b k ne e=>by
    rcases Nat.lt_or_ge a b with q | q
    · rcases h.cov a b k q e with z | ⟨x,hx,e1,e2,e3⟩
      · rw [hw] at z;cases z
      · obtain ⟨i,hi⟩:=List.getElem?_of_mem hx
        exact ⟨i,x,hi,.inl ⟨e1,e2⟩,e3⟩
    · rw [h.sym] at e
      rcases h.cov b a k (by omega) e with z | ⟨x,hx,e1,e2,e3⟩
      · rw [hw] at z;cases z
      · obtain ⟨i,hi⟩:=List.getElem?_of_mem hx
        exact ⟨i,x,hi,.inr ⟨e1,e2⟩,e3⟩
  have le_of:∀ {i j:Nat} {x y:DE},s.dn[i]? = some x→s.dn[j]? = some y→i≤j→x.k≤y.k:=fun {i j x y} hi hj hij=>by
    rcases Nat.lt_or_eq_of_le hij with q | rfl
    · have:=List.pairwise_iff_getElem.mp h.ord i j (List.getElem?_eq_some_iff.mp hi).1 (List.getElem?_eq_some_iff.mp hj).1 q
      rw [(List.getElem?_eq_some_iff.mp hi).2,(List.getElem?_eq_some_iff.mp hj).2] at this
      exact this
    · rw [hi] at hj;cases hj;exact Nat.le_refl _
  -- by the sum,then by the lesser of the two
  have main:∀ N M a b c k m,k+m≤N→min k m≤M→s.L a b=some k→s.L b c=some m→Lt s.L a c (k+m):=by
    intro N
    induction N using Nat.strongRecOn with
    | ind N ihN =>
      intro M
      induction M using Nat.strongRecOn with
      | ind M ihM =>
        -- the second is settled no later than the first
        have half:∀ (a b c k m i j:Nat) (x y:DE),k+m≤N→min k m≤M→a≠b→b≠c→s.L a b=some k→s.L b c=some m→s.dn[i]? = some x→x.Pr a b→x.k=k→s.dn[j]? = some y→y.Pr b c→y.k=m→j≤i→Lt s.L a c (k+m):=by
          intro a b c k m i j x y hN hM eab ebc e1 e2 hi px ex hj py ey hji
          have hmk:m≤k:=by rw [← ex, ← ey];exact le_of hj hi hji
          cases ef:y.f with
          | true =>
            rcases Nat.lt_or_eq_of_le hji with q | q
            · have:=fa j i x y hj hi q (List.getElem?_eq_some_iff.mp hi).1 ef a b c px py
              rw [ex,ey] at this
              exact this
            · rw [q,hi] at hj
              cases hj
              have:a=c:=by
                rcases px with ⟨p1,p2⟩ | ⟨p1,p2⟩ <;> rcases py with ⟨q1,q2⟩ | ⟨q1,q2⟩ <;> omega
              subst this
              exact ⟨0,h.diag a (h.dom _ _ _ e1).1,Nat.zero_le _⟩
          | false =>
            have tw:=(h.twoD y (List.mem_of_getElem? hj)).resolve_left (by rw [ef];decide)
            have tw2:s.Two b c m:=by
              rw [← ey]
              rcases py with ⟨q1,q2⟩ | ⟨q1,q2⟩
              · rw [q1,q2] at tw;exact tw
              · rw [q1,q2] at tw
                obtain ⟨d,k1,k2,e,h1,h2,⟨u,hu,pu,eu⟩,v,hv,pv,ev⟩:=tw
                exact ⟨d,k2,k1,by omega,h2,h1,⟨v,hv,pv.symm,ev⟩,u,hu,pu.symm,eu⟩
            obtain ⟨d,k1,k2,em,p1,p2,d1,d2⟩:=tw2
            obtain ⟨l1,_⟩:=h.dnL d1
            obtain ⟨l2,_⟩:=h.dnL d2
            obtain ⟨j1,ej1,hj1⟩:=ihN (k+k1) (by omega) (min k k1) a b d k k1 (Nat.le_refl _) (Nat.le_refl _) e1 l1
            have hmin:min j1 k2 < min k m:=by
              rw [Nat.min_eq_right hmk]
              exact Nat.lt_of_le_of_lt (Nat.min_le_right _ _) (by omega)
            have:=ihM (min j1 k2) (by omega) a d c j1 k2 (by omega) (Nat.le_refl _) ej1 l2
            exact this.le (by omega)
        intro a b c k m hN hM e1 e2
        by_cases eab:a=b
        · subst eab
          rw [h.diag a (h.dom _ _ _ e1).1] at e1
          cases e1
          exact ⟨m,e2,by omega⟩
        by_cases ebc:b=c
        · subst ebc
          exact ⟨k,e1,by omega⟩
        obtain ⟨i,x,hi,px,ex⟩:=at_ a b k eab e1
        obtain ⟨j,y,hj,py,ey⟩:=at_ b c m ebc e2
        rcases Nat.le_total j i with q | q
        · exact half a b c k m i j x y hN hM eab ebc e1 e2 hi px ex hj py ey q
        · have:=half c b a m k j i y x (by omega) (by omega) (Ne.symm ebc) (Ne.symm eab) (by rw [h.sym];exact e2) (by rw [h.sym];exact e1) hj py.symm ey hi px.symm ex q
          obtain ⟨z,ez,hz⟩:=this
          exact ⟨z,by rw [h.sym];exact ez,by omega⟩
  intro a b c k m e1 e2
  exact main (k+m) (min k m) a b c k m (Nat.le_refl _) (Nat.le_refl _) e1 e2
end Sw
namespace Sw
open PySem L2
noncomputable def unlF (as bs:List Nat):List (Nat × Nat):=(as.zip bs).filter fun p=>decide (p.1≠p.2)
noncomputable def armsOf:Option Tm→List Nat
  | some (.of _ as)=>as
  | _ => []
noncomputable def unlT (ts:List Tm) (a b:Nat):List (Nat × Nat):=unlF (armsOf ts[a]?) (armsOf ts[b]?)
noncomputable def sumL (g:Nat × Nat→Nat):List (Nat × Nat)→Nat
  | []=>0
  | p :: l=>g p+sumL g l
noncomputable def likeLen (ts:List Tm) (L:Mx) (a b:Nat):Nat:=1+sumL (fun p=>(L p.1 p.2).getD 0) (unlT ts a b)
theorem sumTo_succ (f:Nat→Nat):∀ n,sumTo f (n+1)=f 0+sumTo (fun k=>f (k+1)) n
  | 0=>by show 0+f 0=f 0+0;omega
  | n+1=>by
    show sumTo f (n+1)+f (n+1)=f 0+(sumTo (fun k=>f (k+1)) n+f (n+1))
    rw [sumTo_succ f n];omega
noncomputable def armG (g:Nat × Nat→Nat) (as bs:List Nat) (k:Nat):Nat:=match as[k]?,bs[k]? with
  | some x,some y=>if x=y then 0 else g (x,y)
  | _,_=>0
theorem unl_sum (g:Nat × Nat→Nat):∀ (as bs:List Nat),as.length=bs.length→sumL g (unlF as bs)=sumTo (armG g as bs) as.length
  | [], [],_=>rfl
  | [],_ :: _,h=>nomatch h
  | _ :: _, [],h=>nomatch h
  | a :: as,b :: bs,h=>by
    have ih:=unl_sum g as bs (Nat.succ.inj h)
    rw [List.length_cons,sumTo_succ]
    have e0:armG g (a :: as) (b :: bs) 0=if a=b then 0 else g (a,b):=rfl
    have e1:(fun k=>armG g (a :: as) (b :: bs) (k+1))=armG g as bs:=rfl
    rw [e0,e1, ← ih]
    by_cases e:a=b
    · have:unlF (a :: as) (b :: bs)=unlF as bs:=by unfold unlF;rw [List.zip_cons_cons,List.filter_cons_of_neg (by simp [e])]
      rw [this,if_pos e,Nat.zero_add]
    · have:unlF (a :: as) (b :: bs)=(a,b) :: unlF as bs:=by unfold unlF;rw [List.zip_cons_cons,List.filter_cons_of_pos (by simp [e])]
      rw [this,if_neg e];rfl
theorem unl_mem {as bs:List Nat} {p:Nat × Nat}:p∈unlF as bs↔p.1≠p.2∧∃ k:Nat,as[k]? = some p.1∧bs[k]? = some p.2:=by
  unfold unlF
  rw [List.mem_filter,decide_eq_true_iff]
  constructor
  · rintro ⟨h1,h2⟩
    obtain ⟨k,hk⟩:=List.getElem?_of_mem h1
    rw [List.getElem?_zip_eq_some] at hk
    exact ⟨h2,k,hk⟩
  · rintro ⟨h1,k,h2,h3⟩
    exact ⟨List.mem_of_getElem? (i:=k) (by rw [List.getElem?_zip_eq_some];exact ⟨h2,h3⟩),h1⟩
theorem sumL_mem {g:Nat × Nat→Nat}:∀ {l:List (Nat × Nat)} {p:Nat × Nat},p∈l→g p≤sumL g l
  | q :: l,p,h=>by
    show g p≤g q+sumL g l
    rcases List.mem_cons.mp h with rfl | h
    · omega
    · have:=sumL_mem (g:=g) h;omega
theorem sumL_congr {g g':Nat × Nat→Nat}:∀ {l:List (Nat × Nat)},(∀ p∈l,g p=g' p)→sumL g l=sumL g' l
  | [],_=>rfl
  | q :: l,h=>by
    show g q+sumL g l=g' q+sumL g' l
    rw [h q List.mem_cons_self,sumL_congr fun p hp=>h p (List.mem_cons_of_mem _ hp)]
noncomputable def nrm (p:Nat × Nat):Nat × Nat:=(min p.1 p.2,max p.1 p.2)
structure LP (ts:List Tm) (ls:List Nat) (lp:List (Nat × Nat)) (nd:Nat × Nat→List (Nat × Nat)):Prop where
  at_:∀ p∈lp,p.1 < p.2∧∃ x as bs,ts[p.1]? = some (.of x as)∧ts[p.2]? = some (.of x bs)∧as.length=bs.length
  all:∀ (a b:Nat) (x:Str) (as bs:List Nat),a < b→ts[a]? = some (.of x as)→ts[b]? = some (.of x bs)→as.length=bs.length→(∀ k u v:Nat,as[k]? = some u→bs[k]? = some v→ls.getD u 0=ls.getD v 0)→(a,b)∈lp
  nodup:lp.Nodup
  ndd:∀ p∈lp,(nd p).Nodup
  ndm:∀ p∈lp,∀ q,q∈nd p↔∃ r∈unlT ts p.1 p.2,nrm r=q
  ne:∀ p∈lp,nd p ≠ []
noncomputable def sB (s:SS) (q:Nat × Nat):Bool:=s.dn.any fun x=>decide (x.a=q.1∧x.b=q.2)
theorem sB_iff {s:SS} {q:Nat × Nat}:sB s q=true↔∃ x∈s.dn,x.a=q.1∧x.b=q.2:=by
  unfold sB
  rw [List.any_eq_true]
  exact ⟨fun ⟨x,hx,e⟩=>⟨x,hx,of_decide_eq_true e⟩,fun ⟨x,hx,e⟩=>⟨x,hx,decide_eq_true e⟩⟩
noncomputable def remF (s:SS) (l:List (Nat × Nat)):Nat:=(l.filter fun q => !sB s q).length
theorem rem_zero {s:SS} {l:List (Nat × Nat)}:remF s l=0↔∀ q∈l,sB s q=true:=by
  unfold remF
  rw [List.length_eq_zero_iff,List.filter_eq_nil_iff]
  exact ⟨fun h q hq=>by have:=h q hq;cases e:sB s q with | true=>rfl | false=>rw [e] at this;exact absurd rfl this,fun h q hq=>by rw [h q hq];decide⟩
noncomputable def LikeDone (ts:List Tm) (lp:List (Nat × Nat)) (nd:Nat × Nat→List (Nat × Nat)) (s:SS):Prop := ∀ p∈lp,(∀ q∈nd p,sB s q=true)→Lt s.L p.1 p.2 (likeLen ts s.L p.1 p.2)
section
variable {ts:List Tm} {es:List WEd} {ls:List Nat} {lp:List (Nat × Nat)} {nd:Nat × Nat→List (Nat × Nat)} {s s':SS}
theorem sB_L (h:SI ts es ts.length s) {u v:Nat} (hn:u≠v) (hb:sB s (nrm (u,v))=true):∃ k,s.Dn u v k∧s.L u v=some k:=by
  obtain ⟨x,hx,e1,e2⟩:=sB_iff.mp hb
  have d:s.Dn u v x.k:=⟨x,hx,by
    have e1:x.a=min u v:=e1
    have e2:x.b=max u v:=e2
    unfold DE.Pr
    omega,rfl⟩
  exact ⟨x.k,d,(h.dnL d).1⟩
theorem like_same (h:SI ts es ts.length s) (k:Keep ts es ts.length s s') (hp:LP ts ls lp nd) {p:Nat × Nat} (hm:p∈lp) (hall:∀ q∈nd p,sB s q=true):likeLen ts s'.L p.1 p.2=likeLen ts s.L p.1 p.2:=by
  unfold likeLen
  congr 1
  refine sumL_congr fun r hr => ?_
  have hne:=(unl_mem.mp hr).1
  obtain ⟨j,d,e⟩:=sB_L h hne (hall _ ((hp.ndm p hm _).mpr ⟨r,hr,rfl⟩))
  have d':s'.Dn r.1 r.2 j:=by unfold SS.Dn;rw [k.dn];exact d
  rw [e,(k.si.dnL d').1]
theorem like_der (h:SI ts es ts.length s) (hp:LP ts ls lp nd) {p:Nat × Nat} (hm:p∈lp) (hall:∀ q∈nd p,sB s q=true):Der ts es p.1 p.2 (likeLen ts s.L p.1 p.2):=by
  obtain ⟨_,x,as,bs,ha,hb,hl⟩:=hp.at_ p hm
  have ea:unlT ts p.1 p.2=unlF as bs:=by unfold unlT;rw [ha,hb];rfl
  unfold likeLen
  rw [ea,unl_sum _ as bs hl]
  refine .like _ ha hb hl fun k u v hu hv => ?_
  unfold armG
  rw [hu,hv]
  dsimp only
  by_cases e:u=v
  · subst e;rw [if_pos rfl];exact .refl u
  · rw [if_neg e]
    have hr:(u,v)∈unlT ts p.1 p.2:=by rw [ea];exact unl_mem.mpr ⟨e,k,hu,hv⟩
    obtain ⟨j,d,ej⟩:=sB_L h e (hall _ ((hp.ndm p hm _).mpr ⟨_,hr,rfl⟩))
    rw [ej];exact h.sound u v j ej
noncomputable abbrev Lack:=Nat × Nat→Nat
noncomputable def downF (lk:Lack) (p:Nat × Nat):Lack:=fun q=>if q=p then lk p - 1 else lk q
noncomputable def likeStep (ts:List Tm) (st:SS × Lack) (p:Nat × Nat):SS × Lack :=
  if downF st.2 p p=0 then (tryF st.1 p.1 p.2 (likeLen ts st.1.L p.1 p.2) true,downF st.2 p) else (st.1,downF st.2 p)
theorem like_fold (hp:LP ts ls lp nd) {u v k:Nat} (huv:u < v):∀ {l:List (Nat × Nat)} {s:SS} {lk:Lack},SI ts es ts.length s→HdOk s→(∀ x∈s.dn,x.k≤k)→s.L u v=some k→l.Nodup→(∀ p∈l,p∈lp∧(u,v)∈nd p) →
    (∀ p∈lp,lk p=remF s (nd p)+(if p∈l then 1 else 0))→(∀ p∈lp,p ∉ l→(∀ q∈nd p,sB s q=true)→Lt s.L p.1 p.2 (likeLen ts s.L p.1 p.2)) →
    Keep ts es ts.length s (l.foldl (likeStep ts) (s,lk)).1∧(∀ p∈lp,(l.foldl (likeStep ts) (s,lk)).2 p=remF s (nd p))∧LikeDone ts lp nd (l.foldl (likeStep ts) (s,lk)).1
  | [],s,lk,h,hh,_,_,_,_,hl,hd=>⟨Keep.refl h hh,fun p hm=>by rw [List.foldl_nil];have:=hl p hm;rw [if_neg List.not_mem_nil] at this;exact this,fun p hm hall=>hd p hm List.not_mem_nil hall⟩
  | p :: l,s,lk,h,hh,top,huL,hnd,hin,hl,hd=>by
    rw [List.nodup_cons] at hnd
    obtain ⟨hm,hq⟩:=hin p List.mem_cons_self
    have e1:lk p=remF s (nd p)+1:=by have:=hl p hm;rw [if_pos List.mem_cons_self] at this;exact this
    have e2:downF lk p p=remF s (nd p):=by unfold downF;rw [if_pos rfl,e1];rfl
    rw [List.foldl_cons]
    have hlk:∀ q∈lp,downF lk p q=remF s (nd q)+(if q∈l then 1 else 0):=fun q hqm=>by
      by_cases eq:q=p
      · subst eq;rw [e2,if_neg hnd.1];rfl
      · unfold downF
        rw [if_neg eq,hl q hqm]
        congr 1
        by_cases hql:q∈l
        · rw [if_pos hql,if_pos (List.mem_cons_of_mem _ hql)]
        · rw [if_neg hql,if_neg (fun z=>(List.mem_cons.mp z).elim eq hql)]
    by_cases ez:downF lk p p=0
    · have es:likeStep ts (s,lk) p=(tryF s p.1 p.2 (likeLen ts s.L p.1 p.2) true,downF lk p):=if_pos ez
      rw [es]
      have hall:=rem_zero.mp (e2.symm.trans ez)
      obtain ⟨hlt,x,as,bs,ha,hb,hlen⟩:=hp.at_ p hm
      have hbig:k≤likeLen ts s.L p.1 p.2:=by
        obtain ⟨r,hr,er⟩:=(hp.ndm p hm _).mp hq
        have hrne:=(unl_mem.mp hr).1
        have:s.L r.1 r.2=some k:=by
          have q1:min r.1 r.2=u:=congrArg Prod.fst er
          have q2:max r.1 r.2=v:=congrArg Prod.snd er
          rcases Nat.lt_or_ge r.1 r.2 with q | q
          · rw [show r.1=u by omega,show r.2=v by omega];exact huL
          · rw [show r.1=v by omega,show r.2=u by omega,h.sym];exact huL
        have:=sumL_mem (g:=fun p=>(s.L p.1 p.2).getD 0) hr
        unfold likeLen
        simp only [*,Option.getD_some] at this
        omega
      obtain ⟨kp,lt⟩:=try_ok (sg:=true) h hh (List.getElem?_eq_some_iff.mp ha).1 (List.getElem?_eq_some_iff.mp hb).1 (fun y hy=>Nat.le_trans (top y hy) hbig) (by unfold likeLen;omega) (like_der h hp hm hall) (fun _ => .inl rfl)
      have rem':∀ q,remF (tryF s p.1 p.2 (likeLen ts s.L p.1 p.2) true) q=remF s q:=fun q=>by unfold remF sB;rw [kp.dn]
      have huL':(tryF s p.1 p.2 (likeLen ts s.L p.1 p.2) true).L u v=some k:=by
        rcases h.cov u v k huv huL with hw | ⟨y,hy,y1,y2,y3⟩
        · obtain ⟨hx1,hx2⟩:False:=by
            obtain ⟨x2,hx2,g1,g2⟩:=sB_iff.mp (hall _ hq)
            have:=(h.dl x2 hx2).2.2
            rw [g1,g2] at this
            rw [this] at hw
            cases hw
        · have:=(kp.si.dl y (by rw [kp.dn];exact hy)).2.1
          rw [y1,y2,y3] at this
          exact this
      obtain ⟨r1,r2,r3⟩:=like_fold hp huv (l:=l) (lk:=downF lk p) kp.si kp.hd (by rw [kp.dn];exact top) huL' hnd.2 (fun q hq=>hin q (List.mem_cons_of_mem _ hq)) (fun q hqm=>by rw [rem'];exact hlk q hqm) (fun q hqm hql hallq=>by
        have hallq':∀ z∈nd q,sB s z=true:=fun z hz=>by have:=hallq z hz;unfold sB at this ⊢;rw [kp.dn] at this;exact this
        rw [like_same h kp hp hqm hallq']
        by_cases eq:q=p
        · subst eq;exact lt
        · exact (hd q hqm (fun z=>(List.mem_cons.mp z).elim eq hql) hallq').mono kp.le)
      exact ⟨kp.trans r1,fun q hqm=>by rw [r2 q hqm,rem'],r3⟩
    · have es:likeStep ts (s,lk) p=(s,downF lk p):=if_neg ez
      rw [es]
      exact like_fold hp huv (l:=l) (lk:=downF lk p) h hh top huL hnd.2 (fun q hq=>hin q (List.mem_cons_of_mem _ hq)) hlk (fun q hqm hql hallq=>by
        by_cases eq:q=p
        · subst eq;exact absurd (e2.trans (rem_zero.mpr hallq)) ez
        · exact hd q hqm (fun z=>(List.mem_cons.mp z).elim eq hql) hallq)
theorem search_good (h:SI ts es ts.length s) (fa:FA s s.dn.length) (hw:∀ a b,s.W a b=none) (hp:LP ts ls lp nd) (done:LikeDone ts lp nd s) (edge:∀ a b w,(a,b,w)∈es→Lt s.L a b w)
    (hls:∀ a b k,s.L a b=some k→ls.getD a 0=ls.getD b 0):GoodM ts es ts.length s.L:=by
  refine ⟨h.diag,h.sym,edge,tri_ok h fa hw,?_⟩
  -- for a below b
  have low:∀ (a b:Nat) (x:Str) (as bs:List Nat) (f:Nat→Nat),a < b→ts[a]? = some (.of x as)→ts[b]? = some (.of x bs)→as.length=bs.length→(∀ k u v:Nat,as[k]? = some u→bs[k]? = some v→Lt s.L u v (f k))→Lt s.L a b (1+sumTo f as.length):=fun a b x as bs f hab ha hb hl hf=>by
    have hm:(a,b)∈lp:=hp.all a b x as bs hab ha hb hl fun k u v hu hv=>by obtain ⟨j,e,_⟩:=hf k u v hu hv;exact hls u v j e
    have ea:unlT ts a b=unlF as bs:=by unfold unlT;rw [ha,hb];rfl
    have hall:∀ q∈nd (a,b),sB s q=true:=fun q hq=>by
      obtain ⟨r,hr,rfl⟩:=(hp.ndm _ hm q).mp hq
      have hr:r∈unlT ts a b:=hr
      rw [ea] at hr
      obtain ⟨hne,k,hu,hv⟩:=unl_mem.mp hr
      obtain ⟨j,e,_⟩:=hf k r.1 r.2 hu hv
      refine sB_iff.mpr ?_
      rcases Nat.lt_or_ge r.1 r.2 with q | q
      · rcases h.cov _ _ j q e with z | ⟨y,hy,y1,y2,_⟩
        · rw [hw] at z;cases z
        · exact ⟨y,hy,by show y.a=min r.1 r.2;omega,by show y.b=max r.1 r.2;omega⟩
      · rw [h.sym] at e
        rcases h.cov _ _ j (by omega) e with z | ⟨y,hy,y1,y2,_⟩
        · rw [hw] at z;cases z
        · exact ⟨y,hy,by show y.a=min r.1 r.2;omega,by show y.b=max r.1 r.2;omega⟩
    refine (done _ hm hall).le ?_
    show likeLen ts s.L a b≤_
    unfold likeLen
    rw [ea,unl_sum _ as bs hl]
    refine Nat.add_le_add_left (sumTo_le fun k hk => ?_) 1
    have hu:as[k]? = some as[k]:=List.getElem?_eq_getElem hk
    have hv:bs[k]? = some (bs[k]'(by omega)):=List.getElem?_eq_getElem (by omega)
    unfold armG
    rw [hu,hv]
    dsimp only
    split
    · exact Nat.zero_le _
    · obtain ⟨j,e,hj⟩:=hf k _ _ hu hv
      rw [e];exact hj
  intro a b x as bs f ha hb hl hf
  rcases Nat.lt_trichotomy a b with q | q | q
  · exact low a b x as bs f q ha hb hl hf
  · subst q
    exact ⟨0,h.diag a (List.getElem?_eq_some_iff.mp ha).1,Nat.zero_le _⟩
  · obtain ⟨j,e,hj⟩:=low b a x bs as f q hb ha hl.symm (fun k u v hu hv=>by obtain ⟨j,e,hj⟩:=hf k v u hv hu;exact ⟨j,by rw [h.sym];exact e,hj⟩)
    exact ⟨j,by rw [h.sym];exact e,by rw [hl];exact hj⟩
end
end Sw
namespace Sw
open PySem L2
theorem nodup_len {α : Type}:∀ {S U:List α},S.Nodup→(∀ x∈S,x∈U)→S.length≤U.length
  | [],U,_,_=>Nat.zero_le _
  | x :: S,U,hn,h=>by
    obtain ⟨A,B,rfl⟩:=List.append_of_mem (h x List.mem_cons_self)
    have hx:=(List.nodup_cons.mp hn).1
    have:=nodup_len (S:=S) (U:=A ++ B) (List.nodup_cons.mp hn).2 fun y hy=>by
      have:=h y (List.mem_cons_of_mem _ hy)
      rcases List.mem_append.mp this with z | z
      · exact List.mem_append_left _ z
      · rcases List.mem_cons.mp z with z | z
        · exact absurd (z ▸ hy) hx
        · exact List.mem_append_right _ z
    rw [List.length_append] at this
    rw [List.length_cons,List.length_append,List.length_cons]
    omega
end Sw
namespace Sw
open PySem L2
noncomputable def start0 (n:Nat):SS where
  L:=fun a b=>if a=b∧a < n then some 0 else none
  W:=fun _ _=>none
  Hd:=fun _=>none
  Sg:=fun _ _=>none
  St:=fun _ => []
  dn := []
theorem start_L {n a b k:Nat} (h:(start0 n).L a b=some k):a=b∧a < n∧k=0:=by
  have h:(if a=b∧a < n then some 0 else none)=some k:=h
  split at h
  · rename_i c;cases h;exact ⟨c.1,c.2,rfl⟩
  · cases h
theorem start_ok (ts:List Tm) (es:List WEd) (n:Nat):SI ts es n (start0 n)∧HdOk (start0 n):=by
  refine ⟨⟨?_,?_,?_,?_,?_,?_,?_,?_,List.Pairwise.nil,?_,?_,?_,?_⟩,⟨fun _ _ _=>rfl,fun a k b e=>nomatch e⟩⟩
  · intro a b
    show (if a=b∧a < n then some 0 else none)=(if b=a∧b < n then some 0 else none)
    by_cases e:a=b
    · subst e;rfl
    · rw [if_neg (fun z=>e z.1),if_neg (fun z=>e z.1.symm)]
  · intro a ha;exact if_pos ⟨rfl,ha⟩
  · intro a b k e;obtain ⟨rfl,h,_⟩:=start_L e;exact ⟨h,h⟩
  · intro a b k ne e;exact absurd (start_L e).1 ne
  · intro a b k e;cases e
  · intro a b k hab e;have:=(start_L e).1;omega
  · intro x hx;cases hx
  · intro x hx;cases hx
  · intro b c k;exact ⟨(fun h=>nomatch h),fun ⟨x,hx,_⟩=>(nomatch hx)⟩
  · intro a b k e;cases e
  · intro x hx;cases hx
  · intro a b k e
    obtain ⟨rfl,_,rfl⟩:=start_L e
    exact .refl a
section
variable {ts:List Tm} {es:List WEd} {ls:List Nat} {lp:List (Nat × Nat)} {nd:Nat × Nat→List (Nat × Nat)} {s s':SS}
noncomputable def offEF (s:SS) (l:List WEd):SS:=l.foldl (fun s e=>tryF s e.1 e.2.1 e.2.2 true) s
theorem edge_ok:∀ {l:List WEd} {s:SS},SI ts es ts.length s→HdOk s→s.dn = []→(∀ e∈l,e∈es∧e.1 < ts.length∧e.2.1 < ts.length∧1≤e.2.2) →
    Keep ts es ts.length s (offEF s l)∧∀ e∈l,Lt (offEF s l).L e.1 e.2.1 e.2.2
  | [],s,h,hh,_,_=>⟨Keep.refl h hh,fun e he=>nomatch he⟩
  | e :: l,s,h,hh,hd,sub=>by
    obtain ⟨he,la,lb,hw⟩:=sub e List.mem_cons_self
    obtain ⟨kp,lt⟩:=try_ok (sg:=true) h hh la lb (by rw [hd];exact fun x hx=>nomatch hx) hw (.edge (a:=e.1) (b:=e.2.1) (w:=e.2.2) he) (fun _ => .inl rfl)
    obtain ⟨kp2,lt2⟩:=edge_ok (l:=l) kp.si kp.hd (by rw [kp.dn];exact hd) fun e he=>sub e (List.mem_cons_of_mem _ he)
    refine ⟨kp.trans kp2,fun e' he' => ?_⟩
    rcases List.mem_cons.mp he' with rfl | he'
    · exact lt.mono kp2.le
    · exact lt2 e' he'
structure AllI (ts:List Tm) (es:List WEd) (lp:List (Nat × Nat)) (nd:Nat × Nat→List (Nat × Nat)) (s:SS) (lk:Lack):Prop where
  si:SI ts es ts.length s
  hd:HdOk s
  fa:FA s s.dn.length
  lack:∀ p∈lp,lk p=remF s (nd p)
  done:LikeDone ts lp nd s
  edge:∀ e∈es,Lt s.L e.1 e.2.1 e.2.2
  nod:(s.dn.map fun x=>(x.a,x.b)).Nodup
theorem all_start (hp:LP ts ls lp nd) (hes:∀ e∈es,e.1 < ts.length∧e.2.1 < ts.length∧1≤e.2.2):AllI ts es lp nd (offEF (start0 ts.length) es) fun p=>(nd p).length:=by
  obtain ⟨h,hh⟩:=start_ok ts es ts.length
  obtain ⟨kp,lt⟩:=edge_ok (l:=es) h hh rfl fun e he=>⟨he,hes e he⟩
  have dn:(offEF (start0 ts.length) es).dn = []:=kp.dn
  have no:∀ q,sB (offEF (start0 ts.length) es) q=false:=fun q=>by unfold sB;rw [dn];rfl
  refine ⟨kp.si,kp.hd,?_,?_,?_,lt,by rw [dn];exact List.nodup_nil⟩
  · intro i j x y hi hj
    rw [dn] at hi;cases hi
  · intro p hm
    unfold remF
    rw [List.filter_eq_self.mpr (fun q _=>by rw [no];rfl)]
  · intro p hm hall
    obtain ⟨q,hq⟩:=List.exists_mem_of_ne_nil _ (hp.ne p hm)
    have:=hall q hq
    rw [no] at this;cases this
theorem AllI.least (A:AllI ts es lp nd s lk) {a b k:Nat} (hh:s.Hd a=some (k,b)) (hm:∀ c k' d,s.Hd c=some (k',d)→k≤k'):s.W a b=some k∧∀ c d m,s.W c d=some m→k≤m:=by
  refine ⟨(A.hd.hs a k b hh).1,fun c d m e => ?_⟩
  cases q:s.Hd c with
  | none=>rw [A.hd.hn c q d] at e;cases e
  | some p =>
    obtain ⟨k',d'⟩:=p
    have:=(A.hd.hs c k' d' q).2 d m e
    have:=hm c k' d' q
    omega
theorem ite_iff {p q:Prop} [Decidable p] [Decidable q] (h:p↔q):(if p then 1 else 0:Nat)=if q then 1 else 0:=by
  by_cases hp:p
  · rw [if_pos hp,if_pos (h.mp hp)]
  · rw [if_neg hp,if_neg (fun z=>hp (h.mpr z))]
theorem rem_more {s s3:SS} {u v:Nat} (hb:sB s (u,v)=false) (h3:∀ q,sB s3 q=true↔sB s q=true∨q=(u,v)):∀ {l:List (Nat × Nat)},l.Nodup→remF s l=remF s3 l+(if (u,v)∈l then 1 else 0)
  | [],_=>rfl
  | q :: l,hn=>by
    rw [List.nodup_cons] at hn
    have ih:=rem_more hb h3 (l:=l) hn.2
    unfold remF at ih ⊢
    rw [List.filter_cons,List.filter_cons]
    by_cases eq:q=(u,v)
    · have e1:sB s q=false:=by rw [eq];exact hb
      have e3:sB s3 q=true:=(h3 q).mpr (.inr eq)
      rw [e1,e3,if_pos (show (u,v)∈q :: l by rw [eq];exact List.mem_cons_self)]
      show (q :: l.filter fun q => !sB s q).length=(l.filter fun q => !sB s3 q).length+1
      rw [List.length_cons,ih,if_neg (by rw [← eq];exact hn.1)]
    · have hmem:((u,v)∈q :: l)↔(u,v)∈l:=by
        rw [List.mem_cons];exact ⟨fun z=>z.elim (fun z=>absurd z.symm eq) id,.inr⟩
      have e:sB s3 q=sB s q:=by
        rw [Bool.eq_iff_iff,h3]
        exact ⟨fun z=>z.elim id fun z=>absurd z eq,.inl⟩
      rw [e]
      cases sB s q with
      | true =>
        show (l.filter fun q => !sB s q).length=(l.filter fun q => !sB s3 q).length+_
        rw [ih,ite_iff hmem]
      | false =>
        show (q :: l.filter fun q => !sB s q).length=(q :: l.filter fun q => !sB s3 q).length+_
        rw [List.length_cons,List.length_cons,ih,ite_iff hmem];omega
theorem all_turn {lk:Lack} (A:AllI ts es lp nd s lk) (hp:LP ts ls lp nd) {a b k:Nat} {f:Bool} {hd:Option (Nat × Nat)} (hw:s.W a b=some k) (least:∀ c d m,s.W c d=some m→k≤m) (hf:s.Sg a b=some k→f=true)
    (rh:RowHead (fun y=>dropM s.W a b a y) hd) {aw:List (Nat × Nat)} (awn:aw.Nodup) (awm:∀ p,p∈aw↔p∈lp∧(a,b)∈nd p) (s1 s2 s3:SS) (e1:s1=popF s a b k f hd) (e2:s2=lengthF a k s1 (s1.St b)) (e3:s3=lengthF b k s2 (s2.St a)) :
    AllI ts es lp nd (aw.foldl (likeStep ts) (s3,lk)).1 (aw.foldl (likeStep ts) (s3,lk)).2∧(aw.foldl (likeStep ts) (s3,lk)).1.dn=s.dn ++ [⟨a,b,k,f⟩]:=by
  obtain ⟨kk,fa3,dn3,le3,top3⟩:=settle_ok (f:=f) A.si A.hd A.fa hw least hf rh s1 s2 s3 e1 e2 e3
  have hab:=(A.si.wl a b k hw).1
  have hb:sB s (a,b)=false:=by
    cases e:sB s (a,b) with
    | false=>rfl
    | true =>
      obtain ⟨x,hx,g1,g2⟩:=sB_iff.mp e
      have:=(A.si.dl x hx).2.2
      rw [g1,g2,hw] at this;cases this
  have h3:∀ q,sB s3 q=true↔sB s q=true∨q=(a,b):=fun q=>by
    rw [sB_iff,sB_iff,dn3]
    constructor
    · rintro ⟨x,hx,g⟩
      rcases List.mem_append.mp hx with hx | hx
      · exact .inl ⟨x,hx,g⟩
      · rw [List.mem_singleton.mp hx] at g
        exact .inr (Prod.ext g.1.symm g.2.symm)
    · rintro (⟨x,hx,g⟩ | rfl)
      · exact ⟨x,List.mem_append.mpr (.inl hx),g⟩
      · exact ⟨_,List.mem_append.mpr (.inr (List.mem_singleton_self _)),rfl,rfl⟩
  have hL3:s3.L a b=some k:=by
    have:=(kk.si.dl ⟨a,b,k,f⟩ (by rw [dn3];exact List.mem_append.mpr (.inr (List.mem_singleton_self _)))).2.1
    exact this
  have L1:s1.L=s.L:=by rw [e1];rfl
  obtain ⟨r1,r2,r3⟩:=like_fold hp hab (l:=aw) (lk:=lk) kk.si kk.hd top3 hL3 awn (fun p hpm=>(awm p).mp hpm) (fun p hm=>by
      rw [A.lack p hm,rem_more hb h3 (hp.ndd p hm)]
      rw [ite_iff (show (a,b)∈nd p↔p∈aw by rw [awm];exact ⟨fun z=>⟨hm,z⟩,fun z=>z.2⟩)]) (fun p hm hna hall=>by
      have nin:(a,b) ∉ nd p:=fun z=>hna ((awm p).mpr ⟨hm,z⟩)
      have hall':∀ q∈nd p,sB s q=true:=fun q hq=>((h3 q).mp (hall q hq)).resolve_right fun z=>nin (by rw [← z];exact hq)
      have e:likeLen ts s3.L p.1 p.2=likeLen ts s.L p.1 p.2:=by
        unfold likeLen
        congr 1
        refine sumL_congr fun r hr => ?_
        have hne:=(unl_mem.mp hr).1
        obtain ⟨j,⟨x,hx,px,ex⟩,ej⟩:=sB_L A.si hne (hall' _ ((hp.ndm p hm _).mpr ⟨r,hr,rfl⟩))
        have d':s3.Dn r.1 r.2 j:=⟨x,by rw [dn3];exact List.mem_append.mpr (.inl hx),px,ex⟩
        rw [ej,(kk.si.dnL d').1]
      rw [e]
      exact (A.done p hm hall').mono le3)
  have dn4:=r1.dn.trans dn3
  refine ⟨⟨r1.si,r1.hd,?_,fun p hm => ?_,r3,fun e he=>((A.edge e he).mono le3).mono r1.le,?_⟩,dn4⟩
  · have:=fa3.keep r1
    rw [r1.dn];exact this
  · rw [r2 p hm]
    unfold remF sB
    rw [r1.dn]
  · rw [dn4,List.map_append,List.nodup_append]
    refine ⟨A.nod,List.nodup_cons.mpr ⟨List.not_mem_nil,List.nodup_nil⟩,fun x hx y hy e => ?_⟩
    have hy:y=(a,b):=List.mem_singleton.mp hy
    obtain ⟨z,hz,ez⟩:=List.mem_map.mp hx
    have:=(A.si.dl z hz).2.2
    have q1:z.a=a:=congrArg Prod.fst (ez.trans (e.trans hy))
    have q2:z.b=b:=congrArg Prod.snd (ez.trans (e.trans hy))
    rw [q1,q2,hw] at this
    cases this
theorem dn_few {lk:Lack} (A:AllI ts es lp nd s lk):s.dn.length≤ts.length * ts.length:=by
  have h1:∀ p∈s.dn.map fun x=>(x.a,x.b),p.1 < ts.length∧p.2 < ts.length:=fun p hp=>by
    obtain ⟨x,hx,rfl⟩:=List.mem_map.mp hp
    exact A.si.dom _ _ _ (A.si.dl x hx).2.1
  have h2:((s.dn.map fun x=>(x.a,x.b)).map fun p=>p.1 * ts.length+p.2).Nodup:=by
    rw [List.Nodup,List.pairwise_map]
    refine A.nod.imp_of_mem fun {p q} hp hq hne e=>hne ?_
    obtain ⟨p1,p2⟩:=h1 p hp
    obtain ⟨q1,q2⟩:=h1 q hq
    have e1:p.1=q.1:=by
      have a1:(p.1 * ts.length+p.2) / ts.length=p.1:=by rw [Nat.mul_comm,Nat.mul_add_div (by omega),Nat.div_eq_of_lt p2,Nat.add_zero]
      have a2:(q.1 * ts.length+q.2) / ts.length=q.1:=by rw [Nat.mul_comm,Nat.mul_add_div (by omega),Nat.div_eq_of_lt q2,Nat.add_zero]
      rw [← a1, ← a2,e]
    refine Prod.ext e1 ?_
    rw [e1] at e
    omega
  have h3:=nodup_len (U:=List.range (ts.length * ts.length)) h2 fun x hx=>by
    obtain ⟨p,hp,rfl⟩:=List.mem_map.mp hx
    obtain ⟨p1,p2⟩:=h1 p hp
    rw [List.mem_range]
    have:(p.1+1) * ts.length≤ts.length * ts.length:=Nat.mul_le_mul_right _ p1
    rw [Nat.succ_mul] at this
    omega
  rw [List.length_map,List.length_map,List.length_range] at h3
  exact h3
theorem all_end {lk:Lack} (A:AllI ts es lp nd s lk) (hp:LP ts ls lp nd) (hes:∀ e∈es,e.1 < ts.length∧e.2.1 < ts.length∧1≤e.2.2) (harm:Arms ts) (hls:∀ a b k,Der ts es a b k→a < ts.length→b < ts.length→ls.getD a 0=ls.getD b 0) (hno:∀ a,s.Hd a=none) {a b:Nat} (ha:a < ts.length):s.L a b=distF ts es a b:=by
  have hw:∀ a b,s.W a b=none:=fun a b=>A.hd.hn a (hno a) b
  refine good_dist (search_good A.si A.fa hw hp A.done (fun a b w h=>A.edge (a,b,w) h) (fun a b k e => ?_)) (fun a b w h=>⟨(hes (a,b,w) h).1,(hes (a,b,w) h).2.1⟩) harm A.si.sound ha
  exact hls a b k (A.si.sound a b k e) (A.si.dom a b k e).1 (A.si.dom a b k e).2
end
end Sw
namespace Sw
open PySem L2
theorem eqv_der {ts:List Tm} {es:List WEd} (hn:ts.Nodup) {a b:Nat} (h:Eqv ts (es.map fun e=>(e.1,e.2.1)) a b):∃ n,Der ts es a b n:=by
  induction h with
  | refl a=>exact ⟨0,.refl a⟩
  | symm _ ih=>obtain ⟨n,d⟩:=ih;exact ⟨n,.symm d⟩
  | trans _ _ ih1 ih2=>obtain ⟨n,d⟩:=ih1;obtain ⟨m,e⟩:=ih2;exact ⟨n+m,.trans d e⟩
  | edge he=>obtain ⟨e,h1,h2⟩:=List.mem_map.mp he;cases h2;exact ⟨e.2.2,.edge h1⟩
  | same h1 h2 =>
    have:=(List.getElem?_inj (List.getElem?_eq_some_iff.mp h1).1 hn).mp (h1.trans h2.symm)
    subst this
    exact ⟨0,.refl _⟩
  | @cong i j x as bs h1 h2 hl _ ih =>
    have ex:∀ k:Nat,∃ n:Nat,∀ u v:Nat,as[k]? = some u→bs[k]? = some v→Der ts es u v n:=fun k=>by
      cases e1:as[k]? with
      | none=>exact ⟨0,fun u v z=>nomatch z⟩
      | some u =>
        cases e2:bs[k]? with
        | none=>exact ⟨0,fun u v _ z=>nomatch z⟩
        | some v =>
          obtain ⟨n,d⟩:=ih k u v e1 e2
          exact ⟨n,fun u' v' z1 z2=>by cases z1;cases z2;exact d⟩
    exact ⟨_,.like (fun k=>(ex k).choose) h1 h2 hl fun k u v hu hv=>(ex k).choose_spec u v hu hv⟩
theorem der_pos {ts:List Tm} {es:List WEd} (he:∀ e∈es,1≤e.2.2) {a b n:Nat} (h:Der ts es a b n):n=0→a=b:=by
  induction h with
  | refl a=>exact fun _=>rfl
  | edge h=>intro z;have:=he _ h;have z:_=0:=z;dsimp only at this;omega
  | symm _ ih=>exact fun z=>(ih z).symm
  | trans _ _ ih1 ih2=>exact fun z=>(ih1 (by omega)).trans (ih2 (by omega))
  | like f _ _ _ _ _=>intro z;omega
theorem dist_symm {ts:List Tm} {es:List WEd} (a b:Nat):distF ts es a b=distF ts es b a:=by
  cases e:distF ts es a b with
  | none =>
    cases e':distF ts es b a with
    | none=>rfl
    | some m=>exact (dist_none e (.symm (dist_spec e').1)).elim
  | some n=>exact (dist_some (.symm (dist_spec e).1) fun m d=>(dist_spec e).2 m (.symm d)).symm
theorem dist_self {ts:List Tm} {es:List WEd} (a:Nat):distF ts es a a=some 0:=dist_some (.refl a) fun _ _=>Nat.zero_le _
end Sw
namespace K21
open PySem L2 Sw
noncomputable def top (i:Nat):Stmt:=PySem.Challenge.pw_samewise_k21_lengths_apart.main.body.getD i (.Pass ⟨0,0,0,0⟩)
noncomputable abbrev s_mark:Stmt:=top 1
theorem sc_mark:FnScope ["term", "leads"] ["term", "leads"] (defScope s_mark):=⟨rfl,rfl,rfl,by decide +kernel,rfl,by decide +kernel,by decide +kernel⟩
noncomputable abbrev s_join_classes:Stmt:=top 3
theorem sc_join_classes:FnScope ["leads", "a", "b", "low", "high", "k"] ["leads", "a", "b"] (defScope s_join_classes):=⟨rfl,rfl,rfl,by decide +kernel,rfl,by decide +kernel,by decide +kernel⟩
noncomputable abbrev s_join_like:Stmt:=top 4
theorem sc_join_like:FnScope ["terms", "leads", "joined", "first", "k", "term", "other"] ["terms", "leads"] (defScope s_join_like):=⟨rfl,rfl,rfl,by decide +kernel,rfl,by decide +kernel,by decide +kernel⟩
noncomputable abbrev s_closed:Stmt:=top 2
theorem sc_closed:FnScope ["terms", "edges", "leads", "edge"] ["terms", "edges"] (defScope s_closed):=⟨rfl,rfl,rfl,by decide +kernel,rfl,by decide +kernel,by decide +kernel⟩
noncomputable abbrev s_lengths:Stmt:=top 6
theorem sc_lengths:FnScope ["terms", "leads", "edges", "search", "edge", "a", "b"] ["terms", "leads", "edges"] (defScope s_lengths):=⟨rfl,rfl,rfl,by decide +kernel,rfl,by decide +kernel,by decide +kernel⟩
noncomputable abbrev s_like_pairs:Stmt:=top 7
theorem sc_like_pairs:FnScope ["terms", "leads", "alike", "k", "term", "pairs", "row", "place", "b", "a"] ["terms", "leads"] (defScope s_like_pairs):=⟨rfl,rfl,rfl,by decide +kernel,rfl,by decide +kernel,by decide +kernel⟩
noncomputable abbrev s_unlike_arms:Stmt:=top 8
theorem sc_unlike_arms:FnScope ["terms", "a", "b"] ["terms", "a", "b"] (defScope s_unlike_arms):=⟨rfl,rfl,rfl,by decide +kernel,rfl,by decide +kernel,by decide +kernel⟩
noncomputable abbrev s_like_length:Stmt:=top 9
theorem sc_like_length:FnScope ["terms", "least", "a", "b", "total", "x", "y"] ["terms", "least", "a", "b"] (defScope s_like_length):=⟨rfl,rfl,rfl,by decide +kernel,rfl,by decide +kernel,by decide +kernel⟩
noncomputable abbrev s_sinit:Stmt:=inClass (top 10) 0
theorem sc_sinit:FnScope ["self", "terms", "k"] ["self", "terms"] (defScope s_sinit):=⟨rfl,rfl,rfl,by decide +kernel,rfl,by decide +kernel,by decide +kernel⟩
noncomputable abbrev s_await_arms:Stmt:=inClass (top 10) 1
theorem sc_await_arms:FnScope ["self", "a", "b", "needed", "x", "y", "ends"] ["self", "a", "b"] (defScope s_await_arms):=⟨rfl,rfl,rfl,by decide +kernel,rfl,by decide +kernel,by decide +kernel⟩
noncomputable abbrev s_offer_step:Stmt:=inClass (top 10) 2
theorem sc_offer_step:FnScope ["self", "a", "b", "length", "best"] ["self", "a", "b", "length"] (defScope s_offer_step):=⟨rfl,rfl,rfl,by decide +kernel,rfl,by decide +kernel,by decide +kernel⟩
noncomputable abbrev s_offer:Stmt:=inClass (top 10) 3
theorem sc_offer:FnScope ["self", "a", "b", "length", "low", "high"] ["self", "a", "b", "length"] (defScope s_offer):=⟨rfl,rfl,rfl,by decide +kernel,rfl,by decide +kernel,by decide +kernel⟩
noncomputable abbrev s_settle_all:Stmt:=inClass (top 10) 4
theorem sc_settle_all:FnScope ["self", "head"] ["self"] (defScope s_settle_all):=⟨rfl,rfl,rfl,by decide +kernel,rfl,by decide +kernel,by decide +kernel⟩
noncomputable abbrev s_settle:Stmt:=inClass (top 10) 5
theorem sc_settle:FnScope ["self", "a", "b", "length", "x", "y"] ["self", "a", "b", "length"] (defScope s_settle):=⟨rfl,rfl,rfl,by decide +kernel,rfl,by decide +kernel,by decide +kernel⟩
noncomputable abbrev s_find_head:Stmt:=inClass (top 10) 6
theorem sc_find_head:FnScope ["self", "a", "row", "length", "b"] ["self", "a"] (defScope s_find_head):=⟨rfl,rfl,rfl,by decide +kernel,rfl,by decide +kernel,by decide +kernel⟩
noncomputable abbrev s_lengthen:Stmt:=inClass (top 10) 7
theorem sc_lengthen:FnScope ["self", "a", "b", "length", "row", "c", "more"] ["self", "a", "b", "length"] (defScope s_lengthen):=⟨rfl,rfl,rfl,by decide +kernel,rfl,by decide +kernel,by decide +kernel⟩
noncomputable abbrev s_draw:Stmt:=top 12
theorem sc_draw:FnScope ["_law_cell", "_law_prime", "_law_many"] ["_law_cell", "_law_prime", "_law_many"] (defScope s_draw):=⟨rfl,rfl,rfl,by decide +kernel,rfl,by decide +kernel,by decide +kernel⟩
noncomputable abbrev s_word:Stmt:=top 13
theorem sc_word:FnScope ["_law_k", "_law_cell", "_law_some", "_law_place"] ["_law_k", "_law_cell"] (defScope s_word):=⟨rfl,rfl,rfl,by decide +kernel,rfl,by decide +kernel,by decide +kernel⟩
noncomputable abbrev s_term:Stmt:=top 14
theorem sc_term:FnScope ["_law_cell", "_law_seed", "_law_many", "_law_kind", "_law_number", "_law_count", "_law_arms"] ["_law_cell", "_law_seed", "_law_many"] (defScope s_term):=⟨rfl,rfl,rfl,by decide +kernel,rfl,by decide +kernel,by decide +kernel⟩
noncomputable abbrev s_edge:Stmt:=top 15
theorem sc_edge:FnScope ["_law_cell", "_law_many", "_law_colours", "_law_a", "_law_near", "_law_b", "_law_weight"] ["_law_cell", "_law_many", "_law_colours"] (defScope s_edge):=⟨rfl,rfl,rfl,by decide +kernel,rfl,by decide +kernel,by decide +kernel⟩
noncomputable abbrev s_stuff:Stmt:=top 16
theorem sc_stuff:FnScope ["_law_script", "_law_most", "_law_seed", "_law_terms", "_law_edges", "_law_cell", "_law_term_here"] ["_law_script", "_law_most"] (defScope s_stuff):=⟨rfl,rfl,rfl,by decide +kernel,rfl,by decide +kernel,by decide +kernel⟩
noncomputable abbrev s_whole:Stmt:=top 17
theorem sc_whole:FnScope ["_law_found"] ["_law_found"] (defScope s_whole):=⟨rfl,rfl,rfl,by decide +kernel,rfl,by decide +kernel,by decide +kernel⟩
noncomputable abbrev s_square:Stmt:=top 18
theorem sc_square:FnScope ["_law_found", "_law_many", "_law_row"] ["_law_found", "_law_many"] (defScope s_square):=⟨rfl,rfl,rfl,by decide +kernel,rfl,by decide +kernel,by decide +kernel⟩
noncomputable abbrev s_right:Stmt:=top 19
theorem sc_right:FnScope ["_law_found", "_law_leads", "_law_a", "_law_b"] ["_law_found", "_law_leads", "_law_a", "_law_b"] (defScope s_right):=⟨rfl,rfl,rfl,by decide +kernel,rfl,by decide +kernel,by decide +kernel⟩
noncomputable abbrev s_law:Stmt:=top 20
theorem sc_law:FnScope ["_law_script", "_law_seed", "_law_made", "_law_terms", "_law_edges", "_law_leads", "_law_handed", "_law_found", "_law_a", "_law_b", "_law_kept"] ["_law_script"] (defScope s_law):=⟨rfl,rfl,rfl,by decide +kernel,rfl,by decide +kernel,by decide +kernel⟩
section
variable {P:Program} {w:World} {K:PySem.W.Frag} {mg:Str→Option Value} {base:Heap}
inductive SpMark (K:PySem.W.Frag) (vs:List V) (H:Hp) (Q:VK):Prop
  | mk (v:V) (t:Tm) (L:Addr) (ls:List Nat) (z0:vs = [v,.ref L]) (z1:IsTm H t v) (z2:SqL K H L (ls.map nV)) (z3:(∀ x as,t = .of x as→as.length≤1000∧∀ a∈as,a < ls.length)) (z4:∀ v' H',Same H H'→IsTm H' (mk ls t) v'→Q v' H'):SpMark K vs H Q
noncomputable def spMark (K:PySem.W.Frag):Sp:=fun vs H Q _=>SpMark K vs H Q
theorem ok_mark (B:Blt mg) (D:Def K mg "mark" s_mark ["term", "leads"]):Has P w K mg base 1 "mark" ["term", "leads"] (spMark K):=by
  refine D.has sc_mark (fun vs H Q E h => ?_) (fun f cdv A outer s H vs Q E hr h => ?_)
  · obtain ⟨v,t,L,ls,rfl,_⟩:=h;rfl
  obtain ⟨v,t,L,ls,rfl,hT,hL,hb,q⟩:=h
  refine ⟨_,(pss_cons (ps_if (pt_cmpR op_ne (pe_ix ix_tup (pv 0) pe_int (fun _ _=>rfl)) pe_str (nomark _)) (pss_one (ps_ret (pv 0))) pss_nil)
    (pss_one (ps_ret (pe_tup (pa_cons pe_str (pa_cons (pe_ix ix_tup (pv 0) pe_int (fun _ _=>rfl)) (pa_cons (pe_callTy call_tuple_of rfl B.tuple_ boot_tuple_ (pa_cons (pe_comp (te:=(tOp (rIxL K) _ _)) (own := ["number"]) (caps := [("leads",1)]) (comp_scope (defScope s_mark) ["term", "leads"] rfl rfl rfl (by decide +kernel)) (pi_tup (pe_ix ix_tup (pv 0) pe_int (fun _ _=>rfl))) rfl (fun _ _ _=>pg_name (i:=0) (show (["number", "leads"]:List Str).Nodup by decide +kernel) rfl (Or.inl rfl)) (fun _ _ _=>(pe_ix ix_list (pv 1) (pv 0) (fun _ _=>rfl)))) pa_nil)) pa_nil))))))),?_⟩
  try dsimp only [cxOf]
  cases t with
  | num n =>
    obtain ⟨a,rfl,h⟩:=id hT
    refine ⟨_,rfl,a,_,0,_,rfl,rfl,SqT.of h,atI_nat (j:=0) rfl,rfl,_,rfl,iteDN (fun _=>⟨_,rfl,q _ _ (Same.refl _) hT⟩) (fun z=>absurd (V.str.inj z) (by decide))⟩
  | name n =>
    obtain ⟨a,rfl,h⟩:=id hT
    refine ⟨_,rfl,a,_,0,_,rfl,rfl,SqT.of h,atI_nat (j:=0) rfl,rfl,_,rfl,iteDN (fun _=>⟨_,rfl,q _ _ (Same.refl _) hT⟩) (fun z=>absurd (V.str.inj z) (by decide))⟩
  | of x as =>
    obtain ⟨a,b,rfl,h,h2⟩:=id hT
    obtain ⟨hl,hlt⟩:=hb x as rfl
    refine ⟨_,rfl,a,_,0,_,rfl,rfl,SqT.of h,atI_nat (j:=0) rfl,rfl,_,rfl,iteDN (fun z=>absurd rfl z) (fun _ => ?_)⟩
    refine ⟨_,rfl,a,_,1,_,rfl,rfl,SqT.of h,atI_nat (j:=1) rfl,?_⟩
    refine ⟨_,rfl,a,_,2,_,rfl,rfl,SqT.of h,atI_nat (j:=2) rfl,b,rfl,⟨_,SqT.of h2⟩,?_⟩
    refine comp_tupS (ys:=(as.map fun a=>ls.getD a 0).map nV) (SqT.of h2) (by rw [List.length_map];exact hl) (by simp) (fun i y z hy hz H' sm Q' q' => ?_) (fun D1 H' hD1 sm hD => ?_)
    · rw [List.getElem?_map] at hy
      rw [List.getElem?_map,List.getElem?_map] at hz
      cases e:as[i]? with
      | none=>rw [e] at hy;cases hy
      | some k =>
        rw [e] at hy hz
        have e1:nV k=y:=Option.some.inj hy
        have e2:nV (ls.getD k 0)=z:=Option.some.inj hz
        subst e1 e2
        have hk:=hlt k (List.mem_of_getElem? e)
        have e3:ls[k]? = some (ls.getD k 0):=by rw [List.getD_eq_getElem?_getD,List.getElem?_eq_getElem hk];rfl
        exact ⟨_,rfl,_,rfl,L,_,_,_,rfl,rfl,sm.seq hL,nV_at e3,q' _ (Same.refl _)⟩
    · refine ⟨D1,_,rfl,.inl ⟨SqL.of hD,fun l hl' => ?_⟩⟩
      refine ⟨(show 3≤sizeLine by decide),fun t ht => ?_⟩
      refine q _ _ (sm.trans ((same_new hl' _).trans (same_new ht _))) ⟨t,l,rfl,upd_same,?_⟩
      rw [upd_ne (ne_of_none upd_same ht),upd_same]
inductive SpJoin (vs:List V) (H:Hp) (Q:VK):Prop
  | mk (L:Addr) (ls:List Nat) (a b la lb:Nat) (z0:vs = [.ref L,nV a,nV b]) (z1:H L=some (.lst (ls.map nV))) (z2:GoodL ls) (z3:ls.length≤1000000) (z4:ls[a]? = some la) (z5:ls[b]? = some lb) (z6:(la=lb→Q (.bl false) H)) (z7:(la≠lb→Q (.bl true) (upd H L (.lst ((jn ls (max la lb) (min la lb)).map nV))))):SpJoin  vs H Q
noncomputable def spJoin:Sp:=fun vs H Q _=>SpJoin  vs H Q
theorem ok_join_classes (B:Blt mg) (D:Def K mg "join_classes" s_join_classes ["leads", "a", "b"]):Has P w K mg base 1 "join_classes" ["leads", "a", "b"] spJoin:=by
  refine D.has sc_join_classes (fun vs H Q E h => ?_) (fun f cdv A outer s H vs Q E hr h => ?_)
  · obtain ⟨L,ls,a,b,la,lb,rfl,_⟩:=h;rfl
  obtain ⟨L,ls,a,b,la,lb,rfl,hL,hg,hz,ha,hb,q1,q2⟩:=h
  refine ⟨_,(pss_cons (ps_set (i:=3) sc_join_classes.nd rfl (Or.inl rfl) (pe_callB (call_min2 rfl) rfl B.min_ boot_min_ (pa_cons (pe_ix ix_list (pv 0) (pv 1) (fun _ _=>rfl)) (pa_cons (pe_ix ix_list (pv 0) (pv 2) (fun _ _=>rfl)) pa_nil))))
    (pss_cons (ps_set (i:=4) sc_join_classes.nd rfl (Or.inl rfl) (pe_callB (call_max2 rfl) rfl B.max_ boot_max_ (pa_cons (pe_ix ix_list (pv 0) (pv 1) (fun _ _=>rfl)) (pa_cons (pe_ix ix_list (pv 0) (pv 2) (fun _ _=>rfl)) pa_nil))))
    (pss_cons (ps_if (pt_cmpR op_eq (pv 3) (pv 4) (nomark _)) (pss_one (ps_ret pe_bl)) pss_nil)
    (pss_cons (ps_for PassesOwn.never rfl (pi_range2 rfl B.range_ (pa_cons (pv 4) (pa_cons (pe_callB call_len_seq rfl B.len_ PySem.boot_len (pa_cons (pv 0) pa_nil)) pa_nil))) (pg_name (i:=5) sc_join_classes.nd rfl (Or.inl rfl))
    (pss_one (ps_if (pt_cmpR op_eq (pe_ix ix_list (pv 0) (pv 5) (fun _ _=>rfl)) (pv 4) (nomark _)) (pss_one (ps_asg (pv 3) (pg_sub (pv 0) (pv 5) set_list))) pss_nil)))
    (pss_one (ps_ret pe_bl)))))),?_⟩
  try dsimp only [cxOf]
  refine ⟨_,rfl,_,rfl,L,_,_,_,rfl,rfl,SqL.of hL,nV_at ha,_,rfl,_,rfl,L,_,_,_,rfl,rfl,SqL.of hL,nV_at hb,_,_,rfl,?_⟩
  refine ⟨_,rfl,_,rfl,L,_,_,_,rfl,rfl,SqL.of hL,nV_at ha,_,rfl,_,rfl,L,_,_,_,rfl,rfl,SqL.of hL,nV_at hb,_,_,rfl,?_⟩
  have e1:(if (lb:Int) < (la:Int) then (lb:Int) else (la:Int))=((min la lb:Nat):Int):=by split <;> omega
  have e2:(if (lb:Int) > (la:Int) then (lb:Int) else (la:Int))=((max la lb:Nat):Int):=by split <;> omega
  dsimp only [gName]
  rw [e1,e2]
  by_cases hab:la=lb
  · refine ⟨_,rfl,_,rfl,rfl,_,rfl,iteD (fun _=>q1 hab) (fun z=>absurd ?_ z)⟩
    show V.int _=V.int _
    congr 1;omega
  · refine ⟨_,rfl,_,rfl,rfl,_,rfl,iteD (fun z => ?_) (fun _ => ?_)⟩
    · have:=V.int.inj z
      omega
    have hhi:∃ c:Nat,ls[c]? = some (max la lb):=by
      rcases Nat.le_total la lb with h | h
      · exact ⟨b,by rw [Nat.max_eq_right h];exact hb⟩
      · exact ⟨a,by rw [Nat.max_eq_left h];exact ha⟩
    obtain ⟨c,hc⟩:=hhi
    have hhi2:=(hg c _ hc).2
    have hlt:max la lb < ls.length:=(List.getElem?_eq_some_iff.mp hhi2).1
    have q2':=q2 hab
    have hlohi:min la lb < max la lb:=by omega
    generalize max la lb=hi at *
    generalize min la lb=lo at *
    refine ⟨_,rfl,_,rfl,L,_,rfl,.inl (SqL.of hL),hi,_,rfl,?_,?_⟩
    · rw [List.length_map];omega
    have en:(((ls.map nV).length:Nat):Int) - (hi:Int)=((ls.length - hi:Nat):Int):=by rw [List.length_map];omega
    rw [en,Int.toNat_natCast]
    refine for_range (lo:=(hi:Int)) (fun i σ H'=>∃ o, σ = [some (.ref L),some (nV a),some (nV b),some (nV lo),some (nV hi),o]∧H'=upd H L (.lst ((mix ls hi lo (hi+i)).map nV))) ⟨none,rfl,?_⟩ ?_ ?_
    · rw [Nat.add_zero,mix_start hg]
      funext c'
      by_cases h:c'=L
      · subst h;rw [upd_same];exact hL
      · rw [upd_ne h]
    · rintro i σ H' hi' ⟨o,rfl,rfl⟩
      have hk:hi+i < ls.length:=by omega
      have ev:=List.getElem?_eq_getElem hk
      generalize ls[hi+i]=v at ev
      have em:(mix ls hi lo (hi+i))[hi+i]? = some v:=by
        rw [mix_at,ev]
        show some _=some _
        dsimp only
        rw [if_neg (by omega)]
      have ek:(hi:Int)+(i:Int)=((hi+i:Nat):Int):=by omega
      show tIfS _ _ _ _ _ _
      refine ⟨_,rfl,_,rfl,L,_,_,nV v,rfl,rfl,SqL.of upd_same,(by rw [ek];exact nV_at em),_,rfl,rfl,_,rfl,iteD (fun z => ?_) (fun z => ?_)⟩
      · have hv:v=hi:=by have:=V.int.inj z;omega
        refine ⟨_,rfl,_,rfl,_,rfl,L,_,_,hi+i,rfl,rfl,upd_same,?_,⟨_,rfl,?_⟩⟩
        · rw [ek,List.length_map,mix_len]
          unfold ixN
          rw [if_pos (by omega),if_pos (by omega),Int.toNat_natCast]
        · rw [upd_upd]
          have:=mix_set (hi:=hi) (lo:=lo) ev
          unfold ren at this
          rw [if_pos hv] at this
          rw [nV_set,this]
          rfl
      · have hv:v≠hi:=fun e=>z (by rw [e])
        refine ⟨_,rfl,?_⟩
        have:=mix_stay (hi:=hi) (lo:=lo) ev hv
        rw [show hi+(i+1)=hi+i+1 from rfl,this]
    · rintro σ H' ⟨o,rfl,rfl⟩
      rw [mix_end (by omega)]
      exact q2'
inductive SpJoinLike (P:Program) (w:World) (vs:List V) (H:Hp) (Q:VK):Prop
  | mk (T L:Addr) (us:List V) (ts:List Tm) (ls:List Nat) (es:List (Nat × Nat)) (z0:vs = [.ref T,.ref L]) (z1:H T=some (.lst us)) (z2:Tms H us ts) (z3:H L=some (.lst (ls.map nV))) (z4:T≠L) (z5:GoodL ls) (z6:Sound ts es ls) (z7:Arms ts) (z8:ls.length=ts.length) (z9:ts.length≤1000) (z10:(∀ (i:Nat) x as,ts[i]? = some (.of x as)→as.length≤1000)) (z11:∀ ls' b H',But L H H'→H' L=some (.lst (ls'.map nV))→GoodL ls'→Sound ts es ls'→Keeps ls ls'→ls'.length=ls.length→(b=true→ls'.sum < ls.sum)→(b=false→ls'=ls∧∀ (i j:Nat) (t u:Tm),ts[i]? = some t→ts[j]? = some u→mk ls t=mk ls u→ls[i]? = ls[j]?)→Q (.bl b) H'):SpJoinLike P w vs H Q
noncomputable def spJoinLike (P:Program) (w:World):Sp:=fun vs H Q _=>SpJoinLike P w vs H Q
inductive Iv_join_like1 (P:Program) (w:World) (H:Hp) (T:Addr) (L:Addr) (p:Addr) (ts:List Tm) (es:List (Nat × Nat)) (ls:List Nat) (i:Nat) (σ : St) (H':Hp):Prop
  | mk:∀ (ls':List Nat) (jd:Bool) (kvs:List (NK × V)) (x4 x5 x6:Option V),(σ = [some (.ref T),some (.ref L),some (.bl jd),some (.ref p),x4,x5,x6])→(But L H H')→(H' L=some (.lst (ls'.map nV)))→(DN P w H' p kvs)→(GoodL ls')→(Sound ts es ls')→(Keeps ls ls')→(ls'.length=ls.length)→((jd=true→ls'.sum < ls.sum))→((jd=false→ls'=ls))→(ls'.sum≤ls.sum)→(kvs.length≤i)→((∀ key v,valV kvs key=some v→∃ j t m,v=nV j∧ts[j]? = some t∧key=tmNK m∧Stands ts es t m))→((jd=false→∀ (j:Nat) t,j < i→ts[j]? = some t→∃ j',valV kvs (tmNK (mk ls t))=some (nV j')∧ls[j']? = ls[j]?))→Iv_join_like1 P w H T L p ts es ls i σ H'
theorem ok_join_like (B:Blt mg) (h_mark:Has P w K mg base 1 "mark" ["term", "leads"] (spMark K)) (h_join_classes:Has P w K mg base 1 "join_classes" ["leads", "a", "b"] spJoin) (D:Def K mg "join_like" s_join_like ["terms", "leads"]) :
    Has P w K mg base 2 "join_like" ["terms", "leads"] (spJoinLike P w):=by
  refine D.has sc_join_like (fun vs H Q E h => ?_) (fun f cdv A outer s H vs Q E hr h => ?_)
  · obtain ⟨T,L,us,ts,ls,es,rfl,_⟩:=h;rfl
  obtain ⟨T,L,us,ts,ls,es,rfl,hT,hts,hL,hTL,hg,hs,har,hlen,hz,hza,q⟩:=h
  refine ⟨_,(pss_cons (ps_set (i:=2) sc_join_like.nd rfl (Or.inl rfl) pe_bl)
    (pss_cons (ps_set (i:=3) sc_join_like.nd rfl (Or.inl rfl) pe_dnewN)
    (pss_cons (ps_for PassesOwn.never rfl (pi_enum rfl B.enumerate_ (pa_cons (pv 0) pa_nil)) (pg_tup rfl (pgs_cons (pg_name (i:=4) sc_join_like.nd rfl (Or.inl rfl)) (pgs_cons (pg_name (i:=5) sc_join_like.nd rfl (Or.inl rfl)) pgs_nil)))
    (pss_cons (ps_set (i:=6) sc_join_like.nd rfl (Or.inl rfl) (pe_setD (un10 hr) (pv 3) (pe_callH h_mark hr (by omega) rfl (pa_cons (pv 5) (pa_cons (pv 1) pa_nil))) (pv 4) ⟨rfl,rfl,rfl,rfl⟩))
    (pss_one (ps_if (pt_val (pe_callH h_join_classes hr (by omega) rfl (pa_cons (pv 1) (pa_cons (pv 6) (pa_cons (pv 4) pa_nil))))) (pss_one (ps_set (i:=2) sc_join_like.nd rfl (Or.inl rfl) pe_bl)) pss_nil))))
    (pss_one (ps_ret (pv 2)))))),?_⟩
  try dsimp only [cxOf]
  have hut:=Paired.length hts
  intro p φ hp dn0
  dsimp only [gName]
  have hpL:p≠L:=fun e=>by rw [e,hL] at hp;cases hp
  have hpT:p≠T:=fun e=>by rw [e,hT] at hp;cases hp
  refine ⟨_,rfl,T,rfl,⟨us,SqL.of (by rw [upd_ne (Ne.symm hpT)];exact hT)⟩,?_⟩
  refine for_enum (xs:=us) (Iv_join_like1 P w H T L p ts es ls)
    ⟨ls,false, [],none,none,none,rfl,(But.refl L H).new hp,by rw [upd_ne (Ne.symm hpL)];exact hL,dn0,hg,hs,keeps_refl ls,rfl,(fun z=>nomatch z),fun _=>rfl,Nat.le_refl _,Nat.zero_le _,(fun key v e=>by rw [valV_nil] at e;cases e),fun _ j t hj=>absurd hj (Nat.not_lt_zero _)⟩ ?_ ?_ ?_
  · rintro i σ H' _ ⟨ls',jd,kvs,x4,x5,x6,rfl,bt,_⟩
    exact SqL.of (bt T _ hTL hT)
  · rintro i x a0 σ H' hx ⟨ls',jd,kvs,x4,x5,x6,rfl,bt,hL',dn,hg',hs',hk',hlen',hjt,hjf,hsum,hkl,iA,iB⟩ ha0
    obtain ⟨t,ht,hx'⟩:=tms_at hts hx
    have hi:i < ts.length:=(List.getElem?_eq_some_iff.mp ht).1
    have sm0:=same_new ha0 (.tup [.int (i:Int),x])
    have bt1:=bt.same sm0
    have itx:IsTm (upd H' a0 (.tup [.int (i:Int),x])) t x:=hx'.keep (bt1.tup hL)
    have hL1:=sm0 _ _ hL'
    have dn1:=dn.same sm0
    refine ⟨a0,_,rfl,SqT.of upd_same,rfl,_,_,rfl,_,_,rfl,rfl,?_⟩
    generalize upd H' a0 (.tup [.int (i:Int),x])=H1 at bt1 itx hL1 dn1 ⊢
    have hb:∀ x as,t = .of x as→as.length≤1000∧∀ a∈as,a < ls'.length:=fun x as e=>by
      subst e
      refine ⟨hza i x as ht,fun a ha => ?_⟩
      have:=har i x as ht a ha
      omega
    refine ⟨_,rfl,p,rfl,⟨kvs,dn1⟩,_,rfl,_,rfl,x,t,L,ls',rfl,itx,SqL.of hL1,hb,fun v' H2 sm2 hm => ?_⟩
    obtain ⟨b,rfl,nk⟩:=hm.key
    have dn2:=dn1.same sm2
    have hL2:=sm2 _ _ hL1
    have bt2:=bt1.same sm2
    obtain ⟨li,hli⟩:∃ li,ls'[i]? = some li:=⟨_,List.getElem?_eq_getElem (by omega)⟩
    refine ⟨_,rfl,kvs,tmNK (mk ls' t),b,dn2,rfl,nk,small1000 (by omega),fun v hv => ?_,fun hn φ2 dn3 => ?_⟩
    · -- there is one already
      obtain ⟨j,u,m,rfl,hu,hkey,hst⟩:=iA _ _ hv
      have em:m=mk ls' t:=tmNK_inj hkey.symm
      subst em
      have hj:j < ts.length:=(List.getElem?_eq_some_iff.mp hu).1
      obtain ⟨lj,hlj⟩:∃ lj,ls'[j]? = some lj:=⟨_,List.getElem?_eq_getElem (by omega)⟩
      have eq:Eqv ts es j i:=stands_eqv hu ht hst (stands_mk hs' (fun x as e=>(hb x as e).2))
      refine ⟨_,rfl,_,rfl,_,rfl,L,ls',j,i,lj,li,rfl,hL2,hg',by omega,hlj,hli,fun e => ?_,fun e => ?_⟩
      · refine ⟨_,rfl,iteF ⟨ls',jd,kvs,_,_,_,rfl,bt2,hL2,dn2,hg',hs',hk',hlen',hjt,hjf,hsum,by omega,iA,fun hjd j' t' hj' ht' => ?_⟩⟩
        by_cases hji:j' < i
        · exact iB hjd j' t' hji ht'
        · have e':j'=i:=by omega
          subst e'
          rw [ht] at ht';cases ht'
          have el:=hjf hjd
          rw [el] at hv hlj hli
          exact ⟨j,hv,by rw [hlj,hli,e]⟩
      · have e1:Eqv ts es lj li := .trans (.symm (hs' j lj hlj)) (.trans eq (hs' i li hli))
        have g1:=(hg' j lj hlj).2
        have g2:=(hg' i li hli).2
        have eqv:Eqv ts es (max lj li) (min lj li):=by
          rcases Nat.le_total lj li with h | h
          · rw [Nat.max_eq_right h,Nat.min_eq_left h];exact e1.symm
          · rw [Nat.max_eq_left h,Nat.min_eq_right h];exact e1
        have hlo:ls'[min lj li]? = some (min lj li):=by
          rcases Nat.le_total lj li with h | h
          · rw [Nat.min_eq_left h];exact g1
          · rw [Nat.min_eq_right h];exact g2
        have hhi:max lj li∈ls':=by
          rcases Nat.le_total lj li with h | h
          · rw [Nat.max_eq_right h];exact List.mem_of_getElem? g2
          · rw [Nat.max_eq_left h];exact List.mem_of_getElem? g1
        have hlt:min lj li < max lj li:=by omega
        have hsm:=sum_jn hlt hhi
        refine ⟨_,rfl,iteT ?_⟩
        refine ⟨jn ls' (max lj li) (min lj li),true,kvs,_,_,_,rfl,bt2.put,upd_same,dn2.keep (fun φ e=>by rw [upd_ne hpL];exact e) (fun c ys e=>by rw [upd_ne (ne_of e hL2 (fun z=>nomatch z))];exact e),
          good_jn hg' hlo hlt,sound_jn hs' eqv,hk'.trans (keeps_jn _ _ _),by rw [jn_len];exact hlen',fun _=>by omega,(fun z=>nomatch z),by omega,by omega,iA,(fun z=>nomatch z)⟩
    · -- it is the first one
      have hL3:(upd H2 p (.ext φ2)) L=some (.lst (ls'.map nV)):=by rw [upd_ne (Ne.symm hpL)];exact hL2
      refine ⟨_,rfl,_,rfl,_,rfl,L,ls',i,i,li,li,rfl,hL3,hg',by omega,hli,hli,fun _ => ?_,fun z=>absurd rfl z⟩
      refine ⟨_,rfl,iteF ⟨ls',jd,_,_,_,_,rfl,bt2.new hp,hL3,dn3,hg',hs',hk',hlen',hjt,hjf,hsum,by rw [List.length_append];show kvs.length+1≤i+1;omega,fun key v e => ?_,fun hjd j' t' hj' ht' => ?_⟩⟩
      · rw [valV_snoc _ _ _ _ hn] at e
        by_cases hk:key=tmNK (mk ls' t)
        · rw [if_pos hk] at e
          cases e
          exact ⟨i,t,mk ls' t,rfl,ht,hk,stands_mk hs' (fun x as e=>(hb x as e).2)⟩
        · rw [if_neg hk] at e
          exact iA key v e
      · have el:=hjf hjd
        rw [valV_snoc _ _ _ _ hn]
        by_cases hji:j' < i
        · obtain ⟨j2,e1,e2⟩:=iB hjd j' t' hji ht'
          by_cases hk:tmNK (mk ls t')=tmNK (mk ls' t)
          · rw [hk,hn] at e1;cases e1
          · rw [if_neg hk];exact ⟨j2,e1,e2⟩
        · have e':j'=i:=by omega
          subst e'
          rw [ht] at ht';cases ht'
          rw [el,if_pos rfl]
          exact ⟨j',rfl,rfl⟩
  · rintro σ H' ⟨ls',jd,kvs,x4,x5,x6,rfl,bt,hL',dn,hg',hs',hk',hlen',hjt,hjf,hsum,hkl,iA,iB⟩
    refine ⟨_,rfl,q ls' jd H' bt hL' hg' hs' hk' hlen' hjt fun hjd=>⟨hjf hjd,fun i j t u hi hj hm => ?_⟩⟩
    obtain ⟨i',a1,a2⟩:=iB hjd i t (by rw [hut];exact (List.getElem?_eq_some_iff.mp hi).1) hi
    obtain ⟨j',b1,b2⟩:=iB hjd j u (by rw [hut];exact (List.getElem?_eq_some_iff.mp hj).1) hj
    rw [hm,b1] at a1
    have e:i'=j':=by have:=V.int.inj (Option.some.inj a1);omega
    rw [← a2, ← b2,e]
inductive SpClosed (K:PySem.W.Frag) (vs:List V) (H:Hp) (Q:VK):Prop
  | mk (T E:Addr) (us evs:List V) (ts:List Tm) (es:List (Nat × Nat)) (z0:vs = [.ref T,.ref E]) (z1:H T=some (.lst us)) (z2:Tms H us ts) (z3:SqL K H E evs) (z4:Edges H evs es) (z5:Arms ts) (z6:ts.length≤1000) (z7:(∀ (i:Nat) x as,ts[i]? = some (.of x as)→as.length≤1000)) (z8:(∀ a b:Nat,(a,b)∈es→a < ts.length∧b < ts.length)) (z9:∀ L ls H',Same H H'→H L=none→H' L=some (.lst (ls.map nV))→Closed ts es ls→Q (.ref L) H'):SpClosed K vs H Q
noncomputable def spClosed (K:PySem.W.Frag):Sp:=fun vs H Q _=>SpClosed K vs H Q
inductive Iv_closed2 (H:Hp) (T:Addr) (E:Addr) (L:Addr) (ts:List Tm) (es:List (Nat × Nat)) (σ':St) (H':Hp):Prop
  | mk:∀ (ls:List Nat) (x3:Option V),(σ' = [some (.ref T),some (.ref E),some (.ref L),x3])→(Same H H')→(H' L=some (.lst (ls.map nV)))→(GoodL ls)→(Sound ts es ls)→(ls.length=ts.length)→(∀ a b:Nat,(a,b)∈es→ls[a]? = ls[b]?)→Iv_closed2 H T E L ts es σ' H'
inductive Iv_closed3 (H:Hp) (T:Addr) (E:Addr) (L:Addr) (ts:List Tm) (es:List (Nat × Nat)) (i:Nat) (σ':St) (H':Hp):Prop
  | mk:∀ (ls:List Nat) (x3:Option V),(σ' = [some (.ref T),some (.ref E),some (.ref L),x3])→(Same H H')→(H' L=some (.lst (ls.map nV)))→(GoodL ls)→(Sound ts es ls)→(ls.length=ts.length)→(∀ (j a b:Nat),j < i→es[j]? = some (a,b)→ls[a]? = ls[b]?)→Iv_closed3 H T E L ts es i σ' H'
theorem ok_closed (B:Blt mg) (h_join_classes:Has P w K mg base 1 "join_classes" ["leads", "a", "b"] spJoin) (h_join_like:Has P w K mg base 2 "join_like" ["terms", "leads"] (spJoinLike P w)) (D:Def K mg "closed" s_closed ["terms", "edges"]) :
    Has P w K mg base 3 "closed" ["terms", "edges"] (spClosed K):=by
  refine D.has sc_closed (fun vs H Q E h => ?_) (fun f cdv A outer s H vs Q E hr h => ?_)
  · obtain ⟨T,E,us,evs,ts,es,rfl,_⟩:=h;rfl
  obtain ⟨T,E,us,evs,ts,es,rfl,hT,hts,hE,hes,har,hz,hza,hee,q⟩:=h
  refine ⟨_,(pss_cons (ps_set (i:=2) sc_closed.nd rfl (Or.inl rfl) (pe_callTy (call_list_rng rfl) rfl B.list_ boot_list_ (pa_cons (pe_callTy call_range1V rfl B.range_ PyProof.Rows.boot_range (pa_cons (pe_callB call_len_seq rfl B.len_ PySem.boot_len (pa_cons (pv 0) pa_nil)) pa_nil)) pa_nil)))
    (pss_cons (ps_for PassesOwn.never rfl (pi_list (pv 1)) (pg_name (i:=3) sc_closed.nd rfl (Or.inl rfl))
    (pss_one (ps_expr (pe_callH h_join_classes hr (by omega) rfl (pa_cons (pv 2) (pa_cons (pe_ix ix_tup (pv 3) pe_int (fun _ _=>rfl)) (pa_cons (pe_ix ix_tup (pv 3) pe_int (fun _ _=>rfl)) pa_nil)))))))
    (pss_cons (ps_while PassesOwn.never (pt_val (pe_callH h_join_like hr (by omega) rfl (pa_cons (pv 0) (pa_cons (pv 2) pa_nil))))
    (pss_one ps_pass))
    (pss_one (ps_ret (pv 2)))))),?_⟩
  try dsimp only [cxOf]
  have hut:=Paired.length hts
  have hue:=Paired.length hes
  refine ⟨_,rfl,T,us,rfl,.inl (SqL.of hT),_,rfl,fun r hr0=>⟨r,us.length,rfl,upd_same,by omega,fun L hL0 => ?_⟩⟩
  dsimp only [gName]
  have hLH:H L=none:=by
    by_cases e:L=r
    · rw [e];exact hr0
    · rw [upd_ne e] at hL0;exact hL0
  have sm0:Same H (upd (upd H r (.rng 0 ((us.length:Nat):Int))) L (.lst ((List.range us.length).map fun i:Nat=>V.int (i:Int)))):=(same_new hr0 _).trans (same_new hL0 _)
  have hL1:(upd (upd H r (.rng 0 ((us.length:Nat):Int))) L (.lst ((List.range us.length).map fun i:Nat=>V.int (i:Int)))) L=some (.lst ((List.range ts.length).map nV)):=by rw [upd_same,hut]
  generalize (upd (upd H r (.rng 0 ((us.length:Nat):Int))) L (.lst ((List.range us.length).map fun i:Nat=>V.int (i:Int))))=H1 at sm0 hL1 ⊢
  have hTL:T≠L:=fun e=>by rw [e,hLH] at hT;cases hT
  refine rd_cut (Iv_closed2 H T E L ts es) ?_ (fun key => ?_)
  · rintro σ' H2 ⟨ls,x3,rfl,sm2,hL2,hg2,hs2,hlen2,hed2⟩
    refine ⟨fun m σ' H'=>∃ (ls:List Nat),m=ls.sum ∧ σ' = [some (.ref T),some (.ref E),some (.ref L),x3]∧Same H H'∧H' L=some (.lst (ls.map nV))∧GoodL ls∧Sound ts es ls∧ls.length=ts.length∧∀ a b:Nat,(a,b)∈es→ls[a]? = ls[b]?,
      ⟨_,ls,rfl,rfl,sm2,hL2,hg2,hs2,hlen2,hed2⟩,?_⟩
    rintro m σ' H3 ⟨ls,rfl,rfl,sm3,hL3,hg3,hs3,hlen3,hed3⟩
    refine ⟨_,rfl,_,rfl,T,L,us,ts,ls,es,rfl,sm3 _ _ hT,tms_same sm3 hts,hL3,hTL,hg3,hs3,har,hlen3,hz,hza,fun ls' b H4 bt hL4 hg4 hs4 hk4 hlen4 hbt hbf => ?_⟩
    have sm4:Same H H4:=fun c o h=>bt c o (fun e=>by rw [e,hLH] at h;cases h) (sm3 c o h)
    have hed4:∀ a b:Nat,(a,b)∈es→ls'[a]? = ls'[b]? := fun a b h=>by
      obtain ⟨h1,h2⟩:=hee a b h
      obtain ⟨v,hv⟩:∃ v,ls[a]? = some v:=⟨_,List.getElem?_eq_getElem (by omega)⟩
      obtain ⟨u,e1,e2⟩:=hk4 a b v hv (by rw [← hed3 a b h];exact hv)
      rw [e1,e2]
    refine ⟨_,rfl,?_⟩
    cases b with
    | true =>
      refine iteT ⟨fun σ' H'=>∃ m',m' < ls.sum∧∃ (ls:List Nat),m'=ls.sum ∧ σ' = [some (.ref T),some (.ref E),some (.ref L),x3]∧Same H H'∧H' L=some (.lst (ls.map nV))∧GoodL ls∧Sound ts es ls∧ls.length=ts.length∧∀ a b:Nat,(a,b)∈es→ls[a]? = ls[b]?,fun σ' H' h=>h,?_⟩
      exact ⟨_,hbt rfl,ls',rfl,rfl,sm4,hL4,hg4,hs4,by omega,hed4⟩
    | false =>
      obtain ⟨el,hm⟩:=hbf rfl
      refine iteF ⟨_,rfl,q L ls' H4 sm4 hLH hL4 ⟨by omega,hg4,hs4,fun i j hi hj e => ?_⟩⟩
      rw [el]
      exact complete har hee hlen3 hed3 hm e
  · refine ⟨_,rfl,E,rfl,⟨evs,sm0.seq hE⟩,?_⟩
    refine for_list (xs:=evs) (Iv_closed3 H T E L ts es)
      ⟨_,none,rfl,sm0,hL1,good_id _,sound_id _ _ _,List.length_range,fun j a b hj=>absurd hj (Nat.not_lt_zero _)⟩ ?_ ?_ ?_
    · rintro i σ' H' _ ⟨ls,x3,rfl,sm,_⟩
      exact sm.seq hE
    · rintro i x σ' H' hx ⟨ls,x3,rfl,sm,hL',hg',hs',hlen',hed'⟩
      obtain ⟨⟨a,b⟩,he,ea,rest,rfl,hea⟩:=edges_at hes hx
      have hea':=sm _ _ hea
      obtain ⟨ha,hb⟩:=hee a b (List.mem_of_getElem? he)
      obtain ⟨la,hla⟩:∃ la,ls[a]? = some la:=⟨_,List.getElem?_eq_getElem (by omega)⟩
      obtain ⟨lb,hlb⟩:∃ lb,ls[b]? = some lb:=⟨_,List.getElem?_eq_getElem (by omega)⟩
      refine ⟨_,rfl,_,rfl,ea,_,0,_,rfl,rfl,SqT.of hea',atI_nat (j:=0) rfl,_,rfl,ea,_,1,_,rfl,rfl,SqT.of hea',atI_nat (j:=1) rfl,L,ls,a,b,la,lb,rfl,hL',hg',by omega,hla,hlb,fun e => ?_,fun e => ?_⟩
      · refine ⟨ls,_,rfl,sm,hL',hg',hs',hlen',fun j c d hj hcd => ?_⟩
        by_cases hji:j < i
        · exact hed' j c d hji hcd
        · have e':j=i:=by omega
          subst e'
          rw [he] at hcd;cases hcd
          rw [hla,hlb,e]
      · have e1:Eqv ts es la lb := .trans (.symm (hs' a la hla)) (.trans (.edge (List.mem_of_getElem? he)) (hs' b lb hlb))
        have g1:=(hg' a la hla).2
        have g2:=(hg' b lb hlb).2
        have eqv:Eqv ts es (max la lb) (min la lb):=by
          rcases Nat.le_total la lb with h | h
          · rw [Nat.max_eq_right h,Nat.min_eq_left h];exact e1.symm
          · rw [Nat.max_eq_left h,Nat.min_eq_right h];exact e1
        have hlo:ls[min la lb]? = some (min la lb):=by
          rcases Nat.le_total la lb with h | h
          · rw [Nat.min_eq_left h];exact g1
          · rw [Nat.min_eq_right h];exact g2
        have hlt:min la lb < max la lb:=by omega
        refine ⟨jn ls (max la lb) (min la lb),_,rfl,sm.put hLH,upd_same,good_jn hg' hlo hlt,sound_jn hs' eqv,by rw [jn_len];exact hlen',fun j c d hj hcd => ?_⟩
        by_cases hji:j < i
        · have:=hed' j c d hji hcd
          rw [jn_at,jn_at,this]
        · have e':j=i:=by omega
          subst e'
          rw [he] at hcd;cases hcd
          rw [jn_at,jn_at,hla,hlb]
          show some _=some _
          unfold ren
          by_cases h:la≤lb
          · rw [Nat.max_eq_right h,Nat.min_eq_left h,if_neg e,if_pos rfl]
          · rw [Nat.max_eq_left (by omega),Nat.min_eq_right (by omega),if_pos rfl,if_neg (fun z=>e z.symm)]
    · rintro σ' H' ⟨ls,x3,rfl,sm,hL',hg',hs',hlen',hed'⟩
      refine key _ _ ⟨ls,x3,rfl,sm,hL',hg',hs',hlen',fun a b h => ?_⟩
      obtain ⟨j,hj⟩:=List.mem_iff_getElem?.mp h
      exact hed' j a b (by rw [hue];exact (List.getElem?_eq_some_iff.mp hj).1) hj
end

end K21
namespace K21
open PySem L2 Sw
section
variable {P:Program} {w:World} {K:PySem.W.Frag} {mg:Str→Option Value} {base:Heap} {CS:Addr}
theorem rd_ifR {c:TT} {t u:TS} {D:Ends} {σ : St} {H:Hp} (R:Bool→Hp→Prop) (hc:∀ Q:Bool→Hp→Prop,(∀ b H',R b H'→Q b H')→c σ H Q) (h1:∀ H',R true H'→t D σ H') (h2:∀ H',R false H'→u D σ H'):tIfS c t u D σ H:=by
  refine hc _ (fun b H' r => ?_)
  cases b with
  | true=>exact iteT (h1 H' r)
  | false=>exact iteF (h2 H' r)
noncomputable def opV:Option Nat→V
  | some l=>nV l
  | none => .non
noncomputable def prNK (p:Nat × Nat):NK := [.inl (.inl (p.1:Int)),.inl (.inl (p.2:Int))]
theorem prNK_inj {p q:Nat × Nat} (h:prNK p=prNK q):p=q:=by
  unfold prNK at h
  injection h with h1 h2
  injection h2 with h2 _
  have e1:=Sum.inl.inj (Sum.inl.inj h1)
  have e2:=Sum.inl.inj (Sum.inl.inj h2)
  exact Prod.ext (by omega) (by omega)
theorem pr_key {H:Hp} {b:Addr} {x y:Nat} (h:H b=some (.tup [nV x,nV y])):NKey H (prNK (x,y)) b:=⟨_,h,_,rfl,_,rfl,rfl⟩
noncomputable abbrev PairsAt (H:Hp):List V→List (Nat × Nat)→Prop:=Paired fun v p=>∃ q,v=V.ref q∧H q=some (.tup [nV p.1,nV p.2])
theorem pairs_keep {H H':Hp} {vs:List V} {l:List (Nat × Nat)} (h:PairsAt H vs l) (k:∀ c ys,H c=some (.tup ys)→H' c=some (.tup ys)):PairsAt H' vs l:=Paired.mapP h fun _ _ ⟨q,e,hq⟩=>⟨q,e,k _ _ hq⟩
structure SA where
  T:Addr
  L:Addr
  W:Addr
  S:Addr
  Hd:Addr
  Sg:Addr
  Aw:Addr
  Lk:Addr
  Lr:List Addr
  Wr:List Addr
  Sr:List Addr
noncomputable def rowV (L:Mx) (n a:Nat):List V:=(List.range n).map fun b=>opV (L a b)
structure WRow (n:Nat) (kvs:List (Key × V)) (f:Nat→Option Nat):Prop where
  val:∀ b:Nat,valV kvs (.inl (b:Int))=(f b).map nV
  key:∀ kv∈kvs,∃ b m:Nat,kv=((.inl (b:Int):Key),nV m)∧b < n
  nd:(kvs.map (·.1)).Nodup
structure HRow (H:Hp) (n:Nat) (kvs:List (Key × V)) (f:Nat→Option (Nat × Nat)):Prop where
  non:∀ a:Nat,f a=none→valV kvs (.inl (a:Int))=none
  som:∀ (a k b:Nat),f a=some (k,b)→∃ p,valV kvs (.inl (a:Int))=some (.ref p)∧H p=some (.tup [nV k,nV a,nV b])
  key:∀ kv∈kvs,∃ a:Nat,kv.1=(.inl (a:Int):Key)∧a < n
  nd:(kvs.map (·.1)).Nodup
structure PD (P:Program) (w:World) (H:Hp) (a:Addr) (n:Nat) (kvs:List (NK × V)) (f:Nat × Nat→Option V):Prop where
  dn:DN P w H a kvs
  val:∀ p,valV kvs (prNK p)=f p
  key:∀ kv∈kvs,∃ p:Nat × Nat,kv.1=prNK p∧p.1 < n∧p.2 < n
noncomputable def AwAt (P:Program) (w:World) (H:Hp) (A:SA) (n:Nat) (aw:Nat × Nat→List (Nat × Nat)):Prop := ∃ kvs,DN P w H A.Aw kvs∧(∀ kv∈kvs,∃ p:Nat × Nat,kv.1=prNK p∧p.1 < n∧p.2 < n) ∧
  ∀ q,(aw q = []∧valV kvs (prNK q)=none)∨∃ c vs,valV kvs (prNK q)=some (.ref c)∧H c=some (.lst vs)∧PairsAt H vs (aw q)∧c ∉ A.Lr∧c ∉ A.Sr
structure Sep (A:SA):Prop where
  nL:A.Lr.Nodup
  nW:(A.Hd :: A.Wr).Nodup
  nS:A.Sr.Nodup
  dLS:∀ c∈A.Lr,c ∉ A.Sr
  top:∀ c ∈ [A.T,A.L,A.W,A.S],c ∉ A.Lr∧c ∉ A.Sr
  e1:A.Sg≠A.Aw
  e2:A.Sg≠A.Lk
  e3:A.Aw≠A.Lk
structure SeAt (P:Program) (w:World) (CS o dx:Addr) (A:SA) (us:List V) (ts:List Tm) (aw:Nat × Nat→List (Nat × Nat)) (H:Hp) (s:SS) (lk:Nat × Nat→Option Nat):Prop where
  ins:H o=some (.ins CS dx [("terms",.ref A.T),("least",.ref A.L),("waiting",.ref A.W),("heads",.ref A.Hd),("single",.ref A.Sg),("steps",.ref A.S),("awaited",.ref A.Aw),("lacking",.ref A.Lk)])
  hT:H A.T=some (.lst us)
  tms:Tms H us ts
  hL:H A.L=some (.lst (A.Lr.map V.ref))
  lL:A.Lr.length=ts.length
  rL:∀ (a:Nat) (c:Addr),A.Lr[a]? = some c→H c=some (.lst (rowV s.L ts.length a))
  hW:H A.W=some (.lst (A.Wr.map V.ref))
  lW:A.Wr.length=ts.length
  rW:∀ (a:Nat) (c:Addr),A.Wr[a]? = some c→∃ kvs,H c=some (.dK kvs)∧WRow ts.length kvs (s.W a)
  hH:∃ kvs,H A.Hd=some (.dK kvs)∧HRow H ts.length kvs s.Hd
  sg:∃ kvs,PD P w H A.Sg ts.length kvs fun p=>(s.Sg p.1 p.2).map nV
  hS:H A.S=some (.lst (A.Sr.map V.ref))
  lS:A.Sr.length=ts.length
  rS:∀ (a:Nat) (c:Addr),A.Sr[a]? = some c→∃ vs,H c=some (.lst vs)∧PairsAt H vs (s.St a)
  aw_:AwAt P w H A ts.length aw
  lk_:∃ kvs,PD P w H A.Lk ts.length kvs fun p=>(lk p).map nV
  sep:Sep A
  few:ts.length≤30
section
variable {H H':Hp} {o dx:Addr} {A:SA} {us:List V} {ts:List Tm} {aw:Nat × Nat→List (Nat × Nat)} {s s':SS} {lk lk':Nat × Nat→Option Nat} {x:Addr}
theorem PD.but {a:Addr} {n:Nat} {kvs:List (NK × V)} {f:Nat × Nat→Option V} (h:PD P w H a n kvs f) (bt:But x H H') (na:a≠x) (nt:∀ c ys,H c=some (.tup ys)→c≠x):PD P w H' a n kvs f :=
  ⟨h.dn.keep (fun φ e=>bt _ _ na e) (fun c ys e=>bt _ _ (nt c ys e) e),h.val,h.key⟩
theorem HRow.but {n:Nat} {kvs:List (Key × V)} {f:Nat→Option (Nat × Nat)} (h:HRow H n kvs f) (k:∀ c ys,H c=some (.tup ys)→H' c=some (.tup ys)):HRow H' n kvs f :=
  ⟨h.non,fun a m b e=>by obtain ⟨p,h1,h2⟩:=h.som a m b e;exact ⟨p,h1,k _ _ h2⟩,h.key,h.nd⟩
theorem AwAt.but {n:Nat} (h:AwAt P w H A n aw) (bt:But x H H') (na:A.Aw≠x) (nt:∀ c ys,H c=some (.tup ys)→c≠x) (nl:∀ c vs,H c=some (.lst vs)→c ∉ A.Lr→c ∉ A.Sr→c≠x):AwAt P w H' A n aw:=by
  obtain ⟨kvs,d,hk,hq⟩:=h
  refine ⟨kvs,d.keep (fun φ e=>bt _ _ na e) (fun c ys e=>bt _ _ (nt c ys e) e),hk,fun q => ?_⟩
  rcases hq q with h | ⟨c,vs,h1,h2,h3,h4,h5⟩
  · exact .inl h
  · exact .inr ⟨c,vs,h1,bt _ _ (nl c vs h2 h4 h5) h2,pairs_keep h3 fun c ys e=>bt _ _ (nt c ys e) e,h4,h5⟩
structure Off (H:Hp) (o:Addr) (A:SA) (x:Addr):Prop where
  o:o≠x
  T:A.T≠x
  L:A.L≠x
  W:A.W≠x
  S:A.S≠x
  tup:∀ c ys,H c=some (.tup ys)→c≠x
theorem SeAt.parts (h:SeAt P w CS o dx A us ts aw H s lk) (bt:But x H H') (of:Off H o A x)
    (rL:∀ (a:Nat) (c:Addr),A.Lr[a]? = some c→H' c=some (.lst (rowV s'.L ts.length a)))
    (rW:∀ (a:Nat) (c:Addr),A.Wr[a]? = some c→∃ kvs,H' c=some (.dK kvs)∧WRow ts.length kvs (s'.W a))
    (hH:∃ kvs,H' A.Hd=some (.dK kvs)∧HRow H' ts.length kvs s'.Hd) (sg:∃ kvs,PD P w H' A.Sg ts.length kvs fun p=>(s'.Sg p.1 p.2).map nV)
    (rS:∀ (a:Nat) (c:Addr),A.Sr[a]? = some c→∃ vs,H' c=some (.lst vs)∧PairsAt H' vs (s'.St a)) (aw_:AwAt P w H' A ts.length aw) (lk_:∃ kvs,PD P w H' A.Lk ts.length kvs fun p=>(lk' p).map nV):SeAt P w CS o dx A us ts aw H' s' lk' :=
  ⟨bt _ _ of.o h.ins,bt _ _ of.T h.hT,tms_keep (fun c ys e=>bt _ _ (of.tup c ys e) e) h.tms,bt _ _ of.L h.hL,h.lL,rL,bt _ _ of.W h.hW,h.lW,rW,hH,sg,bt _ _ of.S h.hS,h.lS,rS,aw_,lk_,h.sep,h.few⟩
theorem SeAt.same (h:SeAt P w CS o dx A us ts aw H s lk) (sm:Same H H'):SeAt P w CS o dx A us ts aw H' s lk:=by
  have k:∀ c ys,H c=some (.tup ys)→H' c=some (.tup ys):=fun c ys e=>sm _ _ e
  refine ⟨sm _ _ h.ins,sm _ _ h.hT,tms_same sm h.tms,sm _ _ h.hL,h.lL,fun a c e=>sm _ _ (h.rL a c e),sm _ _ h.hW,h.lW,fun a c e => ?_,?_,?_,sm _ _ h.hS,h.lS,fun a c e => ?_,?_,?_,h.sep,h.few⟩
  · obtain ⟨kvs,h1,h2⟩:=h.rW a c e;exact ⟨kvs,sm _ _ h1,h2⟩
  · obtain ⟨kvs,h1,h2⟩:=h.hH;exact ⟨kvs,sm _ _ h1,h2.but k⟩
  · obtain ⟨kvs,h1⟩:=h.sg;exact ⟨kvs,h1.dn.same sm,h1.val,h1.key⟩
  · obtain ⟨vs,h1,h2⟩:=h.rS a c e;exact ⟨vs,sm _ _ h1,pairs_keep h2 k⟩
  · obtain ⟨kvs,d,hk,hq⟩:=h.aw_
    exact ⟨kvs,d.same sm,hk,fun q=>(hq q).imp id fun ⟨c,vs,h1,h2,h3,h4⟩=>⟨c,vs,h1,sm _ _ h2,pairs_keep h3 k,h4⟩⟩
  · obtain ⟨kvs,h1⟩:=h.lk_;exact ⟨kvs,h1.dn.same sm,h1.val,h1.key⟩
theorem SeAt.offL (h:SeAt P w CS o dx A us ts aw H s lk) {vs:List V} (hx:H x=some (.lst vs)) (h1:x ∉ [A.T,A.L,A.W,A.S]):Off H o A x :=
  ⟨ne_of h.ins hx (fun z=>nomatch z),fun z=>h1 (by simp [z]),fun z=>h1 (by simp [z]),fun z=>h1 (by simp [z]),fun z=>h1 (by simp [z]),fun c ys e=>ne_of e hx (fun z=>nomatch z)⟩
theorem SeAt.offD (h:SeAt P w CS o dx A us ts aw H s lk) {u:HO} (hx:H x=some u) (hl:∀ vs,u ≠ .lst vs) (ht:∀ vs,u ≠ .tup vs) (hi:∀ a b c,u ≠ .ins a b c):Off H o A x :=
  ⟨ne_of h.ins hx (fun z=>hi _ _ _ z.symm),ne_of h.hT hx (fun z=>hl _ z.symm),ne_of h.hL hx (fun z=>hl _ z.symm),ne_of h.hW hx (fun z=>hl _ z.symm),ne_of h.hS hx (fun z=>hl _ z.symm),fun c ys e=>ne_of e hx (fun z=>ht _ z.symm)⟩
theorem at_ne {l:List Addr} (hn:l.Nodup) {i j:Nat} {a b:Addr} (hi:l[i]? = some a) (hj:l[j]? = some b) (hij:i≠j):a≠b:=fun z=>by
  subst z
  exact hij ((List.getElem?_inj (List.getElem?_eq_some_iff.mp hi).1 hn).mp (hi.trans hj.symm))
theorem SeAt.setL (h:SeAt P w CS o dx A us ts aw H s lk) {r:Nat} {c:Addr} (hc:A.Lr[r]? = some c) (L':Mx) (hL':∀ a b,a≠r→L' a b=s.L a b) :
    SeAt P w CS o dx A us ts aw (upd H c (.lst (rowV L' ts.length r))) { s with L:=L' } lk:=by
  have hx:=h.rL r c hc
  have hm:=List.mem_of_getElem? hc
  have bt:But c H (upd H c (.lst (rowV L' ts.length r))):=fun b o n e=>by rw [upd_ne n];exact e
  have of:Off H o A c:=h.offL hx fun z=>by have:=(h.sep.top c z).1;exact this hm
  have nS:∀ b∈A.Sr,b≠c:=fun b hb z=>h.sep.dLS c hm (by rw [← z];exact hb)
  obtain ⟨hk,hh1,hh2⟩:=h.hH
  obtain ⟨kg,g1⟩:=h.sg
  obtain ⟨kl,l1⟩:=h.lk_
  refine h.parts bt of ?_ ?_ ⟨hk,bt _ _ (ne_of hh1 hx (fun z=>nomatch z)) hh1,hh2.but fun d ys e=>bt _ _ (of.tup d ys e) e⟩ ⟨kg,g1.but bt (fun z=>by obtain ⟨φ,e⟩:=g1.dn.ext;rw [z,hx] at e;cases e) of.tup⟩ ?_ (h.aw_.but bt (fun z=>by obtain ⟨kvs,d,_⟩:=h.aw_;obtain ⟨φ,e⟩:=d.ext;rw [z,hx] at e;cases e) of.tup fun d vs e n1 n2 z=>n1 (by rw [z];exact hm)) ⟨kl,l1.but bt (fun z=>by obtain ⟨φ,e⟩:=l1.dn.ext;rw [z,hx] at e;cases e) of.tup⟩
  · intro a d hd
    by_cases e:a=r
    · subst e
      rw [hc] at hd
      cases hd
      exact upd_same
    · rw [upd_ne (at_ne h.sep.nL hd hc e),h.rL a d hd]
      unfold rowV
      congr 2
      exact List.map_congr_left fun b _=>by show opV (s.L a b)=opV (L' a b);rw [hL' a b e]
  · intro a d hd
    obtain ⟨kvs,e1,e2⟩:=h.rW a d hd
    exact ⟨kvs,bt _ _ (ne_of e1 hx (fun z=>nomatch z)) e1,e2⟩
  · intro a d hd
    obtain ⟨vs,e1,e2⟩:=h.rS a d hd
    exact ⟨vs,bt _ _ (nS d (List.mem_of_getElem? hd)) e1,pairs_keep e2 fun b ys e=>bt _ _ (of.tup b ys e) e⟩
theorem SeAt.setW (h:SeAt P w CS o dx A us ts aw H s lk) {r:Nat} {c:Addr} (hc:A.Wr[r]? = some c) {kvs:List (Key × V)} (W':Mx) (hW':∀ a b,a≠r→W' a b=s.W a b) (row:WRow ts.length kvs (W' r)) :
    SeAt P w CS o dx A us ts aw (upd H c (.dK kvs)) { s with W:=W' } lk:=by
  obtain ⟨k0,hx,_⟩:=h.rW r c hc
  have hm:=List.mem_of_getElem? hc
  have bt:But c H (upd H c (.dK kvs)):=fun b o n e=>by rw [upd_ne n];exact e
  have of:Off H o A c:=h.offD hx (fun _ z=>nomatch z) (fun _ z=>nomatch z) (fun _ _ _ z=>nomatch z)
  have nW:=List.nodup_cons.mp h.sep.nW
  obtain ⟨hk,hh1,hh2⟩:=h.hH
  obtain ⟨kg,g1⟩:=h.sg
  obtain ⟨kl,l1⟩:=h.lk_
  refine h.parts bt of ?_ ?_ ⟨hk,bt _ _ (fun z=>nW.1 (by rw [z];exact hm)) hh1,hh2.but fun d ys e=>bt _ _ (of.tup d ys e) e⟩ ⟨kg,g1.but bt (fun z=>by obtain ⟨φ,e⟩:=g1.dn.ext;rw [z,hx] at e;cases e) of.tup⟩ ?_ (h.aw_.but bt (fun z=>by obtain ⟨kvs,d,_⟩:=h.aw_;obtain ⟨φ,e⟩:=d.ext;rw [z,hx] at e;cases e) of.tup fun d vs e n1 n2=>ne_of e hx (fun z=>nomatch z)) ⟨kl,l1.but bt (fun z=>by obtain ⟨φ,e⟩:=l1.dn.ext;rw [z,hx] at e;cases e) of.tup⟩
  · intro a d hd
    have e1:=h.rL a d hd
    exact bt _ _ (ne_of e1 hx (fun z=>nomatch z)) e1
  · intro a d hd
    by_cases e:a=r
    · subst e
      rw [hc] at hd
      cases hd
      exact ⟨kvs,upd_same,row⟩
    · obtain ⟨kv2,e1,e2⟩:=h.rW a d hd
      refine ⟨kv2,by rw [upd_ne (at_ne nW.2 hd hc e)];exact e1,?_⟩
      have:W' a=s.W a:=funext fun b=>hW' a b e
      show WRow ts.length kv2 (W' a)
      rw [this];exact e2
  · intro a d hd
    obtain ⟨vs,e1,e2⟩:=h.rS a d hd
    exact ⟨vs,bt _ _ (ne_of e1 hx (fun z=>nomatch z)) e1,pairs_keep e2 fun b ys e=>bt _ _ (of.tup b ys e) e⟩
theorem SeAt.setH (h:SeAt P w CS o dx A us ts aw H s lk) {kvs:List (Key × V)} (Hd':Nat→Option (Nat × Nat)) (row:HRow H ts.length kvs Hd'):SeAt P w CS o dx A us ts aw (upd H A.Hd (.dK kvs)) { s with Hd:=Hd' } lk:=by
  obtain ⟨k0,hx,_⟩:=h.hH
  have bt:But A.Hd H (upd H A.Hd (.dK kvs)):=fun b o n e=>by rw [upd_ne n];exact e
  have of:Off H o A A.Hd:=h.offD hx (fun _ z=>nomatch z) (fun _ z=>nomatch z) (fun _ _ _ z=>nomatch z)
  have nW:=List.nodup_cons.mp h.sep.nW
  obtain ⟨kg,g1⟩:=h.sg
  obtain ⟨kl,l1⟩:=h.lk_
  refine h.parts bt of ?_ ?_ ⟨kvs,upd_same,row.but fun d ys e=>bt _ _ (of.tup d ys e) e⟩ ⟨kg,g1.but bt (fun z=>by obtain ⟨φ,e⟩:=g1.dn.ext;rw [z,hx] at e;cases e) of.tup⟩ ?_ (h.aw_.but bt (fun z=>by obtain ⟨kvs,d,_⟩:=h.aw_;obtain ⟨φ,e⟩:=d.ext;rw [z,hx] at e;cases e) of.tup fun d vs e n1 n2=>ne_of e hx (fun z=>nomatch z)) ⟨kl,l1.but bt (fun z=>by obtain ⟨φ,e⟩:=l1.dn.ext;rw [z,hx] at e;cases e) of.tup⟩
  · intro a d hd
    have e1:=h.rL a d hd
    exact bt _ _ (ne_of e1 hx (fun z=>nomatch z)) e1
  · intro a d hd
    obtain ⟨kv2,e1,e2⟩:=h.rW a d hd
    exact ⟨kv2,by rw [upd_ne (fun z=>nW.1 (by rw [← z];exact List.mem_of_getElem? hd))];exact e1,e2⟩
  · intro a d hd
    obtain ⟨vs,e1,e2⟩:=h.rS a d hd
    exact ⟨vs,bt _ _ (ne_of e1 hx (fun z=>nomatch z)) e1,pairs_keep e2 fun b ys e=>bt _ _ (of.tup b ys e) e⟩
theorem SeAt.setS (h:SeAt P w CS o dx A us ts aw H s lk) {r:Nat} {c:Addr} (hc:A.Sr[r]? = some c) {vs:List V} (S':Nat→List (Nat × Nat)) (hS':∀ a,a≠r→S' a=s.St a) (row:PairsAt H vs (S' r)) :
    SeAt P w CS o dx A us ts aw (upd H c (.lst vs)) { s with St:=S' } lk:=by
  obtain ⟨v0,hx,_⟩:=h.rS r c hc
  have hm:=List.mem_of_getElem? hc
  have bt:But c H (upd H c (.lst vs)):=fun b o n e=>by rw [upd_ne n];exact e
  have of:Off H o A c:=h.offL hx fun z=>by have:=(h.sep.top c z).2;exact this hm
  obtain ⟨hk,hh1,hh2⟩:=h.hH
  obtain ⟨kg,g1⟩:=h.sg
  obtain ⟨kl,l1⟩:=h.lk_
  refine h.parts bt of ?_ ?_ ⟨hk,bt _ _ (ne_of hh1 hx (fun z=>nomatch z)) hh1,hh2.but fun d ys e=>bt _ _ (of.tup d ys e) e⟩ ⟨kg,g1.but bt (fun z=>by obtain ⟨φ,e⟩:=g1.dn.ext;rw [z,hx] at e;cases e) of.tup⟩ ?_ (h.aw_.but bt (fun z=>by obtain ⟨kvs,d,_⟩:=h.aw_;obtain ⟨φ,e⟩:=d.ext;rw [z,hx] at e;cases e) of.tup fun d vs e n1 n2 z=>n2 (by rw [z];exact hm)) ⟨kl,l1.but bt (fun z=>by obtain ⟨φ,e⟩:=l1.dn.ext;rw [z,hx] at e;cases e) of.tup⟩
  · intro a d hd
    exact bt _ _ (fun z=>h.sep.dLS d (List.mem_of_getElem? hd) (by rw [z];exact hm)) (h.rL a d hd)
  · intro a d hd
    obtain ⟨kvs,e1,e2⟩:=h.rW a d hd
    exact ⟨kvs,bt _ _ (ne_of e1 hx (fun z=>nomatch z)) e1,e2⟩
  · intro a d hd
    by_cases e:a=r
    · subst e
      rw [hc] at hd
      cases hd
      exact ⟨vs,upd_same,pairs_keep row fun b ys e=>bt _ _ (of.tup b ys e) e⟩
    · obtain ⟨v2,e1,e2⟩:=h.rS a d hd
      refine ⟨v2,by rw [upd_ne (at_ne h.sep.nS hd hc e)];exact e1,?_⟩
      show PairsAt _ v2 (S' a)
      rw [hS' a e]
      exact pairs_keep e2 fun b ys e=>bt _ _ (of.tup b ys e) e
theorem SeAt.setP (h:SeAt P w CS o dx A us ts aw H s lk) {φ : Heap→Prop} (hx:x=A.Sg∨x=A.Lk) (Sg':Mx) (lk':Nat × Nat→Option Nat) (h1:x=A.Sg→(∃ kvs,PD P w (upd H x (.ext φ)) A.Sg ts.length kvs fun p=>(Sg' p.1 p.2).map nV)∧lk'=lk) (h2:x=A.Lk→(∃ kvs,PD P w (upd H x (.ext φ)) A.Lk ts.length kvs fun p=>(lk' p).map nV)∧Sg'=s.Sg) :
    SeAt P w CS o dx A us ts aw (upd H x (.ext φ)) { s with Sg:=Sg' } lk':=by
  obtain ⟨kg,g1⟩:=h.sg
  obtain ⟨kl,l1⟩:=h.lk_
  obtain ⟨ψ,hx0⟩:∃ ψ,H x=some (.ext ψ):=by
    rcases hx with rfl | rfl
    · exact g1.dn.ext
    · exact l1.dn.ext
  have bt:But x H (upd H x (.ext φ)):=fun b o n e=>by rw [upd_ne n];exact e
  have of:Off H o A x:=h.offD hx0 (fun _ z=>nomatch z) (fun _ z=>nomatch z) (fun _ _ _ z=>nomatch z)
  obtain ⟨hk,hh1,hh2⟩:=h.hH
  have nAw:A.Aw≠x:=by rcases hx with rfl | rfl;exact Ne.symm h.sep.e1;exact h.sep.e3
  refine h.parts bt of ?_ ?_ ⟨hk,bt _ _ (ne_of hh1 hx0 (fun z=>nomatch z)) hh1,hh2.but fun d ys e=>bt _ _ (of.tup d ys e) e⟩ ?_ ?_ (h.aw_.but bt nAw of.tup fun d vs e n1 n2=>ne_of e hx0 (fun z=>nomatch z)) ?_
  · intro a d hd
    have e1:=h.rL a d hd
    exact bt _ _ (ne_of e1 hx0 (fun z=>nomatch z)) e1
  · intro a d hd
    obtain ⟨kvs,e1,e2⟩:=h.rW a d hd
    exact ⟨kvs,bt _ _ (ne_of e1 hx0 (fun z=>nomatch z)) e1,e2⟩
  · by_cases e:x=A.Sg
    · exact (h1 e).1
    · have e':=hx.resolve_left e
      rw [(h2 e').2]
      exact ⟨kg,g1.but bt (fun z=>e z.symm) of.tup⟩
  · intro a d hd
    obtain ⟨vs,e1,e2⟩:=h.rS a d hd
    exact ⟨vs,bt _ _ (ne_of e1 hx0 (fun z=>nomatch z)) e1,pairs_keep e2 fun b ys e=>bt _ _ (of.tup b ys e) e⟩
  · by_cases e:x=A.Lk
    · exact (h2 e).1
    · have e':=hx.resolve_right e
      rw [(h1 e').2]
      exact ⟨kl,l1.but bt (fun z=>e z.symm) of.tup⟩
end
end

end K21
namespace K21
open PySem L2 Sw
section
variable {P:Program} {w:World} {K:PySem.W.Frag} {mg:Str→Option Value} {base:Heap} {CS:Addr}
structure TopSe (K:PySem.W.Frag) (mg:Str→Option Value) (CS:Addr):Prop where
  cS:Cls K CS
  nTerms:NoAttr K CS "terms"
  nLeast:NoAttr K CS "least"
  nWaiting:NoAttr K CS "waiting"
  nHeads:NoAttr K CS "heads"
  nSingle:NoAttr K CS "single"
  nSteps:NoAttr K CS "steps"
  nAwaited:NoAttr K CS "awaited"
  nLacking:NoAttr K CS "lacking"
noncomputable def Owns (A:SA) (c:Addr):Prop:=c∈A.Lr∨c∈A.Wr∨c=A.Hd∨c=A.Sg
noncomputable def ButO (A:SA) (H H':Hp):Prop := ∀ c o, ¬ Owns A c→H c=some o→H' c=some o
theorem ButO.refl (A:SA) (H:Hp):ButO A H H:=fun _ _ _ e=>e
theorem ButO.trans {A:SA} {H H1 H2:Hp} (a:ButO A H H1) (b:ButO A H1 H2):ButO A H H2:=fun c o n e=>b c o n (a c o n e)
theorem ButO.upd {A:SA} {H H':Hp} (a:ButO A H H') {c:Addr} {o:HO} (hc:Owns A c):ButO A H (upd H' c o):=fun d u n e=>by rw [upd_ne (fun z=>n (by rw [z];exact hc))];exact a d u n e
theorem ButO.same {A:SA} {H H1 H2:Hp} (a:ButO A H H1) (b:Same H1 H2):ButO A H H2:=fun c o n e=>b _ _ (a c o n e)
theorem row_set {L:Mx} {n a b k:Nat} (hb:b < n):(rowV L n a).set b (nV k)=rowV (setM L a b k) n a:=by
  unfold rowV
  refine List.ext_getElem? fun i => ?_
  rw [List.getElem?_set,List.length_map,List.length_range,List.getElem?_map,List.getElem?_map]
  by_cases e:b=i
  · subst e
    rw [if_pos rfl,if_pos hb,List.getElem?_range hb]
    show _=some (opV (setM L a b k a b))
    rw [setM_at];rfl
  · rw [if_neg e]
    cases q:(List.range n)[i]? with
    | none=>rfl
    | some j =>
      have hj:j=i:=by
        have:=(List.getElem?_eq_some_iff.mp q).2
        rw [List.getElem_range] at this;exact this.symm
      show some (opV (L a j))=some (opV (setM L a b k a j))
      rw [setM_ne (fun z=>e (by rw [← z.2,hj]))]
theorem row_len (L:Mx) (n a:Nat):(rowV L n a).length=n:=by unfold rowV;rw [List.length_map,List.length_range]
theorem row_at {L:Mx} {n a b:Nat} (hb:b < n):(rowV L n a)[b]? = some (opV (L a b)):=by unfold rowV;rw [List.getElem?_map,List.getElem?_range hb];rfl
theorem ix_nat {n b:Nat} (h:b < n):ixN n (b:Int)=some b:=by
  unfold ixN
  rw [if_pos (by omega),if_pos (by omega),Int.toNat_natCast]
theorem min_nV (a b:Nat):V.int (if (b:Int) < (a:Int) then (b:Int) else (a:Int))=nV (min a b):=by
  show _=V.int _
  congr 1
  split <;> omega
theorem max_nV (a b:Nat):V.int (if (b:Int) > (a:Int) then (b:Int) else (a:Int))=nV (max a b):=by
  show _=V.int _
  congr 1
  split <;> omega
theorem put_keys {kvs:List (Key × V)} {k:Key} {v:V} (h:(kvs.map (·.1)).Nodup):((putK kvs k v).map (·.1)).Nodup:=by
  cases e:valV kvs k with
  | none =>
    rw [putK_new v e,List.map_append,List.nodup_append]
    refine ⟨h,List.nodup_cons.mpr ⟨List.not_mem_nil,List.nodup_nil⟩,fun a ha b hb z => ?_⟩
    have hb:b=k:=List.mem_singleton.mp hb
    obtain ⟨kv,hkv,ekv⟩:=List.mem_map.mp ha
    have:=valV_mem h kv hkv
    rw [show kv.1=k from ekv.trans (z.trans hb),e] at this
    cases this
  | some u =>
    have:(putK kvs k v).map (·.1)=kvs.map (·.1):=by
      unfold putK
      rw [if_pos (by cases q:kvs.any fun kv=>decide (kv.1=k) with
        | true=>rfl
        | false=>rw [valV_any] at q;rw [e] at q;cases q)]
      rw [List.map_map]
      exact List.map_congr_left fun p _=>by show (if p.1=k then _ else p).1=p.1;split <;> rename_i c <;> first | exact c.symm | rfl
    rw [this];exact h
theorem put_mem {κ : Type} [DecidableEq κ] {kvs:List (κ × V)} {k : κ} {v:V} {kv : κ × V} (h:kv∈putK kvs k v):kv∈kvs∨kv=(k,v):=by
  cases e:valV kvs k with
  | none =>
    rw [putK_new v e] at h
    exact (List.mem_append.mp h).imp id fun z=>List.mem_singleton.mp z
  | some u =>
    unfold putK at h
    rw [if_pos (by cases q:kvs.any fun kv=>decide (kv.1=k) with
        | true=>rfl
        | false=>rw [valV_any] at q;rw [e] at q;cases q)] at h
    obtain ⟨p,hp,ep⟩:=List.mem_map.mp h
    by_cases c:p.1=k
    · rw [if_pos c,c] at ep;exact .inr ep.symm
    · rw [if_neg c] at ep;exact .inl (by rw [← ep];exact hp)
theorem WRow.put {n:Nat} {kvs:List (Key × V)} {W:Mx} {l h k:Nat} (r:WRow n kvs (W l)) (hh:h < n):WRow n (putK kvs (.inl (h:Int)) (nV k)) (setM W l h k l):=by
  refine ⟨fun b => ?_,fun kv hkv => ?_,put_keys r.nd⟩
  · rw [valV_put]
    by_cases e:b=h
    · subst e
      rw [if_pos rfl,setM_at];rfl
    · rw [if_neg (fun z=>e (by have:=Sum.inl.inj z;omega)),setM_ne (fun z=>e z.2),r.val]
  · rcases put_mem hkv with z | rfl
    · exact r.key kv z
    · exact ⟨h,k,rfl,hh⟩
theorem HRow.put {H:Hp} {n:Nat} {kvs:List (Key × V)} {f:Nat→Option (Nat × Nat)} {l h k:Nat} {p:Addr} (r:HRow H n kvs f) (hl:l < n) (hp:H p=some (.tup [nV k,nV l,nV h])):HRow H n (putK kvs (.inl (l:Int)) (.ref p)) (fun x=>if x=l then some (k,h) else f x):=by
  refine ⟨fun a e => ?_,fun a m b e => ?_,fun kv hkv => ?_,put_keys r.nd⟩
  · have e:(if a=l then some (k,h) else f a)=none:=e
    by_cases ea:a=l
    · rw [if_pos ea] at e;cases e
    · rw [if_neg ea] at e
      rw [valV_put,if_neg (fun z=>ea (by have:=Sum.inl.inj z;omega))];exact r.non a e
  · have e:(if a=l then some (k,h) else f a)=some (m,b):=e
    by_cases ea:a=l
    · rw [if_pos ea] at e
      cases e
      subst ea
      exact ⟨p,by rw [valV_put,if_pos rfl],hp⟩
    · rw [if_neg ea] at e
      obtain ⟨q,h1,h2⟩:=r.som a m b e
      exact ⟨q,by rw [valV_put,if_neg (fun z=>ea (by have:=Sum.inl.inj z;omega))];exact h1,h2⟩
  · rcases put_mem hkv with z | rfl
    · exact r.key kv z
    · exact ⟨l,rfl,hl⟩
theorem keys_few {kvs:List (Key × V)} {n:Nat} (hn:(kvs.map (·.1)).Nodup) (h:∀ kv∈kvs,∃ a:Nat,kv.1=(.inl (a:Int):Key)∧a < n):kvs.length≤n:=by
  have:=nodup_len (U:=(List.range n).map fun a:Nat=>(.inl (a:Int):Key)) hn fun x hx=>by
    obtain ⟨kv,hkv,rfl⟩:=List.mem_map.mp hx
    obtain ⟨a,e,ha⟩:=h kv hkv
    rw [e]
    exact List.mem_map.mpr ⟨a,List.mem_range.mpr ha,rfl⟩
  rw [List.length_map,List.length_map,List.length_range] at this
  exact this
theorem WRow.few {n:Nat} {kvs:List (Key × V)} {f:Nat→Option Nat} (r:WRow n kvs f):kvs.length≤n:=keys_few r.nd fun kv h=>by obtain ⟨b,m,rfl,hb⟩:=r.key kv h;exact ⟨b,rfl,hb⟩
theorem HRow.few {H:Hp} {n:Nat} {kvs:List (Key × V)} {f:Nat→Option (Nat × Nat)} (r:HRow H n kvs f):kvs.length≤n:=keys_few r.nd r.key
inductive SpOffer (P:Program) (w:World) (CS:Addr) (vs:List V) (H:Hp) (Q:VK):Prop
  | mk (o dx:Addr) (A:SA) (us:List V) (ts:List Tm) (aw:Nat × Nat→List (Nat × Nat)) (s:SS) (lk:Nat × Nat→Option Nat) (a b k:Nat) (z0:vs = [.ref o,nV a,nV b,nV k]) (z1:SeAt P w CS o dx A us ts aw H s lk) (z2:a < ts.length) (z3:b < ts.length) (z4:a≠b)
    (z5:∀ H',ButO A H H'→SeAt P w CS o dx A us ts aw H' (offerF s a b k false) lk→Q .non H'):SpOffer P w CS vs H Q
noncomputable def spOffer (P:Program) (w:World) (CS:Addr):Sp:=fun vs H Q _=>SpOffer P w CS vs H Q
theorem ref_at {l:List Addr} {i:Nat} {c:Addr} (h:l[i]? = some c):atI (l.map V.ref) (i:Int)=some (.ref c):=by
  refine atI_nat ?_
  rw [List.getElem?_map,h];rfl
theorem ok_offer (B:Blt mg) (Z:TopSe K mg CS) (D:DefM K CS "offer" "Search.offer" s_offer ["self", "a", "b", "length"]):HasM P w K mg base 1 CS "offer" ["self", "a", "b", "length"] (spOffer P w CS):=by
  have cS:=Z.cS
  refine D.has sc_offer (fun vs H Q E h => ?_) (fun f cdv A outer s H vs Q E hr h => ?_)
  · obtain ⟨o,dx,A,us,ts,aw,s,lk,a,b,k,rfl,_⟩:=h;rfl
  obtain ⟨o,dx,A,us,ts,aw,s,lk,a,b,k,rfl,h,ha,hb,hab,q⟩:=h
  refine ⟨_,(pss_cons (ps_asg (pv 3) (pg_sub (pe_ix ix_list (pe_fld (pv 0) rfl) (pv 1) (fun _ _=>rfl)) (pv 2) set_list))
    (pss_cons (ps_asg (pv 3) (pg_sub (pe_ix ix_list (pe_fld (pv 0) rfl) (pv 2) (fun _ _=>rfl)) (pv 1) set_list))
    (pss_cons (ps_set (i:=4) sc_offer.nd rfl (Or.inl rfl) (pe_callB (call_min2 rfl) rfl B.min_ boot_min_ (pa_cons (pv 1) (pa_cons (pv 2) pa_nil))))
    (pss_cons (ps_set (i:=5) sc_offer.nd rfl (Or.inl rfl) (pe_callB (call_max2 rfl) rfl B.max_ boot_max_ (pa_cons (pv 1) (pa_cons (pv 2) pa_nil))))
    (pss_cons (ps_dput (hu_of hr) (pe_ix ix_list (pe_fld (pv 0) rfl) (pv 4) (fun _ _=>rfl)) (pv 5) (pv 3) rfl)
    (pss_one (ps_if (PW.pt (pw_or (pt_cmp (pc_dnotin (hu_of hr) (pv 4) (pe_fld (pv 0) rfl)) (by with_unfolding_all rfl)) (pw_or1 (pt_cmpR op_lt (pv 3) (pe_ix ix_tup (pe_dget (hu_of hr) (pe_fld (pv 0) rfl) (pv 4) (fun _ _=>rfl)) pe_int (fun _ _=>rfl)) (nomark _))))) (pss_one (ps_dput (hu_of hr) (pe_fld (pv 0) rfl) (pv 4) (pe_tup (pa_cons (pv 3) (pa_cons (pv 4) (pa_cons (pv 5) pa_nil)))) rfl)) pss_nil))))))),?_⟩
  try dsimp only [cxOf]
  obtain ⟨ca,hca⟩:∃ c,A.Lr[a]? = some c:=⟨_,List.getElem?_eq_getElem (by rw [h.lL];exact ha)⟩
  obtain ⟨cb,hcb⟩:∃ c,A.Lr[b]? = some c:=⟨_,List.getElem?_eq_getElem (by rw [h.lL];exact hb)⟩
  refine ⟨_,rfl,_,rfl,o,CS,dx,_,_,rfl,h.ins,Z.cS,Z.nLeast,rfl,_,rfl,A.L,_,_,_,rfl,rfl,SqL.of h.hL,ref_at hca,_,rfl,ca,_,_,b,rfl,rfl,h.rL a ca hca,by rw [row_len];exact ix_nat hb,?_⟩
  rw [row_set hb]
  have h1:=h.setL hca (setM s.L a b k) (fun x y n=>setM_ne (fun z=>n z.1))
  have b1:=(ButO.refl A H).upd (c:=ca) (o := .lst (rowV (setM s.L a b k) ts.length a)) (.inl (List.mem_of_getElem? hca))
  generalize upd H ca (.lst (rowV (setM s.L a b k) ts.length a))=H1 at h1 b1 ⊢
  refine ⟨_,rfl,_,rfl,o,CS,dx,_,_,rfl,h1.ins,Z.cS,Z.nLeast,rfl,_,rfl,A.L,_,_,_,rfl,rfl,SqL.of h1.hL,ref_at hcb,_,rfl,cb,_,_,a,rfl,rfl,h1.rL b cb hcb,by rw [row_len];exact ix_nat ha,?_⟩
  rw [row_set ha]
  have h2:=h1.setL hcb (setM (setM s.L a b k) b a k) (fun x y n=>setM_ne (fun z=>n z.1))
  have b2:=b1.upd (c:=cb) (o := .lst (rowV (setM (setM s.L a b k) b a k) ts.length b)) (.inl (List.mem_of_getElem? hcb))
  generalize upd H1 cb (.lst (rowV (setM (setM s.L a b k) b a k) ts.length b))=H2 at h2 b2 ⊢
  refine ⟨_,rfl,_,rfl,_,_,rfl,?_⟩
  rw [min_nV]
  dsimp only [gName]
  refine ⟨_,rfl,_,rfl,_,_,rfl,?_⟩
  rw [max_nV]
  dsimp only [gName]
  have hlo:min a b < ts.length:=by omega
  have hhi:max a b < ts.length:=by omega
  obtain ⟨cw,hcw⟩:∃ c,A.Wr[min a b]? = some c:=⟨_,List.getElem?_eq_getElem (by rw [h.lW];exact hlo)⟩
  obtain ⟨kw,hw1,hw2⟩:=h2.rW _ cw hcw
  have few:=h.few
  refine ⟨_,rfl,_,rfl,o,CS,dx,_,_,rfl,h2.ins,Z.cS,Z.nWaiting,rfl,_,rfl,A.W,_,_,_,rfl,rfl,SqL.of h2.hW,ref_at hcw,_,rfl,cw,_,rfl,DPut.k (k := .inl ((max a b:Nat):Int)) hw1 (small1000 (by have:=hw2.few;omega)),?_⟩
  have h3:=h2.setW hcw (kvs:=putK kw (.inl ((max a b:Nat):Int)) (nV k)) (setM s.W (min a b) (max a b) k) (fun x y n=>setM_ne (fun z=>n z.1)) (hw2.put hhi)
  have b3:=b2.upd (c:=cw) (o := .dK (putK kw (.inl ((max a b:Nat):Int)) (nV k))) (.inr (.inl (List.mem_of_getElem? hcw)))
  generalize upd H2 cw (.dK (putK kw (.inl ((max a b:Nat):Int)) (nV k)))=H3 at h3 b3 ⊢
  obtain ⟨kh,hh1,hh2⟩:=id h3.hH
  dsimp only
  refine rd_ifR (fun c Hc=>Hc=H3∧c=headLess (s.Hd (min a b)) k) (fun Qc qc => ?_) ?_ ?_
  · cases e:s.Hd (min a b) with
    | none =>
      have hg:DGet H3 A.Hd (nV (min a b)) none:=by
        have:=DGet.k (k:=(.inl ((min a b:Nat):Int):Key)) hh1
        rw [hh2.non _ e] at this
        exact this
      exact ⟨_,rfl,_,rfl,o,CS,dx,_,_,rfl,h3.ins,Z.cS,Z.nHeads,rfl,A.Hd,_,rfl,hg,_,rfl,iteT (qc true _ ⟨rfl,by rw [e];rfl⟩)⟩
    | some pm =>
      obtain ⟨m,h'⟩:=pm
      obtain ⟨p,hp1,hp2⟩:=hh2.som _ m h' e
      have hg:DGet H3 A.Hd (nV (min a b)) (some (.ref p)):=by
        have:=DGet.k (k:=(.inl ((min a b:Nat):Int):Key)) hh1
        rw [hp1] at this
        exact this
      refine ⟨_,rfl,_,rfl,o,CS,dx,_,_,rfl,h3.ins,Z.cS,Z.nHeads,rfl,A.Hd,_,rfl,hg,_,rfl,iteF ?_⟩
      refine ⟨_,rfl,_,rfl,o,CS,dx,_,_,rfl,h3.ins,Z.cS,Z.nHeads,rfl,_,rfl,A.Hd,_,rfl,hg,p,_,0,_,rfl,rfl,SqT.of hp2,atI_nat (j:=0) rfl,_,_,rfl,rfl,_,rfl,qc _ _ ⟨rfl,?_⟩⟩
      rw [e]
      show decide ((k:Int) < (m:Int))=decide (k < m)
      rw [Bool.eq_iff_iff,decide_eq_true_iff,decide_eq_true_iff];omega
  · rintro Hc ⟨rfl,e⟩
    refine ⟨_,rfl,_,rfl,_,rfl,(show 3≤sizeLine by decide),fun p hp => ?_⟩
    have s4:=same_new hp (.tup [nV k,nV (min a b),nV (max a b)])
    have hp4:=upd_same (H:=Hc) (a:=p) (o := .tup [nV k,nV (min a b),nV (max a b)])
    generalize upd Hc p (.tup [nV k,nV (min a b),nV (max a b)])=H4 at s4 hp4 ⊢
    have h4:=h3.same s4
    have hh4:=s4 _ _ hh1
    have hr4:=hh2.but (H':=H4) fun c ys e=>s4 _ _ e
    refine ⟨_,rfl,o,CS,dx,_,_,rfl,h4.ins,Z.cS,Z.nHeads,rfl,_,rfl,A.Hd,_,rfl,DPut.k (k := .inl ((min a b:Nat):Int)) hh4 (small1000 (by have:=hr4.few;omega)),?_⟩
    refine q _ ((b3.same s4).upd (.inr (.inr (.inl rfl)))) ?_
    have h5:=h4.setH _ (hr4.put hlo hp4)
    have es:(⟨setM (setM s.L a b k) b a k,setM s.W (min a b) (max a b) k,fun x=>if x=min a b then some (k,max a b) else s.Hd x,s.Sg,s.St,s.dn⟩:SS)=offerF s a b k false:=by
      have e3:(fun x=>if x=min a b then some (k,max a b) else s.Hd x)=fun x=>if x=min a b∧headLess (s.Hd (min a b)) k=true then some (k,max a b) else s.Hd x:=funext fun x=>by
        by_cases ex:x=min a b
        · rw [if_pos ex,if_pos ⟨ex,e.symm⟩]
        · rw [if_neg ex,if_neg (fun z=>ex z.1)]
      rw [e3];rfl
    rw [← es]
    exact h5
  · rintro Hc ⟨rfl,e⟩
    refine q _ b3 ?_
    have es:(⟨setM (setM s.L a b k) b a k,setM s.W (min a b) (max a b) k,s.Hd,s.Sg,s.St,s.dn⟩:SS)=offerF s a b k false:=by
      have e3:s.Hd=fun x=>if x=min a b∧headLess (s.Hd (min a b)) k=true then some (k,max a b) else s.Hd x:=funext fun x=>by
        rw [if_neg (fun z=>by rw [← e] at z;cases z.2)]
      show SS.mk _ _ s.Hd _ _ _=SS.mk _ _ (fun x=>if x=min a b∧headLess (s.Hd (min a b)) k=true then some (k,max a b) else s.Hd x) _ _ _
      rw [← e3];rfl
    rw [← es]
    exact h3
end

end K21
namespace K21
open PySem L2 Sw
section
variable {P:Program} {w:World} {K:PySem.W.Frag} {mg:Str→Option Value} {base:Heap} {CS:Addr}
theorem kn_keys {H:Hp} {kvs:List (NK × V)} {xs:List (NK × Addr × Value)} (rel:KN H kvs xs):kvs.map (·.1)=xs.map (·.1):=by
  induction rel with
  | nil=>rfl
  | cons h t ih=>rw [List.map_cons,List.map_cons,ih,h.1]
theorem dn_nodup {H:Hp} {a:Addr} {kvs:List (NK × V)} (d:DN P w H a kvs):(kvs.map (·.1)).Nodup:=by
  obtain ⟨_,_,xs,_,_,_,_,rel,_,_,_,hn⟩:=d
  rw [kn_keys rel];exact hn
theorem pairs_few {kvs:List (NK × V)} {n:Nat} (hn:(kvs.map (·.1)).Nodup) (h:∀ kv∈kvs,∃ p:Nat × Nat,kv.1=prNK p∧p.1 < n∧p.2 < n):kvs.length≤n * n:=by
  have:=nodup_len (U:=((List.range n).flatMap fun a=>(List.range n).map fun b=>prNK (a,b))) hn fun x hx=>by
    obtain ⟨kv,hkv,rfl⟩:=List.mem_map.mp hx
    obtain ⟨p,e,h1,h2⟩:=h kv hkv
    rw [e]
    exact List.mem_flatMap.mpr ⟨p.1,List.mem_range.mpr h1,List.mem_map.mpr ⟨p.2,List.mem_range.mpr h2,rfl⟩⟩
  rw [List.length_map] at this
  refine Nat.le_trans this ?_
  have fl:∀ m,((List.range m).flatMap fun a=>(List.range n).map fun b=>prNK (a,b)).length=m * n:=fun m=>by
    induction m with
    | zero=>simp
    | succ m ih=>rw [List.range_succ,List.flatMap_append,List.length_append,ih,Nat.succ_mul];simp
  rw [fl]
  exact Nat.le_refl _
theorem PD.few {H:Hp} {a:Addr} {n:Nat} {kvs:List (NK × V)} {f:Nat × Nat→Option V} (h:PD P w H a n kvs f) (hn:n≤30):kvs.length≤900:=Nat.le_trans (pairs_few (dn_nodup h.dn) h.key) (Nat.mul_le_mul hn hn)
theorem PD.put {H H':Hp} {a:Addr} {n:Nat} {kvs:List (NK × V)} {f:Nat × Nat→Option V} (h:PD P w H a n kvs f) {q:Nat × Nat} {v:V} (hq:q.1 < n∧q.2 < n) (d:DN P w H' a (putK kvs (prNK q) v)):PD P w H' a n (putK kvs (prNK q) v) (fun p=>if p=q then some v else f p):=by
  refine ⟨d,fun p => ?_,fun kv hkv => ?_⟩
  · rw [valV_put]
    by_cases e:p=q
    · rw [if_pos (by rw [e]),if_pos e]
    · rw [if_neg (fun z=>e (prNK_inj z)),if_neg e,h.val]
  · rcases put_mem hkv with z | rfl
    · exact h.key kv z
    · exact ⟨q,rfl,hq⟩
inductive SpStep (P:Program) (w:World) (CS:Addr) (vs:List V) (H:Hp) (Q:VK):Prop
  | mk (o dx:Addr) (A:SA) (us:List V) (ts:List Tm) (aw:Nat × Nat→List (Nat × Nat)) (s:SS) (lk:Nat × Nat→Option Nat) (a b k:Nat) (z0:vs = [.ref o,nV a,nV b,nV k]) (z1:SeAt P w CS o dx A us ts aw H s lk) (z2:a < ts.length) (z3:b < ts.length) (z4:a=b→less s.L a b k=false)
    (z5:∀ H',ButO A H H'→SeAt P w CS o dx A us ts aw H' (tryF s a b k true) lk→Q .non H'):SpStep P w CS vs H Q
noncomputable def spStep (P:Program) (w:World) (CS:Addr):Sp:=fun vs H Q _=>SpStep P w CS vs H Q
theorem less_read {L:Mx} {a b k:Nat} {H:Hp} {Q:Bool→Hp→Prop} (q:Q (less L a b k) H):if decide (opV (L a b)=V.non)=true then Q true H else ∃ i j,opV (L a b)=V.int j∧i=(k:Int)∧Q (decide (i < j)) H:=by
  unfold less at q
  cases e:L a b with
  | none =>
    rw [e] at q
    exact iteD (fun _=>q) (fun z=>absurd rfl z)
  | some m =>
    rw [e] at q
    refine iteD (fun z=>nomatch z) (fun _=>⟨k,m,rfl,rfl,?_⟩)
    have:decide ((k:Int) < (m:Int))=decide (k < m):=by rw [Bool.eq_iff_iff,decide_eq_true_iff,decide_eq_true_iff];omega
    rw [this];exact q
theorem ok_offer_step (B:Blt mg) (Z:TopSe K mg CS) (h_offer:HasM P w K mg base 1 CS "offer" ["self", "a", "b", "length"] (spOffer P w CS)) (D:DefM K CS "offer_step" "Search.offer_step" s_offer_step ["self", "a", "b", "length"]):HasM P w K mg base 2 CS "offer_step" ["self", "a", "b", "length"] (spStep P w CS):=by
  have cS:=Z.cS
  refine D.has sc_offer_step (fun vs H Q E h => ?_) (fun f cdv A outer s H vs Q E hr h => ?_)
  · obtain ⟨o,dx,A,us,ts,aw,s,lk,a,b,k,rfl,_⟩:=h;rfl
  obtain ⟨o,dx,A,us,ts,aw,s,lk,a,b,k,rfl,h,ha,hb,hab,q⟩:=h
  refine ⟨_,(pss_cons (ps_set (i:=4) sc_offer_step.nd rfl (Or.inl rfl) (pe_ix ix_list (pe_ix ix_list (pe_fld (pv 0) rfl) (pv 1) (fun _ _=>rfl)) (pv 2) (fun _ _=>rfl)))
    (pss_one (ps_if (PW.pt (pw_or (pt_cmpR op_isN (pv 4) pe_non (nomark _)) (pw_or1 (pt_cmpR op_lt (pv 3) (pv 4) (nomark _))))) (pss_cons (ps_nput (un10 hr) (pe_fld (pv 0) rfl) (pe_tup (pa_cons (pe_callB (call_min2 rfl) rfl B.min_ boot_min_ (pa_cons (pv 1) (pa_cons (pv 2) pa_nil))) (pa_cons (pe_callB (call_max2 rfl) rfl B.max_ boot_max_ (pa_cons (pv 1) (pa_cons (pv 2) pa_nil))) pa_nil))) (pv 3) rfl)
    (pss_one (ps_expr (pe_mE h_offer cS hr (by omega) (passE fun _ _ _ z=>z) (pv 0) (pa_cons (pv 1) (pa_cons (pv 2) (pa_cons (pv 3) pa_nil))))))) pss_nil))),?_⟩
  try dsimp only [cxOf]
  obtain ⟨ca,hca⟩:∃ c,A.Lr[a]? = some c:=⟨_,List.getElem?_eq_getElem (by rw [h.lL];exact ha)⟩
  refine ⟨_,rfl,o,CS,dx,_,_,rfl,h.ins,Z.cS,Z.nLeast,rfl,_,rfl,A.L,_,_,_,rfl,rfl,SqL.of h.hL,ref_at hca,_,rfl,ca,_,_,_,rfl,rfl,SqL.of (h.rL a ca hca),atI_nat (row_at hb),?_⟩
  dsimp only [gName]
  refine rd_ifR (fun c Hc=>Hc=H∧c=less s.L a b k) (fun Qc qc => ?_) ?_ ?_
  · have q0:=qc (less s.L a b k) H ⟨rfl,rfl⟩
    have lr:=less_read (Q:=Qc) q0
    refine ⟨_,rfl,rfl,_,rfl,?_⟩
    split at lr
    · rename_i c;rw [if_pos c];exact lr
    · rename_i c
      rw [if_neg c]
      obtain ⟨i,j,e1,rfl,qq⟩:=lr
      exact ⟨_,rfl,_,rfl,_,j,rfl,e1,_,rfl,qq⟩
  · rintro Hc ⟨rfl,e⟩
    have e:=e.symm
    have hne:a≠b:=fun z=>by rw [hab z] at e;cases e
    have hlo:min a b < ts.length:=by omega
    have hhi:max a b < ts.length:=by omega
    refine ⟨_,rfl,_,rfl,o,CS,dx,_,_,rfl,h.ins,Z.cS,Z.nSingle,rfl,_,rfl,_,rfl,_,_,rfl,_,rfl,_,rfl,_,_,rfl,(show 2≤sizeLine by decide),fun p hp => ?_⟩
    rw [min_nV,max_nV] at *
    have s1:=same_new hp (.tup [nV (min a b),nV (max a b)])
    have hp1:=upd_same (H:=Hc) (a:=p) (o := .tup [nV (min a b),nV (max a b)])
    generalize upd Hc p (.tup [nV (min a b),nV (max a b)])=H1 at s1 hp1 ⊢
    have h1:=h.same s1
    obtain ⟨kg,g1⟩:=id h1.sg
    refine ⟨A.Sg,p,kg,prNK (min a b,max a b),rfl,rfl,g1.dn,pr_key hp1,small1000 (by have:=g1.few h.few;omega),fun φ d => ?_⟩
    have h2:=h1.setP (φ := φ) (x:=A.Sg) (.inl rfl) (setM s.Sg (min a b) (max a b) k) lk (fun _=>⟨⟨_,by
      have:=g1.put ⟨hlo,hhi⟩ d
      refine ⟨this.dn,fun p => ?_,this.key⟩
      rw [this.val]
      by_cases ep:p=(min a b,max a b)
      · rw [if_pos ep,ep,setM_at];rfl
      · rw [if_neg ep,setM_ne (fun z=>ep (Prod.ext z.1 z.2))]⟩,rfl⟩) (fun z=>absurd z h.sep.e2)
    have b2:=(ButO.refl A Hc).same s1 |>.upd (c:=A.Sg) (o := .ext φ) (.inr (.inr (.inr rfl)))
    generalize upd H1 A.Sg (.ext φ)=H2 at h2 b2 ⊢
    refine ⟨_,rfl,o,dx,_,rfl,h2.ins,rfl,_,rfl,_,rfl,_,rfl,o,dx,A,us,ts,aw,_,lk,a,b,k,rfl,h2,ha,hb,hne,fun H3 b3 h3 => ?_⟩
    refine q H3 (b2.trans b3) ?_
    have es:tryF s a b k true=offerF s a b k true:=by unfold tryF;rw [if_pos e]
    rw [es]
    exact h3
  · rintro Hc ⟨rfl,e⟩
    have es:tryF s a b k true=s:=by unfold tryF;rw [if_neg (by rw [← e];decide)]
    refine q Hc (ButO.refl A Hc) ?_
    rw [es];exact h
end

end K21
namespace K21
open PySem L2 Sw
section
variable {P:Program} {w:World} {K:PySem.W.Frag} {mg:Str→Option Value} {base:Heap} {CS:Addr}
noncomputable def DiagOk (n:Nat) (s:SS):Prop := ∀ x,x < n→s.L x x=some 0
theorem diag_less {n:Nat} {s:SS} (h:DiagOk n s) {a k:Nat} (ha:a < n):less s.L a a k=false:=by
  unfold less
  rw [h a ha]
  exact decide_eq_false (Nat.not_lt_zero k)
theorem diag_try {n:Nat} {s:SS} (h:DiagOk n s) {a b k:Nat} {sg:Bool} (ha:a < n):DiagOk n (tryF s a b k sg):=by
  unfold tryF
  split
  · rename_i c
    have hne:a≠b:=fun z=>by rw [← z,diag_less h ha] at c;cases c
    intro x hx
    rw [offer_L,if_neg (fun z=>by rcases z with ⟨z1,z2⟩ | ⟨z1,z2⟩;exact hne (z1.symm.trans z2);exact hne (z2.symm.trans z1))]
    exact h x hx
  · exact h
theorem diag_length {n:Nat} {a k:Nat} (ha:a < n):∀ {l:List (Nat × Nat)} {s:SS},DiagOk n s→DiagOk n (lengthF a k s l)
  | [],s,h=>h
  | e :: l,s,h=>diag_length ha (l:=l) (diag_try h ha)
theorem st_try (s:SS) (a b k:Nat) (sg:Bool):(tryF s a b k sg).St=s.St∧(tryF s a b k sg).dn=s.dn:=by
  unfold tryF
  split <;> exact ⟨rfl,rfl⟩
theorem st_length (a k:Nat):∀ (l:List (Nat × Nat)) (s:SS),(lengthF a k s l).St=s.St
  | [],s=>rfl
  | e :: l,s=>(st_length a k l _).trans (st_try s a e.1 (k+e.2) false).1
theorem length_snoc {a k:Nat} {s:SS} {l:List (Nat × Nat)} {i:Nat} {e:Nat × Nat} (h:l[i]? = some e):lengthF a k s (l.take (i+1))=tryF (lengthF a k s (l.take i)) a e.1 (k+e.2) false:=by
  unfold lengthF
  rw [List.take_add_one,h,List.foldl_append];rfl
inductive SpLen (P:Program) (w:World) (CS:Addr) (vs:List V) (H:Hp) (Q:VK):Prop
  | mk (o dx:Addr) (A:SA) (us:List V) (ts:List Tm) (aw:Nat × Nat→List (Nat × Nat)) (s:SS) (lk:Nat × Nat→Option Nat) (a b k:Nat) (z0:vs = [.ref o,nV a,nV b,nV k]) (z1:SeAt P w CS o dx A us ts aw H s lk) (z2:a < ts.length) (z3:b < ts.length) (z4:DiagOk ts.length s) (z6:∀ e∈s.St b,e.1 < ts.length)
    (z5:∀ H',ButO A H H'→SeAt P w CS o dx A us ts aw H' (lengthF a k s (s.St b)) lk→Q .non H'):SpLen P w CS vs H Q
noncomputable def spLen (P:Program) (w:World) (CS:Addr):Sp:=fun vs H Q _=>SpLen P w CS vs H Q
inductive LnI (P:Program) (w:World) (CS o dx:Addr) (A:SA) (us:List V) (ts:List Tm) (aw:Nat × Nat→List (Nat × Nat)) (lk:Nat × Nat→Option Nat) (H:Hp) (τ : St) (a k:Nat) (s:SS) (l:List (Nat × Nat)) (i:Nat) (σ : St) (H':Hp):Prop
  | mk (x5 x6:Option V):(σ = τ ++ [x5,x6])→ButO A H H'→SeAt P w CS o dx A us ts aw H' (lengthF a k s (l.take i)) lk→LnI P w CS o dx A us ts aw lk H τ a k s l i σ H'
theorem SeAt.notOwn {H:Hp} {o dx:Addr} {A:SA} {us:List V} {ts:List Tm} {aw:Nat × Nat→List (Nat × Nat)} {s:SS} {lk:Nat × Nat→Option Nat} (h:SeAt P w CS o dx A us ts aw H s lk) {c:Addr} {u:HO} (hc:H c=some u) (hl:c ∉ A.Lr) (hd:∀ kvs,u ≠ .dK kvs) (he:∀ φ,u ≠ .ext φ):¬ Owns A c:=by
  rintro (z | z | z | z)
  · exact hl z
  · obtain ⟨i,hi⟩:=List.getElem?_of_mem z
    obtain ⟨kvs,e,_⟩:=h.rW i c hi
    rw [hc] at e
    exact hd _ (Option.some.inj e)
  · obtain ⟨kvs,e,_⟩:=h.hH
    rw [← z,hc] at e
    exact hd _ (Option.some.inj e)
  · obtain ⟨kvs,e⟩:=h.sg
    obtain ⟨φ,e⟩:=e.dn.ext
    rw [← z,hc] at e
    exact he _ (Option.some.inj e)
theorem ok_lengthen (B:Blt mg) (Z:TopSe K mg CS) (h_offer:HasM P w K mg base 1 CS "offer" ["self", "a", "b", "length"] (spOffer P w CS)) (D:DefM K CS "lengthen" "Search.lengthen" s_lengthen ["self", "a", "b", "length"]):HasM P w K mg base 2 CS "lengthen" ["self", "a", "b", "length"] (spLen P w CS):=by
  have cS:=Z.cS
  refine D.has sc_lengthen (fun vs H Q E h => ?_) (fun f cdv A outer s H vs Q E hr h => ?_)
  · obtain ⟨o,dx,A,us,ts,aw,s,lk,a,b,k,rfl,_⟩:=h;rfl
  obtain ⟨o,dx,A,us,ts,aw,s,lk,a,b,k,rfl,h,ha,hb,hdg,hst,q⟩:=h
  refine ⟨_,(pss_cons (ps_set (i:=4) sc_lengthen.nd rfl (Or.inl rfl) (pe_ix ix_list (pe_fld (pv 0) rfl) (pv 1) (fun _ _=>rfl)))
    (pss_one (ps_for PassesOwn.leaving rfl (pi_list (pe_ix ix_list (pe_fld (pv 0) rfl) (pv 2) (fun _ _=>rfl))) (pg_tup rfl (pgs_cons (pg_name (i:=5) sc_lengthen.nd rfl (Or.inl rfl)) (pgs_cons (pg_name (i:=6) sc_lengthen.nd rfl (Or.inl rfl)) pgs_nil)))
    (pss_one (ps_if (PW.pt (pw_or (pt_cmpR op_isN (pe_ix ix_list (pv 4) (pv 5) (fun _ _=>rfl)) pe_non (nomark _)) (pw_or1 (pt_cmpR op_lt (pe_op op_add (pv 3) (pv 6)) (pe_ix ix_list (pv 4) (pv 5) (fun _ _=>rfl)) (nomark _))))) (pss_one (ps_expr (pe_mE h_offer cS hr (by omega) (passE fun _ _ _ z=>z) (pv 0) (pa_cons (pv 1) (pa_cons (pv 5) (pa_cons (pe_op op_add (pv 3) (pv 6)) pa_nil)))))) pss_nil))))),?_⟩
  try dsimp only [cxOf]
  obtain ⟨ca,hca⟩:∃ c,A.Lr[a]? = some c:=⟨_,List.getElem?_eq_getElem (by rw [h.lL];exact ha)⟩
  obtain ⟨cb,hcb⟩:∃ c,A.Sr[b]? = some c:=⟨_,List.getElem?_eq_getElem (by rw [h.lS];exact hb)⟩
  obtain ⟨sv,hs1,hs2⟩:=h.rS b cb hcb
  have nown:¬ Owns A cb:=h.notOwn hs1 (fun z=>h.sep.dLS cb z (List.mem_of_getElem? hcb)) (fun _ z=>nomatch z) (fun _ z=>nomatch z)
  have tnown:∀ {c ys},H c=some (.tup ys)→¬ Owns A c:=fun {c ys} e=>h.notOwn e (fun z=>by
    obtain ⟨i,hi⟩:=List.getElem?_of_mem z
    rw [h.rL i c hi] at e;cases e) (fun _ z=>nomatch z) (fun _ z=>nomatch z)
  refine ⟨_,rfl,o,CS,dx,_,_,rfl,h.ins,Z.cS,Z.nLeast,rfl,_,rfl,A.L,_,_,_,rfl,rfl,SqL.of h.hL,ref_at hca,?_⟩
  dsimp only [gName]
  refine ⟨_,rfl,o,CS,dx,_,_,rfl,h.ins,Z.cS,Z.nSteps,rfl,_,rfl,A.S,_,_,_,rfl,rfl,SqL.of h.hS,ref_at hcb,cb,rfl,⟨_,SqL.of hs1⟩,?_⟩
  refine for_list (xs:=sv) (LnI P w CS o dx A us ts aw lk H [some (.ref o),some (nV a),some (nV b),some (nV k),some (.ref ca)] a k s (s.St b)) ⟨none,none,rfl,ButO.refl A H,h⟩ ?_ ?_ ?_
  · rintro i σ H' _ ⟨x5,x6,rfl,bt,_⟩
    exact SqL.of (bt _ _ nown hs1)
  · rintro i y σ H' hy ⟨x5,x6,rfl,bt,h'⟩
    obtain ⟨⟨c,m⟩,hcm,p,rfl,hp⟩:=Paired.at hs2 hy
    have hc:=hst _ (List.mem_of_getElem? hcm)
    have hdg':DiagOk ts.length (lengthF a k s ((s.St b).take i)):=diag_length ha hdg
    have hp':=bt _ _ (tnown hp) hp
    have next:=length_snoc (a:=a) (k:=k) (s:=s) hcm
    dsimp only at hc next
    generalize lengthF a k s ((s.St b).take i)=s1 at h' hdg' next
    refine ⟨p,_,rfl,SqT.of hp',rfl,_,_,rfl,_,_,rfl,rfl,?_⟩
    dsimp only
    have hrow:=atI_nat (row_at (L:=s1.L) (n:=ts.length) (a:=a) hc)
    have hra:=SqL.of (K:=K) (h'.rL a ca hca)
    refine rd_ifR (fun d Hc=>Hc=H'∧d=less s1.L a c (k+m)) (fun Qc qc => ?_) ?_ ?_
    · have lr:=less_read (Q:=Qc) (qc (less s1.L a c (k+m)) H' ⟨rfl,rfl⟩)
      refine ⟨_,rfl,_,rfl,ca,_,_,_,rfl,rfl,hra,hrow,rfl,_,rfl,?_⟩
      split at lr
      · rename_i z;rw [if_pos z];exact lr
      · rename_i z
        rw [if_neg z]
        obtain ⟨i',j,e1,rfl,qq⟩:=lr
        refine ⟨_,rfl,_,rfl,_,_,rfl,rfl,_,rfl,_,rfl,ca,_,_,_,rfl,rfl,hra,hrow,_,j,rfl,e1,_,rfl,?_⟩
        exact qq
    · rintro Hc ⟨rfl,e⟩
      have e:=e.symm
      have hne:a≠c:=fun z=>by rw [← z,diag_less hdg' ha] at e;cases e
      refine ⟨_,rfl,o,dx,_,rfl,h'.ins,rfl,_,rfl,_,rfl,_,rfl,_,rfl,_,_,rfl,rfl,?_⟩
      show SpOffer P w CS [.ref o,nV a,nV c,nV (k+m)] Hc _
      refine ⟨o,dx,A,us,ts,aw,s1,lk,a,c,k+m,rfl,h',ha,hc,hne,fun H3 b3 h3=>⟨_,_,rfl,bt.trans b3,?_⟩⟩
      rw [next]
      unfold tryF
      rw [if_pos e];exact h3
    · rintro Hc ⟨rfl,e⟩
      refine ⟨_,_,rfl,bt,?_⟩
      rw [next]
      unfold tryF
      rw [if_neg (by rw [← e];decide)];exact h'
  · rintro σ H' ⟨x5,x6,rfl,bt,h'⟩
    rw [Paired.length hs2,List.take_length] at h'
    exact q H' bt h'
end

end K21
namespace K21
open PySem L2 Sw
section
variable {P:Program} {w:World} {K:PySem.W.Frag} {mg:Str→Option Value} {base:Heap} {CS:Addr}
theorem valV_dropK (kvs:List (Key × V)) (k j:Key):valV (dropK kvs k) j=if j=k then none else valV kvs j:=by
  induction kvs with
  | nil=>show valV [] j=_;rw [valV_nil];split <;> rfl
  | cons p r ih =>
    unfold dropK at ih ⊢
    by_cases e:p.1=k
    · rw [List.filter_cons_of_neg (by simp [e]),ih]
      by_cases ej:j=k
      · rw [if_pos ej,if_pos ej]
      · rw [if_neg ej,if_neg ej,valV_neg (fun z=>ej (z.symm.trans e))]
    · rw [List.filter_cons_of_pos (by simp [e])]
      by_cases ep:p.1=j
      · rw [valV_pos ep,valV_pos ep,if_neg (fun z=>e (ep.trans z))]
      · rw [valV_neg ep,valV_neg ep,ih]
theorem drop_nd {kvs:List (Key × V)} {k:Key} (h:(kvs.map (·.1)).Nodup):((dropK kvs k).map (·.1)).Nodup:=by
  unfold dropK
  exact List.Nodup.sublist (List.Sublist.map _ List.filter_sublist) h
theorem HRow.drop {H:Hp} {n:Nat} {kvs:List (Key × V)} {f:Nat→Option (Nat × Nat)} {l:Nat} (r:HRow H n kvs f):HRow H n (dropK kvs (.inl (l:Int))) (fun x=>if x=l then none else f x):=by
  refine ⟨fun a e => ?_,fun a m b e => ?_,fun kv hkv=>r.key kv (List.mem_filter.mp hkv).1,drop_nd r.nd⟩
  · have e:(if a=l then none else f a)=none:=e
    rw [valV_dropK]
    by_cases ea:a=l
    · rw [if_pos (by rw [ea])]
    · rw [if_neg ea] at e
      rw [if_neg (fun z=>ea (by have:=Sum.inl.inj z;omega))];exact r.non a e
  · have e:(if a=l then none else f a)=some (m,b):=e
    by_cases ea:a=l
    · rw [if_pos ea] at e;cases e
    · rw [if_neg ea] at e
      rw [valV_dropK,if_neg (fun z=>ea (by have:=Sum.inl.inj z;omega))]
      exact r.som a m b e
theorem WRow.drop {n:Nat} {kvs:List (Key × V)} {W:Mx} {l h:Nat} (r:WRow n kvs (W l)):WRow n (dropK kvs (.inl (h:Int))) (dropM W l h l):=by
  refine ⟨fun b => ?_,fun kv hkv=>r.key kv (List.mem_filter.mp hkv).1,drop_nd r.nd⟩
  rw [valV_dropK]
  unfold dropM
  by_cases e:b=h
  · rw [if_pos (by rw [e]),if_pos ⟨rfl,e⟩];rfl
  · rw [if_neg (fun z=>e (by have:=Sum.inl.inj z;omega)),if_neg (fun z=>e z.2),r.val]
theorem val_at:∀ {kvs:List (Key × V)} {k:Key} {v:V},valV kvs k=some v→∃ i:Nat,kvs[i]? = some (k,v)
  | [],k,v,h=>by rw [valV_nil] at h;cases h
  | p :: r,k,v,h=>by
    by_cases e:p.1=k
    · rw [valV_pos e] at h
      cases h
      exact ⟨0,by rw [← e];rfl⟩
    · rw [valV_neg e] at h
      obtain ⟨i,hi⟩:=val_at h
      exact ⟨i+1,hi⟩
inductive SpFind (P:Program) (w:World) (CS:Addr) (vs:List V) (H:Hp) (Q:VK):Prop
  | mk (o dx:Addr) (A:SA) (us:List V) (ts:List Tm) (aw:Nat × Nat→List (Nat × Nat)) (s:SS) (lk:Nat × Nat→Option Nat) (a:Nat) (z0:vs = [.ref o,nV a]) (z1:SeAt P w CS o dx A us ts aw H s lk) (z2:a < ts.length) (z3:s.Hd a≠none)
    (z5:∀ hd H',RowHead (s.W a) hd→ButO A H H'→SeAt P w CS o dx A us ts aw H' { s with Hd:=fun x=>if x=a then hd else s.Hd x } lk→Q .non H'):SpFind P w CS vs H Q
noncomputable def spFind (P:Program) (w:World) (CS:Addr):Sp:=fun vs H Q _=>SpFind P w CS vs H Q
noncomputable def valI:Option (Key × V)→Int
  | some (_,.int n)=>n
  | _=>0
inductive FhI (H1:Hp) (τ : St) (cw:Addr) (ob:Obj) (kw:List (Key × V)) (m:Nat) (j:Nat) (σ : St) (H':Hp):Prop
  | mk (x4:Option V):(σ = τ ++ [x4])→H'=upd H1 cw (Ext cw ob)→(∀ i,i < j→valI kw[i]? ≠ (m:Int))→FhI H1 τ cw ob kw m j σ H'
theorem ok_find_head (B:Blt mg) (Z:TopSe K mg CS) (D:DefM K CS "find_head" "Search.find_head" s_find_head ["self", "a"]):HasM P w K mg base 1 CS "find_head" ["self", "a"] (spFind P w CS):=by
  have cS:=Z.cS
  refine D.has sc_find_head (fun vs H Q E h => ?_) (fun f cdv A outer s H vs Q E hr h => ?_)
  · obtain ⟨o,dx,A,us,ts,aw,s,lk,a,rfl,_⟩:=h;rfl
  obtain ⟨o,dx,A,us,ts,aw,s,lk,a,rfl,h,ha,hhd,q⟩:=h
  refine ⟨_,(pss_cons (ps_set (i:=2) sc_find_head.nd rfl (Or.inl rfl) (pe_ix ix_list (pe_fld (pv 0) rfl) (pv 1) (fun _ _=>rfl)))
    (pss_cons (ps_expr (pe_dpop1 (pe_fld (pv 0) rfl) (pv 1) ⟨rfl,rfl,rfl,rfl⟩))
    (pss_one (ps_if (pt_truth (pv 2) (fun _=>rfl)) (pss_cons (ps_set (i:=3) sc_find_head.nd rfl (Or.inl rfl) (pe_minVI rfl rfl B.min_ (pv 2)))
    (pss_one (ps_thaw (ps_for PassesOwn.leaving rfl (pi_dict (pv 2)) (pg_name (i:=4) sc_find_head.nd rfl (Or.inl rfl))
    (pss_one (ps_if (pt_cmpR op_eq (pe_xget (pv 2) (pv 4) (fun _ _=>rfl)) (pv 3) (nomark _)) (pss_cons (ps_dput (hu_of hr) (pe_fld (pv 0) rfl) (pv 1) (pe_tup (pa_cons (pv 3) (pa_cons (pv 1) (pa_cons (pv 4) pa_nil)))) rfl)
    (pss_one ps_break)) pss_nil)))))) pss_nil)))),?_⟩
  try dsimp only [cxOf]
  obtain ⟨cw,hcw⟩:∃ c,A.Wr[a]? = some c:=⟨_,List.getElem?_eq_getElem (by rw [h.lW];exact ha)⟩
  refine ⟨_,rfl,o,CS,dx,_,_,rfl,h.ins,Z.cS,Z.nWaiting,rfl,_,rfl,A.W,_,_,_,rfl,rfl,SqL.of h.hW,ref_at hcw,?_⟩
  dsimp only [gName]
  obtain ⟨kh,hh1,hh2⟩:=id h.hH
  obtain ⟨⟨hk,hb⟩,ehd⟩:=Option.ne_none_iff_exists'.mp hhd
  obtain ⟨ph,hv1,_⟩:=hh2.som a hk hb ehd
  refine ⟨_,rfl,o,CS,dx,_,_,rfl,h.ins,Z.cS,Z.nHeads,rfl,A.Hd,rfl,.inl ⟨_,.inl hh1⟩,_,rfl,kh,.inl (a:Int),_,hh1,rfl,hv1,?_⟩
  have h1:=h.setH _ (hh2.drop (l:=a))
  have b1:=(ButO.refl A H).upd (c:=A.Hd) (o := .dK (dropK kh (.inl (a:Int)))) (.inr (.inr (.inl rfl)))
  generalize upd H A.Hd (.dK (dropK kh (.inl (a:Int))))=H1 at h1 b1 ⊢
  obtain ⟨kw,hw1,hw2⟩:=h1.rW a cw hcw
  obtain ⟨kh1,hg1,hg2⟩:=id h1.hH
  have hw2:WRow ts.length kw (s.W a):=hw2
  have at_:∀ i,i < kw.length→∃ b m:Nat,kw[i]? = some ((.inl (b:Int):Key),nV m)∧b < ts.length∧s.W a b=some m:=fun i hi=>by
    have e:kw[i]? = some kw[i]:=List.getElem?_eq_getElem hi
    obtain ⟨b,m,em,hb⟩:=hw2.key kw[i] (List.getElem_mem hi)
    refine ⟨b,m,by rw [e,em],hb,?_⟩
    have:=valV_mem hw2.nd kw[i] (List.getElem_mem hi)
    rw [em] at this
    have this:valV kw (.inl (b:Int))=some (nV m):=this
    rw [hw2.val b] at this
    obtain ⟨m',e',em'⟩:=Option.map_eq_some_iff.mp this
    rw [e']
    congr 1
    have:=V.int.inj em'
    omega
  have of_:∀ b m:Nat,s.W a b=some m→∃ i,kw[i]? = some ((.inl (b:Int):Key),nV m):=fun b m e=>val_at (by rw [hw2.val b,e];rfl)
  dsimp only
  refine rd_ifR (fun c Hc=>Hc=H1∧c = !kw.isEmpty) (fun Qc qc=>⟨_,rfl,_,.inr (.inr ⟨kw,hw1,rfl⟩),qc _ _ ⟨rfl,rfl⟩⟩) ?_ ?_
  · rintro Hc ⟨rfl,e⟩
    have hpos:0 < kw.length:=by cases kw with | nil=>cases e | cons p r=>exact Nat.succ_pos _
    have hF:∀ (i:Nat) (kv:Key × V),kw[i]? = some kv→kv.2 = .int (valI kw[i]?):=fun i kv hkv=>by
      obtain ⟨b,m,e1,_⟩:=at_ i (List.getElem?_eq_some_iff.mp hkv).1
      rw [hkv] at e1
      cases e1
      rw [hkv];rfl
    refine ⟨_,rfl,cw,kw,fun i=>valI kw[i]?,rfl,hw1,hpos,hF,fun i hi hmin => ?_⟩
    dsimp only [gName]
    obtain ⟨b0,m0,e0,hb0,hw0⟩:=at_ i hi
    have ev0:valI kw[i]? = (m0:Int):=by rw [e0];rfl
    rw [ev0]
    have least:∀ c m,s.W a c=some m→m0≤m:=fun c m ec=>by
      obtain ⟨j,hj⟩:=of_ c m ec
      have:=hmin j (List.getElem?_eq_some_iff.mp hj).1
      rw [ev0,hj] at this
      have this:(m0:Int)≤(m:Int):=this
      omega
    refine ⟨_,rfl,cw,kw,rfl,hw1,fun ob dxo => ?_⟩
    have nHd:A.Hd≠cw:=fun z=>(List.nodup_cons.mp h.sep.nW).1 (by rw [z];exact List.mem_of_getElem? hcw)
    refine for_dict (FhI Hc [some (.ref o),some (nV a),some (.ref cw),some (nV m0)] cw ob kw m0) ⟨none,rfl,rfl,fun j hj=>absurd hj (Nat.not_lt_zero j)⟩ ?_ ?_ ?_
    · rintro j σ H' _ ⟨x4,rfl,rfl,_⟩
      exact upd_same
    · rintro j kv σ H' hkv ⟨x4,rfl,rfl,hno⟩
      obtain ⟨b,m,ej,hb,hwb⟩:=at_ j (List.getElem?_eq_some_iff.mp hkv).1
      rw [hkv] at ej
      cases ej
      dsimp only [gName]
      have hvb:valV kw (.inl (b:Int))=some (nV m):=by rw [hw2.val b,hwb];rfl
      refine ⟨_,rfl,_,rfl,cw,ob,kw,.inl (b:Int),nV m,rfl,rfl,upd_same,dxo,hvb,_,rfl,rfl,_,rfl,iteD (fun em => ?_) (fun em => ?_)⟩
      · have em:m=m0:=by have:=V.int.inj em;omega
        subst em
        refine ⟨_,rfl,_,rfl,_,rfl,(show 3≤sizeLine by decide),fun p hp => ?_⟩
        have npc:p≠cw:=fun z=>by rw [z,upd_same] at hp;cases hp
        have hpH:Hc p=none:=by rw [upd_ne npc] at hp;exact hp
        have npH:A.Hd≠p:=ne_of_none hg1 hpH
        have hoc:o≠cw:=ne_of h1.ins hw1 (fun z=>nomatch z)
        have hins:(upd (upd Hc cw (Ext cw ob)) p (.tup [nV m,nV a,nV b])) o=some (.ins CS dx [("terms",.ref A.T),("least",.ref A.L),("waiting",.ref A.W),("heads",.ref A.Hd),("single",.ref A.Sg),("steps",.ref A.S),("awaited",.ref A.Aw),("lacking",.ref A.Lk)]):=by rw [upd_ne (ne_of_none h1.ins hpH),upd_ne hoc];exact h1.ins
        have hgd:(upd (upd Hc cw (Ext cw ob)) p (.tup [nV m,nV a,nV b])) A.Hd=some (.dK kh1):=by rw [upd_ne npH,upd_ne nHd];exact hg1
        refine ⟨_,rfl,o,CS,dx,_,_,rfl,hins,Z.cS,Z.nHeads,rfl,_,rfl,A.Hd,_,rfl,DPut.k (k := .inl (a:Int)) hgd (small1000 (by have:=hg2.few;have:=h.few;omega)),?_⟩
        refine ⟨cw,ob,kw,by rw [upd_ne (Ne.symm nHd),upd_ne (Ne.symm npc),upd_same],dxo,?_⟩
        have eh:upd (upd (upd (upd Hc cw (Ext cw ob)) p (.tup [nV m,nV a,nV b])) A.Hd (.dK (putK kh1 (.inl (a:Int)) (.ref p)))) cw (.dK kw)=upd (upd Hc p (.tup [nV m,nV a,nV b])) A.Hd (.dK (putK kh1 (.inl (a:Int)) (.ref p))):=by
          funext c
          by_cases ec:c=cw
          · subst ec
            rw [upd_same,upd_ne (Ne.symm nHd),upd_ne (Ne.symm npc),hw1]
          · rw [upd_ne ec]
            by_cases eh:c=A.Hd
            · subst eh
              rw [upd_same,upd_same]
            · rw [upd_ne eh,upd_ne eh]
              by_cases ep:c=p
              · subst ep
                rw [upd_same,upd_same]
              · rw [upd_ne ep,upd_ne ep,upd_ne ec]
        show Q V.non (upd (upd (upd (upd Hc cw (Ext cw ob)) p (.tup [nV m,nV a,nV b])) A.Hd (.dK (putK kh1 (.inl (a:Int)) (.ref p)))) cw (.dK kw))
        rw [eh]
        have s4:=same_new hpH (.tup [nV m,nV a,nV b])
        have hp4:=upd_same (H:=Hc) (a:=p) (o := .tup [nV m,nV a,nV b])
        generalize upd Hc p (.tup [nV m,nV a,nV b])=H4 at s4 hp4 ⊢
        have h4:=h1.same s4
        have hr4:=(hg2.but (H':=H4) fun c ys e=>s4 _ _ e).put ha hp4
        refine q (some (m,b)) _ ⟨(fun z=>nomatch z),fun k y z=>by cases z;exact ⟨hwb,least⟩⟩ ((b1.same s4).upd (.inr (.inr (.inl rfl)))) ?_
        have h5:=h4.setH _ hr4
        have es:(⟨s.L,s.W,fun x=>if x=a then some (m,b) else (fun x=>if x=a then none else s.Hd x) x,s.Sg,s.St,s.dn⟩:SS)={ s with Hd:=fun x=>if x=a then some (m,b) else s.Hd x }:=by
          have e3:(fun x=>if x=a then some (m,b) else (fun x=>if x=a then none else s.Hd x) x)=fun x=>if x=a then some (m,b) else s.Hd x:=funext fun x=>by
            by_cases ex:x=a
            · rw [if_pos ex,if_pos ex]
            · rw [if_neg ex,if_neg ex];exact if_neg ex
          rw [e3]
        rw [← es]
        exact h5
      · refine ⟨_,rfl,rfl,fun j' hj' => ?_⟩
        rcases Nat.lt_or_eq_of_le (Nat.le_of_lt_succ hj') with z | z
        · exact hno j' z
        · rw [z,hkv]
          exact fun z2=>em (by have z2:(m:Int)=(m0:Int):=z2;show V.int _=V.int _;rw [z2])
    · rintro σ H' ⟨x4,rfl,rfl,hno⟩
      exact absurd ev0 (hno i hi)
  · rintro Hc ⟨rfl,e⟩
    refine q none Hc ⟨fun _ y => ?_,fun k y z=>nomatch z⟩ b1 h1
    have:kw = []:=by cases kw with | nil=>rfl | cons p r=>cases e
    have hv:=hw2.val y
    rw [this,valV_nil] at hv
    cases ew:s.W a y with
    | none=>rfl
    | some m=>rw [ew] at hv;cases hv
end

end K21
namespace K21
open PySem L2 Sw
section
variable {P:Program} {w:World} {K:PySem.W.Frag} {mg:Str→Option Value} {base:Heap} {CS:Addr}
theorem unl_take {as bs:List Nat} {i x y:Nat} (hx:as[i]? = some x) (hy:bs[i]? = some y):unlF (as.take (i+1)) (bs.take (i+1))=unlF (as.take i) (bs.take i) ++ (if x=y then [] else [(x,y)]):=by
  unfold unlF
  rw [List.take_add_one,List.take_add_one,hx,hy]
  have e:(as.take i ++ [x]).zip (bs.take i ++ [y])=(as.take i).zip (bs.take i) ++ [(x,y)]:=by
    have hl:(as.take i).length=(bs.take i).length:=by
      have:=(List.getElem?_eq_some_iff.mp hx).1
      have:=(List.getElem?_eq_some_iff.mp hy).1
      rw [List.length_take,List.length_take];omega
    rw [List.zip_append hl];rfl
  show List.filter _ ((as.take i ++ [x]).zip (bs.take i ++ [y]))=_
  rw [e,List.filter_append]
  congr 1
  by_cases q:x=y
  · rw [if_pos q,List.filter_cons_of_neg (by simp [q])];rfl
  · rw [if_neg q,List.filter_cons_of_pos (by simp [q])];rfl
inductive SpUnl (vs:List V) (H:Hp) (Q:VK):Prop
  | mk (T:Addr) (us:List V) (ts:List Tm) (a b:Nat) (x y:Str) (as bs:List Nat) (z0:vs = [.ref T,nV a,nV b]) (z1:H T=some (.lst us)) (z2:Tms H us ts) (z3:ts[a]? = some (.of x as)) (z4:ts[b]? = some (.of y bs)) (z5:as.length=bs.length) (z6:as.length≤1000)
    (z7:∀ D vs' H',Same H H'→H D=none→H' D=some (.lst vs')→PairsAt H' vs' (unlT ts a b)→Q (.ref D) H'):SpUnl vs H Q
noncomputable def spUnl:Sp:=fun vs H Q _=>SpUnl vs H Q
theorem tm_val {H:Hp} {us:List V} {ts:List Tm} (h:Tms H us ts) {a:Nat} {x:Str} {as:List Nat} (ha:ts[a]? = some (.of x as)):∃ t c,us[a]? = some (.ref t)∧H t=some (.tup [.str "of",.str x,.ref c])∧H c=some (.tup (as.map nV)):=by
  have hl:=(List.getElem?_eq_some_iff.mp ha).1
  have hu:us[a]? = some (us[a]'(by rw [Paired.length h];exact hl)):=List.getElem?_eq_getElem _
  obtain ⟨t,ht,htu⟩:=tms_at h hu
  rw [ha] at ht
  cases ht
  obtain ⟨t,c,e,h1,h2⟩:=htu
  exact ⟨t,c,by rw [hu,e],h1,h2⟩
theorem ok_unlike_arms (b_zip:mg "zip" = none) (D:Def K mg "unlike_arms" s_unlike_arms ["terms", "a", "b"]):Has P w K mg base 1 "unlike_arms" ["terms", "a", "b"] spUnl:=by
  refine D.has sc_unlike_arms (fun vs H Q E h => ?_) (fun f cdv A outer s H vs Q E hr h => ?_)
  · obtain ⟨T,us,ts,a,b,x,y,as,bs,rfl,_⟩:=h;rfl
  obtain ⟨T,us,ts,a,b,x,y,as,bs,rfl,hT,hts,ha,hb,hl,h1000,q⟩:=h
  refine ⟨_,(pss_one (ps_ret (pe_compI (te:=_) (ct:=(tTest (tOp _ _ _))) (own := ["x", "y"]) (caps := []) (comp_scope (defScope s_unlike_arms) ["terms", "a", "b"] rfl rfl rfl (by decide +kernel)) (pi_zipT rfl b_zip (pa_cons (pe_ix ix_tup (pe_ix ix_list (pv 0) (pv 1) (fun _ _=>rfl)) pe_int (fun _ _=>rfl)) (pa_cons (pe_ix ix_tup (pe_ix ix_list (pv 0) (pv 2) (fun _ _=>rfl)) pe_int (fun _ _=>rfl)) pa_nil))) rfl (fun _ _ _=>pg_two (K:=K) rfl rfl (show (["x", "y"]:List Str).Nodup by decide +kernel) rfl rfl rfl rfl) (fun _ _ _=>(pt_cmpR op_ne (pv 0) (pv 1) (nomark _))) (fun _ _ _=>(pe_tup (pa_cons (pv 0) (pa_cons (pv 1) pa_nil))))))),?_⟩
  try dsimp only [cxOf]
  obtain ⟨ta,ca,hua,hta,hca⟩:=tm_val hts ha
  obtain ⟨tb,cb,hub,htb,hcb⟩:=tm_val hts hb
  refine ⟨_,rfl,_,rfl,T,_,_,_,rfl,rfl,SqL.of hT,atI_nat hua,ta,_,2,_,rfl,rfl,SqT.of hta,atI_nat (j:=2) rfl,_,rfl,_,rfl,T,_,_,_,rfl,rfl,SqL.of hT,atI_nat hub,tb,_,2,_,rfl,rfl,SqT.of htb,atI_nat (j:=2) rfl,ca,cb,as.map nV,bs.map nV,rfl,SqT.of hca,SqT.of hcb,?_⟩
  intro D hD
  refine ⟨fun i m τ zs H'=>m=as.length - i∧i≤as.length∧(∃ o p, τ = [o,p])∧PairsAt H' zs (unlF (as.take i) (bs.take i))∧Same H H'∧H' D=some (.lst zs),⟨as.length,by simp,Nat.zero_le _,⟨none,none,rfl⟩,by rw [List.take_zero,List.take_zero];exact .nil,same_new hD _,upd_same⟩,?_⟩
  rintro i m τ zs H' ⟨rfl,hi,⟨o1,o2,rfl⟩,hzs,sm,hDl⟩
  refine ⟨hDl,?_⟩
  have hA:=SqT.of (K:=K) (sm _ _ hca)
  have hB:=SqT.of (K:=K) (sm _ _ hcb)
  by_cases hlt:i < as.length
  · have hx:as[i]? = some as[i]:=List.getElem?_eq_getElem hlt
    have hy:bs[i]? = some (bs[i]'(by omega)):=List.getElem?_eq_getElem (by omega)
    generalize as[i]=u at hx
    generalize bs[i]'(by omega)=v at hy
    have hzl:zs.length≤i:=by
      rw [Paired.length hzs]
      unfold unlF
      refine Nat.le_trans (List.length_filter_le ..) ?_
      rw [List.length_zip,List.length_take]
      omega
    refine .inr ⟨⟨_,_,nV u,nV v,hA,hB,by rw [List.getElem?_map,hx];rfl,by rw [List.getElem?_map,hy];rfl⟩,small1000 (by omega),fun r H2 yl => ?_⟩
    obtain ⟨p,u',v',hp,rfl,hu',hv',rfl⟩:=yl
    have eu:u'=nV u:=by have:=hu' _ hA;rw [List.getElem?_map,hx] at this;exact (Option.some.inj this).symm
    have ev:v'=nV v:=by have:=hv' _ hB;rw [List.getElem?_map,hy] at this;exact (Option.some.inj this).symm
    subst eu ev
    refine ⟨p,_,rfl,SqT.of upd_same,rfl,_,_,rfl,_,_,rfl,rfl,?_⟩
    have s2:=same_new hp (.tup [nV u,nV v])
    have hD2:=s2 _ _ hDl
    have hz2:=pairs_keep hzs (H':=upd H' p (.tup [nV u,nV v])) fun c ys e=>s2 _ _ e
    have sm2:=sm.trans s2
    generalize upd H' p (.tup [nV u,nV v])=H3 at s2 hD2 hz2 sm2 ⊢
    have nx:=unl_take hx hy
    refine ⟨_,rfl,_,rfl,rfl,_,rfl,iteDN (fun ne => ?_) (fun eq => ?_)⟩
    · have ne:u≠v:=fun z=>ne (by rw [z])
      refine ⟨_,rfl,_,rfl,(show 2≤sizeLine by decide),fun q hq => ?_⟩
      have s4:=same_new hq (.tup [nV u,nV v])
      have hq4:=upd_same (H:=H3) (a:=q) (o := .tup [nV u,nV v])
      generalize upd H3 q (.tup [nV u,nV v])=H4 at s4 hq4 ⊢
      have hD4:=s4 _ _ hD2
      have kp:∀ c ys,H4 c=some (.tup ys)→(upd H4 D (.lst (zs ++ [.ref q]))) c=some (.tup ys):=fun c ys e=>by rw [upd_ne (ne_of e hD4 (fun z=>nomatch z))];exact e
      refine ⟨hD4,as.length - (i+1),by omega,rfl,hlt,⟨_,_,rfl⟩,?_,(sm2.trans s4).put hD,upd_same⟩
      rw [nx,if_neg ne]
      exact paired_app (pairs_keep (pairs_keep hz2 fun c ys e=>s4 _ _ e) kp) (.cons ⟨q,rfl,kp _ _ hq4⟩ .nil)
    · have eq:u=v:=by have:=V.int.inj eq;omega
      refine ⟨as.length - (i+1),by omega,rfl,hlt,⟨_,_,rfl⟩,?_,sm2,hD2⟩
      rw [nx,if_pos eq,List.append_nil]
      exact hz2
  · have e:i=as.length:=by omega
    subst e
    refine .inl ⟨⟨_,hA,by rw [List.length_map]⟩,q D zs H' sm hD hDl ?_⟩
    rw [List.take_length,hl,List.take_length] at hzs
    have eu:unlT ts a b=unlF as bs:=by unfold unlT;rw [ha,hb];rfl
    rw [eu];exact hzs
inductive SpLL (vs:List V) (H:Hp) (Q:VK):Prop
  | mk (T Lc:Addr) (Lr:List Addr) (us:List V) (ts:List Tm) (L:Mx) (a b:Nat) (x y:Str) (as bs:List Nat) (z0:vs = [.ref T,.ref Lc,nV a,nV b]) (z1:H T=some (.lst us)) (z2:Tms H us ts) (z3:ts[a]? = some (.of x as)) (z4:ts[b]? = some (.of y bs)) (z5:as.length=bs.length) (z6:as.length≤1000)
    (z8:H Lc=some (.lst (Lr.map V.ref))) (z9:Lr.length=ts.length) (z10:∀ (r:Nat) (c:Addr),Lr[r]? = some c→H c=some (.lst (rowV L ts.length r))) (z11:∀ p∈unlT ts a b,p.1 < ts.length∧p.2 < ts.length∧∃ k,L p.1 p.2=some k)
    (z7:∀ H',Same H H'→Q (nV (likeLen ts L a b)) H'):SpLL vs H Q
noncomputable def spLL:Sp:=fun vs H Q _=>SpLL vs H Q
theorem sumL_snoc {g:Nat × Nat→Nat} {p:Nat × Nat}:∀ {l:List (Nat × Nat)},sumL g (l ++ [p])=sumL g l+g p
  | []=>by show g p+0=0+g p;omega
  | q :: l=>by show g q+sumL g (l ++ [p])=g q+sumL g l+g p;rw [sumL_snoc];omega
theorem take_snocP {α : Type} {l:List α} {i:Nat} {a : α} (h:l[i]? = some a):l.take (i+1)=l.take i ++ [a]:=by rw [List.take_add_one,h];rfl
inductive LLI (H:Hp) (τ : St) (τ2:List (Option V)) (g:Nat × Nat→Nat) (l:List (Nat × Nat)) (i:Nat) (σ : St) (H':Hp):Prop
  | mk (x5 x6:Option V):(σ = τ ++ [some (nV (1+sumL g (l.take i))),x5,x6])→H'=H→LLI H τ τ2 g l i σ H'
theorem ok_like_length (h_unlike_arms:Has P w K mg base 1 "unlike_arms" ["terms", "a", "b"] spUnl) (D:Def K mg "like_length" s_like_length ["terms", "least", "a", "b"]):Has P w K mg base 2 "like_length" ["terms", "least", "a", "b"] spLL:=by
  refine D.has sc_like_length (fun vs H Q E h => ?_) (fun f cdv A outer s H vs Q E hr h => ?_)
  · obtain ⟨T,Lc,Lr,us,ts,L,a,b,x,y,as,bs,rfl,_⟩:=h;rfl
  obtain ⟨T,Lc,Lr,us,ts,L,a,b,x,y,as,bs,rfl,hT,hts,ha,hb,hl,h1000,hLc,lLr,hr',hall,q⟩:=h
  refine ⟨_,(pss_cons (ps_set (i:=4) sc_like_length.nd rfl (Or.inl rfl) pe_int)
    (pss_cons (ps_for PassesOwn.never rfl (pi_list (pe_callH h_unlike_arms hr (by omega) rfl (pa_cons (pv 0) (pa_cons (pv 2) (pa_cons (pv 3) pa_nil))))) (pg_tup rfl (pgs_cons (pg_name (i:=5) sc_like_length.nd rfl (Or.inl rfl)) (pgs_cons (pg_name (i:=6) sc_like_length.nd rfl (Or.inl rfl)) pgs_nil)))
    (pss_one (ps_aug (i:=4) sc_like_length.nd rfl (Or.inl rfl) (pe_ix ix_list (pe_ix ix_list (pv 1) (pv 5) (fun _ _=>rfl)) (pv 6) (fun _ _=>rfl)) ip_add)))
    (pss_one (ps_ret (pv 4))))),?_⟩
  try dsimp only [cxOf]
  refine ⟨_,rfl,_,rfl,_,rfl,T,us,ts,a,b,x,y,as,bs,rfl,hT,hts,ha,hb,hl,h1000,fun D1 vs1 H1 s1 hD0 hD1 hp1 => ?_⟩
  refine ⟨D1,rfl,⟨_,SqL.of hD1⟩,?_⟩
  refine for_list (xs:=vs1) (LLI H1 [some (.ref T),some (.ref Lc),some (nV a),some (nV b)] [] (fun p=>(L p.1 p.2).getD 0) (unlT ts a b)) ⟨none,none,rfl,rfl⟩ ?_ ?_ ?_
  · rintro i σ H' _ ⟨x5,x6,rfl,rfl⟩
    exact SqL.of hD1
  · rintro i v σ H' hv ⟨x5,x6,rfl,rfl⟩
    obtain ⟨⟨u,t⟩,hut,p,rfl,hp⟩:=Paired.at hp1 hv
    obtain ⟨hu,ht,k,hk⟩:=hall _ (List.mem_of_getElem? hut)
    dsimp only at hu ht hk
    obtain ⟨cu,hcu⟩:∃ c,Lr[u]? = some c:=⟨_,List.getElem?_eq_getElem (by rw [lLr];exact hu)⟩
    refine ⟨p,_,rfl,SqT.of hp,rfl,_,_,rfl,_,_,rfl,rfl,?_⟩
    have hrow:=atI_nat (row_at (L:=L) (n:=ts.length) (a:=u) ht)
    rw [hk] at hrow
    refine ⟨_,rfl,_,rfl,_,rfl,Lc,_,_,_,rfl,rfl,SqL.of (s1 _ _ hLc),ref_at hcu,_,rfl,cu,_,_,_,rfl,rfl,SqL.of (s1 _ _ (hr' u cu hcu)),hrow,_,_,rfl,rfl,⟨some (nV u),some (nV t),?_,rfl⟩⟩
    rw [take_snocP hut,sumL_snoc]
    dsimp only
    rw [hk]
    generalize sumL (fun p=>(L p.1 p.2).getD 0) ((unlT ts a b).take i)=S
    have ev:V.int (((1+S:Nat):Int)+(k:Int))=nV (1+(S+k)):=by
      show V.int _=V.int _
      congr 1
      omega
    show [some (V.ref T),some (V.ref Lc),some (nV a),some (nV b),some (V.int (((1+S:Nat):Int)+(k:Int))),some (nV u),some (nV t)] = [some (V.ref T),some (V.ref Lc),some (nV a),some (nV b),some (nV (1+(S+k))),some (nV u),some (nV t)]
    rw [ev]
  · rintro σ H' ⟨x5,x6,rfl,rfl⟩
    rw [Paired.length hp1,List.take_length]
    exact ⟨_,rfl,q _ s1⟩
end

end K21
namespace K21
open PySem L2 Sw
section
variable {P:Program} {w:World} {K:PySem.W.Frag} {mg:Str→Option Value} {base:Heap} {CS:Addr}
theorem like_one {ts:List Tm} {es:List WEd} {ls:List Nat} {lp:List (Nat × Nat)} {nd:Nat × Nat→List (Nat × Nat)} {s:SS} {lk:Lack} (hp:LP ts ls lp nd) {u v k:Nat} (huv:u < v) (h:SI ts es ts.length s) (hh:HdOk s) (top:∀ x∈s.dn,x.k≤k) (huL:s.L u v=some k) {p:Nat × Nat} (hm:p∈lp) (hq:(u,v)∈nd p) (e1:lk p=remF s (nd p)+1) :
    Keep ts es ts.length s (likeStep ts (s,lk) p).1∧(downF lk p p=0→∀ q∈nd p,sB s q=true):=by
  have e2:downF lk p p=remF s (nd p):=by unfold downF;rw [if_pos rfl,e1];rfl
  refine ⟨?_,fun z=>rem_zero.mp (e2.symm.trans z)⟩
  by_cases ez:downF lk p p=0
  · have es':likeStep ts (s,lk) p=(tryF s p.1 p.2 (likeLen ts s.L p.1 p.2) true,downF lk p):=if_pos ez
    rw [es']
    have hall:=rem_zero.mp (e2.symm.trans ez)
    obtain ⟨hlt,x,as,bs,ha,hb,hlen⟩:=hp.at_ p hm
    have hbig:k≤likeLen ts s.L p.1 p.2:=by
      obtain ⟨r,hr,er⟩:=(hp.ndm p hm _).mp hq
      have hL:s.L r.1 r.2=some k:=by
        have q1:min r.1 r.2=u:=congrArg Prod.fst er
        have q2:max r.1 r.2=v:=congrArg Prod.snd er
        rcases Nat.lt_or_ge r.1 r.2 with q | q
        · rw [show r.1=u by omega,show r.2=v by omega];exact huL
        · rw [show r.1=v by omega,show r.2=u by omega,h.sym];exact huL
      have:=sumL_mem (g:=fun p=>(s.L p.1 p.2).getD 0) hr
      have this:(s.L r.1 r.2).getD 0≤sumL (fun p=>(s.L p.1 p.2).getD 0) (unlT ts p.1 p.2):=this
      rw [hL] at this
      have this:k≤sumL (fun p=>(s.L p.1 p.2).getD 0) (unlT ts p.1 p.2):=this
      unfold likeLen
      omega
    exact (try_ok (sg:=true) h hh (List.getElem?_eq_some_iff.mp ha).1 (List.getElem?_eq_some_iff.mp hb).1 (fun y hy=>Nat.le_trans (top y hy) hbig) (by unfold likeLen;omega) (like_der h hp hm hall) (fun _ => .inl rfl)).1
  · have es':likeStep ts (s,lk) p=(s,downF lk p):=if_neg ez
    rw [es']
    exact Keep.refl h hh
theorem like_snd {ts:List Tm} {s:SS} {lk:Lack} (p:Nat × Nat):(likeStep ts (s,lk) p).2=downF lk p:=by
  unfold likeStep
  split <;> rfl
theorem fold_snoc {ts:List Tm} {st:SS × Lack} {l:List (Nat × Nat)} {i:Nat} {p:Nat × Nat} (h:l[i]? = some p):(l.take (i+1)).foldl (likeStep ts) st=likeStep ts ((l.take i).foldl (likeStep ts) st) p:=by
  rw [take_snocP h,List.foldl_append];rfl
theorem like_pre {ts:List Tm} {es:List WEd} {ls:List Nat} {lp:List (Nat × Nat)} {nd:Nat × Nat→List (Nat × Nat)} {s:SS} {lk:Lack} (hp:LP ts ls lp nd) {u v k:Nat} (huv:u < v) (h:SI ts es ts.length s) (hh:HdOk s) (top:∀ x∈s.dn,x.k≤k) (hdn:s.Dn u v k) {l:List (Nat × Nat)} (hn:l.Nodup) (hl:∀ p∈l,p∈lp∧(u,v)∈nd p) (hk:∀ p∈l,lk p=remF s (nd p)+1) :
    ∀ i,i≤l.length→Keep ts es ts.length s ((l.take i).foldl (likeStep ts) (s,lk)).1∧∀ j p,l[j]? = some p→i≤j→((l.take i).foldl (likeStep ts) (s,lk)).2 p=lk p
  | 0,_=>⟨Keep.refl h hh,fun j p _ _=>rfl⟩
  | i+1,hi=>by
    obtain ⟨kp,sn⟩:=like_pre hp huv h hh top hdn hn hl hk i (by omega)
    have hpi:l[i]? = some l[i]:=List.getElem?_eq_getElem (by omega)
    generalize l[i]=p at hpi
    rw [fold_snoc hpi]
    have e0:=sn i p hpi (Nat.le_refl _)
    generalize (l.take i).foldl (likeStep ts) (s,lk)=st at kp sn e0 ⊢
    obtain ⟨s1,lk1⟩:=st
    dsimp only at kp sn e0
    obtain ⟨hm,hq⟩:=hl p (List.mem_of_getElem? hpi)
    have d1:s1.Dn u v k:=by unfold SS.Dn;rw [kp.dn];exact hdn
    have rem1:remF s1 (nd p)=remF s (nd p):=by unfold remF sB;rw [kp.dn]
    obtain ⟨k1,_⟩:=like_one (lk:=lk1) hp huv kp.si kp.hd (by rw [kp.dn];exact top) (kp.si.dnL d1).1 hm hq (by rw [e0,rem1];exact hk p (List.mem_of_getElem? hpi))
    refine ⟨kp.trans k1,fun j p' hj hij => ?_⟩
    rw [like_snd]
    unfold downF
    rw [if_neg (fun z=>by
      rw [z] at hj
      have:=(List.getElem?_inj (List.getElem?_eq_some_iff.mp hj).1 hn).mp (hj.trans hpi.symm)
      omega)]
    exact sn j p' hj (by omega)
noncomputable def StLen (s:SS):Prop := ∀ x,(s.St x).length≤s.dn.length
noncomputable def OwnsS (A:SA) (c:Addr):Prop:=Owns A c∨c∈A.Sr∨c=A.Lk
noncomputable def ButS (A:SA) (H H':Hp):Prop := ∀ c o, ¬ OwnsS A c→H c=some o→H' c=some o
theorem ButS.of {A:SA} {H H':Hp} (h:ButO A H H'):ButS A H H':=fun c o n e=>h c o (fun z=>n (.inl z)) e
theorem ButS.trans {A:SA} {H H1 H2:Hp} (a:ButS A H H1) (b:ButS A H1 H2):ButS A H H2:=fun c o n e=>b c o n (a c o n e)
theorem ButS.upd {A:SA} {H H':Hp} (a:ButS A H H') {c:Addr} {o:HO} (hc:OwnsS A c):ButS A H (upd H' c o):=fun d u n e=>by rw [upd_ne (fun z=>n (by rw [z];exact hc))];exact a d u n e
theorem ButS.same {A:SA} {H H1 H2:Hp} (a:ButS A H H1) (b:Same H1 H2):ButS A H H2:=fun c o n e=>b _ _ (a c o n e)
noncomputable def lkF (lp:List (Nat × Nat)) (lk:Lack):Nat × Nat→Option Nat:=fun p=>if p∈lp then some (lk p) else none
theorem lk_down {lp:List (Nat × Nat)} {lk:Lack} {p:Nat × Nat} (hm:p∈lp) (q:Nat × Nat):((lkF lp (downF lk p)) q).map nV=if q=p then some (nV (downF lk p p)) else ((lkF lp lk) q).map nV:=by
  unfold lkF
  by_cases e:q=p
  · subst e;rw [if_pos hm,if_pos rfl];rfl
  · rw [if_neg e]
    by_cases hq:q∈lp
    · rw [if_pos hq,if_pos hq]
      unfold downF
      rw [if_neg e]
    · rw [if_neg hq,if_neg hq]
theorem SeAt.dnG {H:Hp} {o dx:Addr} {A:SA} {us:List V} {ts:List Tm} {aw:Nat × Nat→List (Nat × Nat)} {s:SS} {lk:Nat × Nat→Option Nat} (h:SeAt P w CS o dx A us ts aw H s lk) (d:List DE):SeAt P w CS o dx A us ts aw H { s with dn:=d } lk :=
  ⟨h.ins,h.hT,h.tms,h.hL,h.lL,h.rL,h.hW,h.lW,h.rW,h.hH,h.sg,h.hS,h.lS,h.rS,h.aw_,h.lk_,h.sep,h.few⟩
theorem SeAt.notOwnS {H:Hp} {o dx:Addr} {A:SA} {us:List V} {ts:List Tm} {aw:Nat × Nat→List (Nat × Nat)} {s:SS} {lk:Nat × Nat→Option Nat} (h:SeAt P w CS o dx A us ts aw H s lk) {c:Addr} {u:HO} (hc:H c=some u) (hl:c ∉ A.Lr) (hs:c ∉ A.Sr) (hd:∀ kvs,u ≠ .dK kvs) (he:∀ φ,u ≠ .ext φ):¬ OwnsS A c:=by
  rintro (z | z | z)
  · exact h.notOwn hc hl hd he z
  · exact hs z
  · obtain ⟨kvs,e⟩:=h.lk_
    obtain ⟨φ,e⟩:=e.dn.ext
    rw [← z,hc] at e
    exact he _ (Option.some.inj e)
theorem SeAt.tupOff {H:Hp} {o dx:Addr} {A:SA} {us:List V} {ts:List Tm} {aw:Nat × Nat→List (Nat × Nat)} {s:SS} {lk:Nat × Nat→Option Nat} (h:SeAt P w CS o dx A us ts aw H s lk) {c:Addr} {ys:List V} (hc:H c=some (.tup ys)):¬ OwnsS A c:=by
  refine h.notOwnS hc (fun z => ?_) (fun z => ?_) (fun _ z=>nomatch z) (fun _ z=>nomatch z)
  · obtain ⟨i,hi⟩:=List.getElem?_of_mem z
    have:=h.rL i c hi
    rw [hc] at this;cases this
  · obtain ⟨i,hi⟩:=List.getElem?_of_mem z
    obtain ⟨vs,e,_⟩:=h.rS i c hi
    rw [hc] at e;cases e
inductive SlI (P:Program) (w:World) (CS o dx:Addr) (A:SA) (us:List V) (ts:List Tm) (aw:Nat × Nat→List (Nat × Nat)) (lp:List (Nat × Nat)) (H:Hp) (τ : St) (st:SS × Lack) (l:List (Nat × Nat)) (i:Nat) (σ : St) (H':Hp):Prop
  | mk (x4 x5:Option V):(σ = τ ++ [x4,x5])→ButS A H H'→SeAt P w CS o dx A us ts aw H' ((l.take i).foldl (likeStep ts) st).1 (lkF lp ((l.take i).foldl (likeStep ts) st).2)→SlI P w CS o dx A us ts aw lp H τ st l i σ H'
end

end K21
namespace K21
open PySem L2 Sw
section
variable {P:Program} {w:World} {K:PySem.W.Frag} {mg:Str→Option Value} {base:Heap} {CS:Addr}
structure Rdy (P:Program) (w:World) (CS o dx:Addr) (A:SA) (us:List V) (ts:List Tm) (es:List WEd) (ls:List Nat) (lp:List (Nat × Nat)) (nd:Nat × Nat→List (Nat × Nat)) (aw:Nat × Nat→List (Nat × Nat)) (H:Hp) (s:SS) (lk:Lack):Prop where
  at_:SeAt P w CS o dx A us ts aw H s (lkF lp lk)
  all:AllI ts es lp nd s lk
  len:StLen s
structure Fix (ts:List Tm) (ls:List Nat) (lp:List (Nat × Nat)) (nd:Nat × Nat→List (Nat × Nat)) (aw:Nat × Nat→List (Nat × Nat)):Prop where
  lp_:LP ts ls lp nd
  awn:∀ q,(aw q).Nodup
  awm:∀ q p,p∈aw q↔p∈lp∧q∈nd p
  sml:∀ (i:Nat) x as,ts[i]? = some (.of x as)→as.length≤1000∧∀ a∈as,a < ts.length
inductive SpSettle (P:Program) (w:World) (CS:Addr) (vs:List V) (H:Hp) (Q:VK):Prop
  | mk (o dx:Addr) (A:SA) (us:List V) (ts:List Tm) (es:List WEd) (ls:List Nat) (lp:List (Nat × Nat)) (nd:Nat × Nat→List (Nat × Nat)) (aw:Nat × Nat→List (Nat × Nat)) (s:SS) (lk:Lack) (a b k:Nat) (z0:vs = [.ref o,nV a,nV b,nV k]) (z1:Rdy P w CS o dx A us ts es ls lp nd aw H s lk) (z2:Fix ts ls lp nd aw) (z3:s.W a b=some k) (z4:∀ c d m,s.W c d=some m→k≤m)
    (z5:∀ s' lk' H',ButS A H H'→Rdy P w CS o dx A us ts es ls lp nd aw H' s' lk'→s'.dn.length=s.dn.length+1→Q .non H'):SpSettle P w CS vs H Q
noncomputable def spSettle (P:Program) (w:World) (CS:Addr):Sp:=fun vs H Q _=>SpSettle P w CS vs H Q
theorem sg_eq {o:Option Nat} {k:Nat}:decide ((Option.map nV o).getD V.non=nV k)=decide (o=some k):=by
  rw [Bool.eq_iff_iff,decide_eq_true_iff,decide_eq_true_iff]
  cases o with
  | none=>exact ⟨fun z=>(nomatch z),fun z=>(nomatch z)⟩
  | some m=>exact ⟨fun z=>by have z:V.int m=V.int k:=z;have:=V.int.inj z;congr 1;omega,fun z=>by cases z;rfl⟩
theorem lack_more {ts:List Tm} {es:List WEd} {ls:List Nat} {lp:List (Nat × Nat)} {nd:Nat × Nat→List (Nat × Nat)} {s s3:SS} {lk:Lack} (A:AllI ts es lp nd s lk) (hp:LP ts ls lp nd) {a b k:Nat} {f:Bool} (hw:s.W a b=some k) (dn3:s3.dn=s.dn ++ [⟨a,b,k,f⟩]) {p:Nat × Nat} (hm:p∈lp) (hq:(a,b)∈nd p):lk p=remF s3 (nd p)+1:=by
  have hb:sB s (a,b)=false:=by
    cases e:sB s (a,b) with
    | false=>rfl
    | true =>
      obtain ⟨x,hx,g1,g2⟩:=sB_iff.mp e
      have:=(A.si.dl x hx).2.2
      rw [g1,g2,hw] at this;cases this
  have h3:∀ q,sB s3 q=true↔sB s q=true∨q=(a,b):=fun q=>by
    rw [sB_iff,sB_iff,dn3]
    constructor
    · rintro ⟨x,hx,g⟩
      rcases List.mem_append.mp hx with hx | hx
      · exact .inl ⟨x,hx,g⟩
      · rw [List.mem_singleton.mp hx] at g
        exact .inr (Prod.ext g.1.symm g.2.symm)
    · rintro (⟨x,hx,g⟩ | rfl)
      · exact ⟨x,List.mem_append.mpr (.inl hx),g⟩
      · exact ⟨_,List.mem_append.mpr (.inr (List.mem_singleton_self _)),rfl,rfl⟩
  rw [A.lack p hm,rem_more hb h3 (hp.ndd p hm),if_pos hq]
theorem SeAt.ownS {H:Hp} {o dx:Addr} {A:SA} {us:List V} {ts:List Tm} {aw:Nat × Nat→List (Nat × Nat)} {s:SS} {lk:Nat × Nat→Option Nat} (h:SeAt P w CS o dx A us ts aw H s lk) {c:Addr} (hc:H c=none):¬ OwnsS A c:=by
  rintro ((z | z | z | z) | z | z)
  · obtain ⟨i,hi⟩:=List.getElem?_of_mem z
    rw [h.rL i c hi] at hc;cases hc
  · obtain ⟨i,hi⟩:=List.getElem?_of_mem z
    obtain ⟨kvs,e,_⟩:=h.rW i c hi
    rw [hc] at e;cases e
  · obtain ⟨kvs,e,_⟩:=h.hH
    rw [← z,hc] at e;cases e
  · obtain ⟨kvs,e⟩:=h.sg
    obtain ⟨φ,e⟩:=e.dn.ext
    rw [← z,hc] at e;cases e
  · obtain ⟨i,hi⟩:=List.getElem?_of_mem z
    obtain ⟨kvs,e,_⟩:=h.rS i c hi
    rw [hc] at e;cases e
  · obtain ⟨kvs,e⟩:=h.lk_
    obtain ⟨φ,e⟩:=e.dn.ext
    rw [← z,hc] at e;cases e
theorem aw_list {H:Hp} {o dx:Addr} {A:SA} {us:List V} {ts:List Tm} {aw:Nat × Nat→List (Nat × Nat)} {s:SS} {lk:Nat × Nat→Option Nat} (h:SeAt P w CS o dx A us ts aw H s lk) {kvs:List (NK × V)} (q:Nat × Nat) {c:Addr} (hc:H c=none)
    (hv:(aw q = []∧valV kvs (prNK q)=none)∨∃ c vs,valV kvs (prNK q)=some (.ref c)∧H c=some (.lst vs)∧PairsAt H vs (aw q)∧c ∉ A.Lr∧c ∉ A.Sr) :
    ∃ d vs,(valV kvs (prNK q)).getD (.ref c) = .ref d∧(upd H c (.lst [])) d=some (.lst vs)∧PairsAt (upd H c (.lst [])) vs (aw q)∧¬ OwnsS A d:=by
  rcases hv with ⟨e1,e2⟩ | ⟨d,vs,e1,e2,e3,n1,n2⟩
  · exact ⟨c, [],by rw [e2];rfl,upd_same,by rw [e1];exact .nil,h.ownS hc⟩
  · have sm:=same_new hc (.lst [])
    exact ⟨d,vs,by rw [e1];rfl,sm _ _ e2,pairs_keep e3 fun c ys e=>sm _ _ e,h.notOwnS e2 n1 n2 (fun _ z=>nomatch z) (fun _ z=>nomatch z)⟩
theorem ok_settle (B:Blt mg) (Z:TopSe K mg CS) (h_find_head:HasM P w K mg base 1 CS "find_head" ["self", "a"] (spFind P w CS)) (h_lengthen:HasM P w K mg base 2 CS "lengthen" ["self", "a", "b", "length"] (spLen P w CS)) (h_offer_step:HasM P w K mg base 2 CS "offer_step" ["self", "a", "b", "length"] (spStep P w CS)) (h_like_length:Has P w K mg base 2 "like_length" ["terms", "least", "a", "b"] spLL)
    (D:DefM K CS "settle" "Search.settle" s_settle ["self", "a", "b", "length"]):HasM P w K mg base 3 CS "settle" ["self", "a", "b", "length"] (spSettle P w CS):=by
  have cS:=Z.cS
  refine D.has sc_settle (fun vs H Q E h => ?_) (fun f cdv A outer s H vs Q E hr h => ?_)
  · obtain ⟨o,dx,A,us,ts,es,ls,lp,nd,aw,s,lk,a,b,k,rfl,_⟩:=h;rfl
  obtain ⟨o,dx,A,us,ts,es,ls,lp,nd,aw,s,lk,a,b,k,rfl,rd,fx,hw,least,q⟩:=h
  refine ⟨_,(pss_cons (ps_expr (pe_dpop1 (pe_ix ix_list (pe_fld (pv 0) rfl) (pv 1) (fun _ _=>rfl)) (pv 2) ⟨rfl,rfl,rfl,rfl⟩))
    (pss_cons (ps_expr (pe_mE h_find_head cS hr (by omega) (passE fun _ _ _ z=>z) (pv 0) (pa_cons (pv 1) pa_nil)))
    (pss_cons (ps_if (pt_cmpR op_eq (pe_nget1 (un10 hr) (pe_fld (pv 0) rfl) (pe_tup (pa_cons (pv 1) (pa_cons (pv 2) pa_nil))) ⟨rfl,rfl,rfl,rfl⟩) (pv 3) (nomark _)) (pss_cons (ps_expr (pe_bm PySem.F.plainAttrs_list PySem.F.slot_list_append PySem.F.type_list_append mt_append (pe_ix ix_list (pe_fld (pv 0) rfl) (pv 1) (fun _ _=>rfl)) (pa_cons (pe_tup (pa_cons (pv 2) (pa_cons (pv 3) pa_nil))) pa_nil)))
    (pss_one (ps_expr (pe_bm PySem.F.plainAttrs_list PySem.F.slot_list_append PySem.F.type_list_append mt_append (pe_ix ix_list (pe_fld (pv 0) rfl) (pv 2) (fun _ _=>rfl)) (pa_cons (pe_tup (pa_cons (pv 1) (pa_cons (pv 3) pa_nil))) pa_nil))))) pss_nil)
    (pss_cons (ps_expr (pe_mE h_lengthen cS hr (by omega) (passE fun _ _ _ z=>z) (pv 0) (pa_cons (pv 1) (pa_cons (pv 2) (pa_cons (pv 3) pa_nil)))))
    (pss_cons (ps_expr (pe_mE h_lengthen cS hr (by omega) (passE fun _ _ _ z=>z) (pv 0) (pa_cons (pv 2) (pa_cons (pv 1) (pa_cons (pv 3) pa_nil)))))
    (pss_one (ps_for PassesOwn.leaving rfl (pi_list (pe_nget2 (un10 hr) (pe_fld (pv 0) rfl) (pe_tup (pa_cons (pv 1) (pa_cons (pv 2) pa_nil))) (pe_lst pa_nil) ⟨rfl,rfl,rfl,rfl⟩)) (pg_tup rfl (pgs_cons (pg_name (i:=4) sc_settle.nd rfl (Or.inl rfl)) (pgs_cons (pg_name (i:=5) sc_settle.nd rfl (Or.inl rfl)) pgs_nil)))
    (pss_cons (ps_augS (pe_fld (pv 0) rfl) (pe_tup (pa_cons (pv 4) (pa_cons (pv 5) pa_nil))) (get_dn (un10 hr)) pe_int ip_sub (set_dn (un10 hr)))
    (pss_one (ps_if (pt_cmpR op_eq (pe_nget (un10 hr) (pe_fld (pv 0) rfl) (pe_tup (pa_cons (pv 4) (pa_cons (pv 5) pa_nil))) (fun _ _=>rfl)) pe_int (nomark _)) (pss_one (ps_expr (pe_mE h_offer_step cS hr (by omega) (passE fun _ _ _ z=>z) (pv 0) (pa_cons (pv 4) (pa_cons (pv 5) (pa_cons (pe_callH h_like_length hr (by omega) rfl (pa_cons (pe_fld (pv 0) rfl) (pa_cons (pe_fld (pv 0) rfl) (pa_cons (pv 4) (pa_cons (pv 5) pa_nil))))) pa_nil)))))) pss_nil)))))))))),?_⟩
  try dsimp only [cxOf]
  have h:=rd.at_
  have si:=rd.all.si
  obtain ⟨hab,hLab⟩:=si.wl a b k hw
  obtain ⟨ha,hb⟩:=si.dom a b k hLab
  obtain ⟨cw,hcw⟩:∃ c,A.Wr[a]? = some c:=⟨_,List.getElem?_eq_getElem (by rw [h.lW];exact ha)⟩
  obtain ⟨kw,hw1,hw2⟩:=h.rW a cw hcw
  have hvb:valV kw (.inl (b:Int))=some (nV k):=by rw [hw2.val b,hw];rfl
  -- it waits no more
  refine ⟨_,rfl,o,CS,dx,_,_,rfl,h.ins,Z.cS,Z.nWaiting,rfl,_,rfl,A.W,_,_,_,rfl,rfl,SqL.of h.hW,ref_at hcw,cw,rfl,.inl ⟨_,.inl hw1⟩,_,rfl,kw,.inl (b:Int),_,hw1,rfl,hvb,?_⟩
  have h1:=h.setW hcw (dropM s.W a b) (fun x y n=>by unfold dropM;rw [if_neg (fun z=>n z.1)]) hw2.drop
  have b1:ButS A H (upd H cw (.dK (dropK kw (.inl (b:Int))))):=(ButS.of (ButO.refl A H)).upd (.inl (.inr (.inl (List.mem_of_getElem? hcw))))
  generalize upd H cw (.dK (dropK kw (.inl (b:Int))))=H1 at h1 b1 ⊢
  have hhd:s.Hd a≠none:=fun z=>by rw [rd.all.hd.hn a z b] at hw;cases hw
  refine ⟨_,rfl,o,dx,_,rfl,h1.ins,rfl,_,rfl,o,dx,A,us,ts,aw,_,lkF lp lk,a,rfl,h1,ha,hhd,fun hd H2 rh b2 h2 => ?_⟩
  have b2:=b1.trans (ButS.of b2)
  -- is it one step
  obtain ⟨kg,g1⟩:=id h2.sg
  dsimp only
  refine rd_cut (fun σ' H4 => σ' = [some (.ref o),some (nV a),some (nV b),some (nV k),none,none]∧ButS A H H4∧SeAt P w CS o dx A us ts aw H4 (popF s a b k (decide (s.Sg a b=some k)) hd) (lkF lp lk)) ?_ (fun key => ?_)
  rotate_left
  · refine rd_ifR (fun c Hc=>Same H2 Hc∧c=decide (s.Sg a b=some k)) (fun Qc qc => ?_) ?_ ?_
    · refine ⟨_,rfl,o,CS,dx,_,_,rfl,h2.ins,Z.cS,Z.nSingle,rfl,A.Sg,rfl,⟨_,g1.dn⟩,_,rfl,_,rfl,(show 2≤sizeLine by decide),fun p hp => ?_⟩
      have s3:=same_new hp (.tup [nV a,nV b])
      have hp3:=upd_same (H:=H2) (a:=p) (o := .tup [nV a,nV b])
      generalize upd H2 p (.tup [nV a,nV b])=H3 at s3 hp3 ⊢
      refine ⟨p,kg,prNK (a,b),rfl,g1.dn.same s3,pr_key hp3,?_⟩
      rw [g1.val]
      refine ⟨_,rfl,(show scal ((Option.map nV (s.Sg a b)).getD V.non) (nV k)=true by cases s.Sg a b <;> rfl),_,rfl,?_⟩
      have:=qc (decide (s.Sg a b=some k)) H3 ⟨s3,rfl⟩
      rw [← sg_eq] at this
      exact this
    · rintro Hc ⟨s3,e⟩
      have h3:=h2.same s3
      obtain ⟨ca,hca⟩:∃ c,A.Sr[a]? = some c:=⟨_,List.getElem?_eq_getElem (by rw [h.lS];exact ha)⟩
      obtain ⟨cb,hcb⟩:∃ c,A.Sr[b]? = some c:=⟨_,List.getElem?_eq_getElem (by rw [h.lS];exact hb)⟩
      have hdn:s.dn.length≤900:=Nat.le_trans (dn_few rd.all) (Nat.mul_le_mul h.few h.few)
      obtain ⟨va,hs1,hs2⟩:=h3.rS a ca hca
      have la:=Paired.length hs2
      have l1:=rd.len a
      have la:va.length=(s.St a).length:=la
      refine ⟨_,rfl,o,CS,dx,_,_,rfl,h3.ins,Z.cS,Z.nSteps,rfl,_,rfl,A.S,_,_,_,rfl,rfl,SqL.of h3.hS,ref_at hca,.inl ⟨rfl,_,SqL.of hs1⟩,_,rfl,_,rfl,(show 2≤sizeLine by decide),fun q1 hq1 => ?_⟩
      have s4:=same_new hq1 (.tup [nV b,nV k])
      have hq4:=upd_same (H:=Hc) (a:=q1) (o := .tup [nV b,nV k])
      generalize upd Hc q1 (.tup [nV b,nV k])=H4 at s4 hq4 ⊢
      refine ⟨ca,_,_,rfl,rfl,s4 _ _ hs1,small1000 (by omega),?_⟩
      have h4:=h3.same s4
      have h5:=h4.setS hca (vs:=va ++ [.ref q1]) (fun x=>if x=a then s.St a ++ [(b,k)] else s.St x) (fun x n=>if_neg n) (by
        rw [if_pos rfl]
        exact paired_app (pairs_keep hs2 fun c ys e=>s4 _ _ e) (.cons ⟨q1,rfl,hq4⟩ .nil))
      have b5:ButS A H (upd H4 ca (.lst (va ++ [.ref q1]))):=((b2.same s3).same s4).upd (.inr (.inl (List.mem_of_getElem? hca)))
      generalize upd H4 ca (.lst (va ++ [.ref q1]))=H5 at h5 b5 ⊢
      obtain ⟨vb,ht1,ht2⟩:=h5.rS b cb hcb
      have ht2:PairsAt H5 vb (if b=a then s.St a ++ [(b,k)] else s.St b):=ht2
      rw [if_neg (by omega)] at ht2
      have lb:=Paired.length ht2
      have l2:=rd.len b
      refine ⟨_,rfl,o,CS,dx,_,_,rfl,h5.ins,Z.cS,Z.nSteps,rfl,_,rfl,A.S,_,_,_,rfl,rfl,SqL.of h5.hS,ref_at hcb,.inl ⟨rfl,_,SqL.of ht1⟩,_,rfl,_,rfl,(show 2≤sizeLine by decide),fun q2 hq2 => ?_⟩
      have s6:=same_new hq2 (.tup [nV a,nV k])
      have hq6:=upd_same (H:=H5) (a:=q2) (o := .tup [nV a,nV k])
      generalize upd H5 q2 (.tup [nV a,nV k])=H6 at s6 hq6 ⊢
      refine ⟨cb,_,_,rfl,rfl,s6 _ _ ht1,small1000 (by omega),key _ _ ⟨rfl,(b5.same s6).upd (.inr (.inl (List.mem_of_getElem? hcb))),?_⟩⟩
      have h6:=h5.same s6
      have h7:=h6.setS hcb (vs:=vb ++ [.ref q2]) (fun x=>if x=a then s.St a ++ [(b,k)] else if x=b then s.St b ++ [(a,k)] else s.St x) (fun x n=>by
        show _=if x=a then s.St a ++ [(b,k)] else s.St x
        by_cases ex:x=a
        · rw [if_pos ex,if_pos ex]
        · rw [if_neg ex,if_neg ex,if_neg n]) (by
        rw [if_neg (by omega),if_pos rfl]
        exact paired_app (pairs_keep ht2 fun c ys e=>s6 _ _ e) (.cons ⟨q2,rfl,hq6⟩ .nil))
      have h8:=h7.dnG (s.dn ++ [⟨a,b,k,decide (s.Sg a b=some k)⟩])
      have es:(⟨s.L,dropM s.W a b,fun x=>if x=a then hd else s.Hd x,s.Sg,fun x=>if x=a then s.St a ++ [(b,k)] else if x=b then s.St b ++ [(a,k)] else s.St x,s.dn ++ [⟨a,b,k,decide (s.Sg a b=some k)⟩]⟩:SS)=popF s a b k (decide (s.Sg a b=some k)) hd:=by
        unfold popF
        rw [← e]
        rfl
      rw [← es]
      exact h8
    · rintro Hc ⟨s3,e⟩
      refine key _ _ ⟨rfl,b2.same s3,?_⟩
      have h8:=(h2.same s3).dnG (s.dn ++ [⟨a,b,k,decide (s.Sg a b=some k)⟩])
      have es:(⟨s.L,dropM s.W a b,fun x=>if x=a then hd else s.Hd x,s.Sg,s.St,s.dn ++ [⟨a,b,k,decide (s.Sg a b=some k)⟩]⟩:SS)=popF s a b k (decide (s.Sg a b=some k)) hd:=by
        unfold popF
        rw [← e]
        rfl
      rw [← es]
      exact h8
  rintro σ' H4 ⟨rfl,b4,h4⟩
  have hf:s.Sg a b=some k→decide (s.Sg a b=some k)=true:=fun z=>decide_eq_true z
  generalize decide (s.Sg a b=some k)=fl at h4 hf
  obtain ⟨i1,o1⟩:=pop_ok (f:=fl) si rd.all.hd hw least hf rh
  have stl:∀ x,∀ e∈(popF s a b k fl hd).St x,e.1 < ts.length:=fun x e he=>by
    obtain ⟨y,hy,py,_⟩:=(i1.st x e.1 e.2).mp he
    exact (i1.dom _ _ _ (i1.dnL ⟨y,hy,py,rfl⟩).1).2
  -- lengthened
  refine ⟨_,rfl,o,dx,_,rfl,h4.ins,rfl,_,rfl,_,rfl,_,rfl,o,dx,A,us,ts,aw,_,lkF lp lk,a,b,k,rfl,h4,ha,hb,i1.diag,stl b,fun H5 b5 h5 => ?_⟩
  obtain ⟨s1,es1⟩:∃ s1,s1=popF s a b k fl hd:=⟨_,rfl⟩
  rw [← es1] at h5 i1 o1 stl
  obtain ⟨s2,es2⟩:∃ s2,s2=lengthF a k s1 (s1.St b):=⟨_,rfl⟩
  rw [← es2] at h5
  have st2:s2.St=s1.St:=by rw [es2];exact st_length ..
  have dg2:DiagOk ts.length s2:=by rw [es2];exact diag_length ha i1.diag
  refine ⟨_,rfl,o,dx,_,rfl,h5.ins,rfl,_,rfl,_,rfl,_,rfl,o,dx,A,us,ts,aw,_,lkF lp lk,b,a,k,rfl,h5,hb,ha,dg2,by rw [st2];exact stl a,fun H6 b6 h6 => ?_⟩
  obtain ⟨s3,es3⟩:∃ s3,s3=lengthF b k s2 (s2.St a):=⟨_,rfl⟩
  rw [← es3] at h6
  obtain ⟨kk,fa3,dn3,le3,top3⟩:=settle_ok (f:=fl) si rd.all.hd rd.all.fa hw least hf rh s1 s2 s3 es1 es2 es3
  have trn:=all_turn rd.all fx.lp_ hw least hf rh (fx.awn (a,b)) (fun p=>fx.awm (a,b) p) s1 s2 s3 es1 es2 es3
  have d3:s3.Dn a b k:=⟨⟨a,b,k,fl⟩,by rw [dn3];exact List.mem_append.mpr (.inr (List.mem_singleton_self _)),.inl ⟨rfl,rfl⟩,rfl⟩
  have hin:∀ p∈aw (a,b),p∈lp∧(a,b)∈nd p:=fun p hp=>(fx.awm (a,b) p).mp hp
  have hk3:∀ p∈aw (a,b),lk p=remF s3 (nd p)+1:=fun p hp=>lack_more rd.all fx.lp_ hw dn3 (hin p hp).1 (hin p hp).2
  have mid:=like_pre fx.lp_ hab kk.si kk.hd top3 d3 (fx.awn (a,b)) hin hk3
  have b6:=(b4.trans (ButS.of b5)).trans (ButS.of b6)
  obtain ⟨ka,d0,dk,dq⟩:=id h6.aw_
  -- what waits for it
  refine ⟨_,rfl,o,CS,dx,_,_,rfl,h6.ins,Z.cS,Z.nAwaited,rfl,A.Aw,rfl,⟨_,d0⟩,_,rfl,_,rfl,(show 2≤sizeLine by decide),fun p hp => ?_⟩
  have s7:=same_new hp (.tup [nV a,nV b])
  have hp7:=upd_same (H:=H6) (a:=p) (o := .tup [nV a,nV b])
  generalize upd H6 p (.tup [nV a,nV b])=H7 at s7 hp7 ⊢
  have h7:=h6.same s7
  have dq7:(aw (a,b) = []∧valV ka (prNK (a,b))=none)∨∃ c vs,valV ka (prNK (a,b))=some (.ref c)∧H7 c=some (.lst vs)∧PairsAt H7 vs (aw (a,b))∧c ∉ A.Lr∧c ∉ A.Sr:=(dq (a,b)).imp id fun ⟨c,vs,g1,g2,g3,g4⟩=>⟨c,vs,g1,s7 _ _ g2,pairs_keep g3 (fun c ys e=>s7 _ _ e),g4⟩
  refine ⟨(show 0≤sizeLine by decide),fun c hc => ?_⟩
  obtain ⟨cl,vl,g1,g2,g3,g4⟩:=aw_list h7 (a,b) hc dq7
  have s8:=s7.trans (same_new hc (.lst []))
  have hp8:=same_new hc (.lst []) _ _ hp7
  generalize upd H7 c (.lst [])=H8 at g2 g3 s8 hp8 ⊢
  have h8:=h6.same s8
  have b8:=b6.same s8
  refine ⟨p,ka,prNK (a,b),rfl,d0.same s8,pr_key hp8,?_⟩
  rw [g1]
  refine ⟨cl,rfl,⟨_,SqL.of g2⟩,?_⟩
  refine for_list (xs:=vl) (SlI P w CS o dx A us ts aw lp H8 [some (.ref o),some (nV a),some (nV b),some (nV k)] (s3,lk) (aw (a,b))) ⟨none,none,rfl,fun c o _ e=>e,h8⟩ ?_ ?_ ?_
  · rintro i σ H' _ ⟨x4,x5,rfl,bt,_⟩
    exact SqL.of (bt _ _ g4 g2)
  · rintro i y σ H' hy ⟨x4,x5,rfl,bt,h'⟩
    obtain ⟨pq,hpq,pa,rfl,hpa⟩:=Paired.at g3 hy
    have hpm:=List.mem_of_getElem? hpq
    obtain ⟨hm,hq⟩:=hin pq hpm
    have hlt:=(List.getElem?_eq_some_iff.mp hpq).1
    obtain ⟨kp,sn⟩:=mid i (by omega)
    have nx:=fold_snoc (ts:=ts) (st:=(s3,lk)) hpq
    have e0:=sn i pq hpq (Nat.le_refl _)
    have hpa':=bt _ _ (h8.tupOff hpa) hpa
    generalize (List.take i (aw (a,b))).foldl (likeStep ts) (s3,lk)=st at h' kp sn nx e0
    obtain ⟨s4,lk4⟩:=st
    dsimp only at h' kp sn e0
    obtain ⟨hltp,x,as,bs,ta,tb,hl⟩:=fx.lp_.at_ pq hm
    have la:=(List.getElem?_eq_some_iff.mp ta).1
    have lb:=(List.getElem?_eq_some_iff.mp tb).1
    have d4:s4.Dn a b k:=by unfold SS.Dn;rw [kp.dn];exact d3
    have rem4:remF s4 (nd pq)=remF s3 (nd pq):=by unfold remF sB;rw [kp.dn]
    have e4:lk4 pq=remF s4 (nd pq)+1:=by rw [e0,rem4];exact hk3 pq hpm
    obtain ⟨_,tell⟩:=like_one (lk:=lk4) fx.lp_ hab kp.si kp.hd (by rw [kp.dn];exact top3) (kp.si.dnL d4).1 hm hq e4
    refine ⟨pa,_,rfl,SqT.of hpa',rfl,_,_,rfl,_,_,rfl,rfl,?_⟩
    dsimp only
    -- it lacks one less
    refine ⟨_,rfl,o,CS,dx,_,_,rfl,h'.ins,Z.cS,Z.nLacking,rfl,_,rfl,_,rfl,(show 2≤sizeLine by decide),fun p1 hp1 => ?_⟩
    have s9:=same_new hp1 (.tup [nV pq.1,nV pq.2])
    have hp9:=upd_same (H:=H') (a:=p1) (o := .tup [nV pq.1,nV pq.2])
    generalize upd H' p1 (.tup [nV pq.1,nV pq.2])=H9 at s9 hp9 ⊢
    have h9:=h'.same s9
    have bt9:=bt.same s9
    obtain ⟨kl,l1⟩:=id h9.lk_
    have hv:valV kl (prNK pq)=some (nV (lk4 pq)):=by rw [l1.val];unfold lkF;rw [if_pos hm];rfl
    refine ⟨A.Lk,p1,kl,prNK pq,_,rfl,rfl,l1.dn,pr_key hp9,hv,?_⟩
    have ev:V.int ((lk4 pq:Int) - 1)=nV (downF lk4 pq pq):=by
      show V.int _=V.int _
      congr 1
      unfold downF
      rw [if_pos rfl]
      omega
    refine ⟨_,_,rfl,rfl,A.Lk,p1,kl,prNK pq,rfl,rfl,l1.dn,pr_key hp9,small1000 (by have:=l1.few h.few;omega),fun φ d => ?_⟩
    have d:DN P w (upd H9 A.Lk (.ext φ)) A.Lk (putK kl (prNK pq) (V.int ((lk4 pq:Int) - 1))):=d
    rw [ev] at d
    have h10:=h9.setP (φ := φ) (x:=A.Lk) (.inr rfl) s4.Sg (lkF lp (downF lk4 pq)) (fun z=>absurd z.symm h.sep.e2) (fun _=>⟨⟨_,by
      have:=l1.put ⟨la,lb⟩ d
      refine ⟨this.dn,fun q => ?_,this.key⟩
      rw [this.val]
      exact (lk_down hm q).symm⟩,rfl⟩)
    have b10:ButS A H8 (upd H9 A.Lk (.ext φ)):=bt9.upd (.inr (.inr rfl))
    generalize upd H9 A.Lk (.ext φ)=H10 at h10 b10 ⊢
    dsimp only
    obtain ⟨k2,l2⟩:=id h10.lk_
    have hv2:valV k2 (prNK pq)=some (nV (downF lk4 pq pq)):=by rw [l2.val];unfold lkF;rw [if_pos hm];rfl
    refine rd_ifR (fun c Hc=>Same H10 Hc∧c=decide (downF lk4 pq pq=0)) (fun Qc qc => ?_) ?_ ?_
    · refine ⟨_,rfl,o,CS,dx,_,_,rfl,h10.ins,Z.cS,Z.nLacking,rfl,_,rfl,_,rfl,(show 2≤sizeLine by decide),fun p2 hp2 => ?_⟩
      have s11:=same_new hp2 (.tup [nV pq.1,nV pq.2])
      have hp11:=upd_same (H:=H10) (a:=p2) (o := .tup [nV pq.1,nV pq.2])
      generalize upd H10 p2 (.tup [nV pq.1,nV pq.2])=H11 at s11 hp11 ⊢
      refine ⟨A.Lk,p2,k2,prNK pq,_,rfl,rfl,l2.dn.same s11,pr_key hp11,hv2,rfl,_,rfl,?_⟩
      have:=qc _ H11 ⟨s11,rfl⟩
      rw [show decide (downF lk4 pq pq=0)=decide (nV (downF lk4 pq pq)=V.int 0) by
        rw [Bool.eq_iff_iff,decide_eq_true_iff,decide_eq_true_iff]
        exact ⟨fun z=>by rw [z];rfl,fun z=>by have:=V.int.inj z;omega⟩] at this
      exact this
    · rintro Hc ⟨s11,ez⟩
      have ez:=of_decide_eq_true ez.symm
      have h11:=h10.same s11
      refine ⟨_,rfl,o,dx,_,rfl,h11.ins,rfl,_,rfl,_,rfl,_,rfl,o,CS,dx,_,_,rfl,h11.ins,Z.cS,Z.nTerms,rfl,_,rfl,o,CS,dx,_,_,rfl,h11.ins,Z.cS,Z.nLeast,rfl,_,rfl,_,rfl,?_⟩
      refine ⟨A.T,A.L,A.Lr,us,ts,s4.L,pq.1,pq.2,x,x,as,bs,rfl,h11.hT,h11.tms,ta,tb,hl,(fx.sml _ _ _ ta).1,h11.hL,h11.lL,h11.rL,fun r hr => ?_,fun H12 s12 => ?_⟩
      · have hne:=(unl_mem.mp hr).1
        obtain ⟨j,_,ej⟩:=sB_L kp.si hne (tell ez _ ((fx.lp_.ndm pq hm _).mpr ⟨r,hr,rfl⟩))
        obtain ⟨r1,r2⟩:=kp.si.dom _ _ _ ej
        exact ⟨r1,r2,j,ej⟩
      · have h12:=h11.same s12
        refine ⟨o,dx,A,us,ts,aw,_,_,pq.1,pq.2,_,rfl,h12,la,lb,fun z=>absurd z (by omega),fun H13 b13 h13=>⟨_,_,rfl,((b10.same s11).same s12).trans (ButS.of b13),?_⟩⟩
        rw [nx]
        unfold likeStep
        rw [if_pos ez]
        exact h13
    · rintro Hc ⟨s11,ez⟩
      have ez:=of_decide_eq_false ez.symm
      refine ⟨_,_,rfl,b10.same s11,?_⟩
      rw [nx]
      unfold likeStep
      rw [if_neg ez]
      exact h10.same s11
  · rintro σ H' ⟨x4,x5,rfl,bt,h'⟩
    rw [Paired.length g3,List.take_length] at h'
    refine q _ _ H' (b8.trans bt) ⟨h',trn.1,fun x => ?_⟩ (by rw [trn.2,List.length_append];rfl)
    rw [trn.2]
    have kp:=(mid (aw (a,b)).length (Nat.le_refl _)).1
    rw [List.take_length] at kp
    rw [kp.st,kk.st,es1,List.length_append]
    have l0:=rd.len
    have la:=l0 a
    have lb:=l0 b
    have lx:=l0 x
    show ((popF s a b k fl hd).St x).length≤s.dn.length+1
    unfold popF
    dsimp only
    cases fl with
    | true =>
      rw [if_pos rfl]
      split
      · rw [List.length_append];exact Nat.add_le_add_right la 1
      · split
        · rw [List.length_append];exact Nat.add_le_add_right lb 1
        · omega
    | false=>rw [if_neg (by decide)];omega
end

end K21
namespace K21
open PySem L2 Sw
section
variable {P:Program} {w:World} {K:PySem.W.Frag} {mg:Str→Option Value} {base:Heap} {CS:Addr}
noncomputable def hdF (Hd:Nat→Option (Nat × Nat)):Option (Key × V)→List Int
  | some (.inl z,_)=>match Hd z.toNat with
    | some (k,b) => [(k:Int),(z.toNat:Int),(b:Int)]
    | none => []
  | _ => []
theorem hd_at {H:Hp} {n:Nat} {kvs:List (Key × V)} {f:Nat→Option (Nat × Nat)} (r:HRow H n kvs f) {i:Nat} {kv:Key × V} (h:kvs[i]? = some kv):∃ a k b p,f a=some (k,b)∧kv=((.inl (a:Int):Key),V.ref p)∧H p=some (.tup [nV k,nV a,nV b]):=by
  have hm:=List.mem_of_getElem? h
  obtain ⟨a,ea,_⟩:=r.key kv hm
  have hv:=valV_mem r.nd kv hm
  rw [ea] at hv
  cases e:f a with
  | none=>rw [r.non a e] at hv;cases hv
  | some kb =>
    obtain ⟨k,b⟩:=kb
    obtain ⟨p,h1,h2⟩:=r.som a k b e
    rw [h1] at hv
    exact ⟨a,k,b,p,e,Prod.ext ea (Option.some.inj hv).symm,h2⟩
theorem hd_F {f:Nat→Option (Nat × Nat)} {a k b:Nat} {v:V} (h:f a=some (k,b)):hdF f (some ((.inl (a:Int):Key),v)) = [(k:Int),(a:Int),(b:Int)]:=by
  show (match f (a:Int).toNat with | some (k,b) => [(k:Int),((a:Int).toNat:Int),(b:Int)] | none => [])=_
  rw [show (a:Int).toNat=a by omega,h]
inductive SpSAll (P:Program) (w:World) (CS:Addr) (vs:List V) (H:Hp) (Q:VK):Prop
  | mk (o dx:Addr) (A:SA) (us:List V) (ts:List Tm) (es:List WEd) (ls:List Nat) (lp:List (Nat × Nat)) (nd:Nat × Nat→List (Nat × Nat)) (aw:Nat × Nat→List (Nat × Nat)) (s:SS) (lk:Lack) (z0:vs = [.ref o]) (z1:Rdy P w CS o dx A us ts es ls lp nd aw H s lk) (z2:Fix ts ls lp nd aw)
    (z5:∀ s' lk' H',ButS A H H'→Rdy P w CS o dx A us ts es ls lp nd aw H' s' lk'→(∀ a,s'.Hd a=none)→Q .non H'):SpSAll P w CS vs H Q
noncomputable def spSAll (P:Program) (w:World) (CS:Addr):Sp:=fun vs H Q _=>SpSAll P w CS vs H Q
inductive SaI (P:Program) (w:World) (CS o dx:Addr) (A:SA) (us:List V) (ts:List Tm) (es:List WEd) (ls:List Nat) (lp:List (Nat × Nat)) (nd:Nat × Nat→List (Nat × Nat)) (aw:Nat × Nat→List (Nat × Nat)) (H:Hp) (m:Nat) (σ : St) (H':Hp):Prop
  | mk (s:SS) (lk:Lack) (x1:Option V):(σ = [some (.ref o),x1])→ButS A H H'→Rdy P w CS o dx A us ts es ls lp nd aw H' s lk→m=ts.length * ts.length - s.dn.length→SaI P w CS o dx A us ts es ls lp nd aw H m σ H'
theorem ok_settle_all (B:Blt mg) (Z:TopSe K mg CS) (h_settle:HasM P w K mg base 3 CS "settle" ["self", "a", "b", "length"] (spSettle P w CS))
    (D:DefM K CS "settle_all" "Search.settle_all" s_settle_all ["self"]):HasM P w K mg base 4 CS "settle_all" ["self"] (spSAll P w CS):=by
  have cS:=Z.cS
  refine D.has sc_settle_all (fun vs H Q E h => ?_) (fun f cdv A outer s H vs Q E hr h => ?_)
  · obtain ⟨o,dx,A,us,ts,es,ls,lp,nd,aw,s,lk,rfl,_⟩:=h;rfl
  obtain ⟨o,dx,A,us,ts,es,ls,lp,nd,aw,s,lk,rfl,rd,fx,q⟩:=h
  refine ⟨_,(pss_one (ps_while PassesOwn.leaving (pt_truth (pe_fld (pv 0) rfl) (fun _=>rfl))
    (pss_cons (ps_set (i:=1) sc_settle_all.nd rfl (Or.inl rfl) (pe_minVT (hu_of hr) rfl rfl B.min_ (pe_fld (pv 0) rfl)))
    (pss_one (ps_expr (pe_mE h_settle cS hr (by omega) (passE fun _ _ _ z=>z) (pv 0) (pa_cons (pe_ix ix_tup (pv 1) pe_int (fun _ _=>rfl)) (pa_cons (pe_ix ix_tup (pv 1) pe_int (fun _ _=>rfl)) (pa_cons (pe_ix ix_tup (pv 1) pe_int (fun _ _=>rfl)) pa_nil))))))))),?_⟩
  try dsimp only [cxOf]
  refine ⟨SaI P w CS o dx A us ts es ls lp nd aw H,⟨_,s,lk,none,rfl,fun c o _ e=>e,rd,rfl⟩,?_⟩
  rintro m σ H1 ⟨s1,lk1,x1,rfl,b1,r1,rfl⟩
  have h1:=r1.at_
  obtain ⟨kh,hh1,hh2⟩:=id h1.hH
  refine ⟨_,rfl,o,CS,dx,_,_,rfl,h1.ins,Z.cS,Z.nHeads,rfl,_,.inr (.inr ⟨kh,hh1,rfl⟩),?_⟩
  cases ek:kh.isEmpty with
  | true =>
    refine iteF (q _ _ _ b1 r1 fun a => ?_)
    cases e:s1.Hd a with
    | none=>rfl
    | some kb =>
      obtain ⟨k,b⟩:=kb
      obtain ⟨p,e1,_⟩:=hh2.som a k b e
      rw [List.isEmpty_iff.mp ek] at e1
      cases e1
  | false =>
    refine iteT ⟨fun σ' H'=>∃ m',m' < ts.length * ts.length - s1.dn.length∧SaI P w CS o dx A us ts es ls lp nd aw H m' σ' H',fun _ _ z=>z,?_⟩
    have hpos:0 < kh.length:=by cases kh with | nil=>cases ek | cons p r=>exact Nat.succ_pos _
    refine ⟨_,rfl,o,CS,dx,_,_,rfl,h1.ins,Z.cS,Z.nHeads,rfl,A.Hd,kh,fun i=>hdF s1.Hd kh[i]?,rfl,hh1,hpos,fun i kv hkv => ?_,fun i kv hkv hmin => ?_⟩
    · obtain ⟨a,k,b,p,e1,rfl,e3⟩:=hd_at hh2 hkv
      refine ⟨p,rfl,?_⟩
      rw [hkv,hd_F e1]
      exact e3
    · obtain ⟨a,k,b,p,e1,rfl,e3⟩:=hd_at hh2 hkv
      obtain ⟨hw,least⟩:=r1.all.least e1 fun c k' d ec=>by
        obtain ⟨pc,ec1,ec2⟩:=hh2.som c k' d ec
        obtain ⟨j,hj⟩:=val_at ec1
        have:=hmin j (List.getElem?_eq_some_iff.mp hj).1
        rw [hkv,hj,hd_F e1,hd_F ec] at this
        refine Nat.le_of_not_lt fun z => ?_
        rw [show HT.lexLt [(k':Int),(c:Int),(d:Int)] [(k:Int),(a:Int),(b:Int)]=true by rw [HT.lexLt_cons,if_neg (by omega)];exact decide_eq_true (by omega)] at this
        cases this
      dsimp only [gName]
      refine ⟨_,rfl,o,dx,_,rfl,h1.ins,rfl,_,rfl,p,_,1,_,rfl,rfl,SqT.of e3,atI_nat (j:=1) rfl,_,rfl,p,_,2,_,rfl,rfl,SqT.of e3,atI_nat (j:=2) rfl,_,rfl,p,_,0,_,rfl,rfl,SqT.of e3,atI_nat (j:=0) rfl,?_⟩
      refine ⟨o,dx,A,us,ts,es,ls,lp,nd,aw,s1,lk1,a,b,k,rfl,r1,fx,hw,least,fun s2 lk2 H2 b2 r2 e2=>⟨_,?_,s2,lk2,_,rfl,b1.trans b2,r2,rfl⟩⟩
      have:=dn_few r2.all
      omega
end

end K21
namespace K21
open PySem L2 Sw
section
variable {P:Program} {w:World} {K:PySem.W.Frag} {mg:Str→Option Value} {base:Heap} {CS:Addr}
noncomputable def addN (l:List (Nat × Nat)) (q:Nat × Nat):List (Nat × Nat):=if q∈l then l else l ++ [q]
theorem addN_mem {q:Nat × Nat}:∀ {l acc:List (Nat × Nat)},q∈l.foldl addN acc↔q∈acc∨q∈l
  | [],acc=>⟨.inl,fun z=>z.elim id fun z=>nomatch z⟩
  | r :: l,acc=>by
    rw [List.foldl_cons,addN_mem,List.mem_cons]
    have:q∈addN acc r↔q∈acc∨q=r:=by
      unfold addN
      split
      · rename_i c
        exact ⟨.inl,fun z=>z.elim id fun z=>by rw [z];exact c⟩
      · rw [List.mem_append,List.mem_singleton]
    rw [this,or_assoc]
theorem addN_nodup:∀ {l acc:List (Nat × Nat)},acc.Nodup→(l.foldl addN acc).Nodup
  | [],acc,h=>h
  | r :: l,acc,h=>by
    refine addN_nodup (l:=l) ?_
    unfold addN
    split
    · exact h
    · rename_i c
      rw [List.nodup_append]
      exact ⟨h,List.nodup_cons.mpr ⟨List.not_mem_nil,List.nodup_nil⟩,fun x hx y hy e=>c (by rw [← List.mem_singleton.mp hy, ← e];exact hx)⟩
theorem addN_len:∀ {l acc:List (Nat × Nat)},(l.foldl addN acc).length≤acc.length+l.length
  | [],acc=>Nat.le_refl _
  | r :: l,acc=>by
    have h1:=addN_len (l:=l) (acc:=addN acc r)
    have h2:(addN acc r).length≤acc.length+1:=by
      unfold addN
      split
      · omega
      · rw [List.length_append];exact Nat.le_refl _
    rw [List.foldl_cons,List.length_cons]
    omega
noncomputable def ndT (ts:List Tm) (p:Nat × Nat):List (Nat × Nat):=((unlT ts p.1 p.2).map nrm).foldl addN []
theorem ndT_mem {ts:List Tm} {p q:Nat × Nat}:q∈ndT ts p↔∃ r∈unlT ts p.1 p.2,nrm r=q:=by
  unfold ndT
  rw [addN_mem,List.mem_map]
  exact ⟨fun z=>z.elim (fun z=>nomatch z) id,.inr⟩
theorem ndT_nodup (ts:List Tm) (p:Nat × Nat):(ndT ts p).Nodup:=addN_nodup List.nodup_nil
noncomputable def kT (l:List (Nat × Nat)):List (NK × V):=l.map fun q=>(prNK q,.bl true)
theorem val_kT (q:Nat × Nat):∀ l:List (Nat × Nat),valV (kT l) (prNK q)=if q∈l then some (.bl true) else none
  | []=>rfl
  | r :: l=>by
    show valV ((prNK r,V.bl true) :: kT l) (prNK q)=_
    by_cases e:r=q
    · rw [valV_pos (by rw [e]),if_pos (by rw [e];exact List.mem_cons_self)]
    · rw [valV_neg (fun z=>e (prNK_inj z)),val_kT q l]
      by_cases h:q∈l
      · rw [if_pos h,if_pos (List.mem_cons_of_mem _ h)]
      · rw [if_neg h,if_neg (fun z=>(List.mem_cons.mp z).elim (fun z=>e z.symm) h)]
theorem put_kT (l:List (Nat × Nat)) (q:Nat × Nat):putK (kT l) (prNK q) (.bl true)=kT (addN l q):=by
  unfold addN
  by_cases h:q∈l
  · rw [if_pos h]
    unfold putK
    rw [valV_any,val_kT,if_pos h,if_pos (by rfl)]
    unfold kT
    rw [List.map_map]
    refine List.map_congr_left fun x _ => ?_
    show (if prNK x=prNK q then (prNK x,V.bl true) else (prNK x,V.bl true))=_
    split <;> rfl
  · rw [if_neg h,putK_new _ (by rw [val_kT,if_neg h])]
    unfold kT
    rw [List.map_append];rfl
structure AwK (P:Program) (w:World) (H0 H:Hp) (A:SA) (n:Nat) (aw:Nat × Nat→List (Nat × Nat)) (kvs:List (NK × V)):Prop where
  dn:DN P w H A.Aw kvs
  key:∀ kv∈kvs,∃ p:Nat × Nat,kv.1=prNK p∧p.1 < n∧p.2 < n
  val:∀ q,(aw q = []∧valV kvs (prNK q)=none)∨∃ c vs,valV kvs (prNK q)=some (.ref c)∧H c=some (.lst vs)∧PairsAt H vs (aw q)∧H0 c=none
  inj:∀ q q' c,valV kvs (prNK q)=some (.ref c)→valV kvs (prNK q')=some (.ref c)→q=q'
structure AwX (P:Program) (w:World) (H0:Hp) (A:SA) (n:Nat) (aw:Nat × Nat→List (Nat × Nat)) (lk:Nat × Nat→Option Nat) (H:Hp):Prop where
  fr:∀ c u,c≠A.Aw→c≠A.Lk→H0 c=some u→H c=some u
  aw_:∃ kvs,AwK P w H0 H A n aw kvs
  lk_:∃ kvs,PD P w H A.Lk n kvs fun p=>(lk p).map nV
section
variable {H0 H H':Hp} {o dx:Addr} {A:SA} {n:Nat} {us:List V} {ts:List Tm} {aw aw0:Nat × Nat→List (Nat × Nat)} {s:SS} {lk lk0:Nat × Nat→Option Nat} {kvs:List (NK × V)}
theorem AwK.same (h:AwK P w H0 H A n aw kvs) (sm:Same H H'):AwK P w H0 H' A n aw kvs :=
  ⟨h.dn.same sm,h.key,fun q=>(h.val q).imp id fun ⟨c,vs,h1,h2,h3,h4⟩=>⟨c,vs,h1,sm _ _ h2,pairs_keep h3 (fun c ys e=>sm _ _ e),h4⟩,h.inj⟩
theorem AwX.same (h:AwX P w H0 A n aw lk H) (sm:Same H H'):AwX P w H0 A n aw lk H':=by
  obtain ⟨k1,h1⟩:=h.aw_
  obtain ⟨k2,h2⟩:=h.lk_
  exact ⟨fun c u n1 n2 e=>sm _ _ (h.fr c u n1 n2 e),⟨k1,h1.same sm⟩,k2,h2.dn.same sm,h2.val,h2.key⟩
theorem AwX.new (h:AwX P w H0 A n aw lk H) {x:Addr} (hx:H x=none):H0 x=none∧x≠A.Aw∧x≠A.Lk:=by
  obtain ⟨k1,h1⟩:=h.aw_
  obtain ⟨k2,h2⟩:=h.lk_
  obtain ⟨φ,e1⟩:=h1.dn.ext
  obtain ⟨ψ,e2⟩:=h2.dn.ext
  have n1:x≠A.Aw:=fun z=>by rw [z,e1] at hx;cases hx
  have n2:x≠A.Lk:=fun z=>by rw [z,e2] at hx;cases hx
  refine ⟨?_,n1,n2⟩
  cases e:H0 x with
  | none=>rfl
  | some u=>rw [h.fr x u n1 n2 e] at hx;cases hx
theorem AwX.but (h:AwX P w H0 A n aw lk H) {x:Addr} {φ : Heap→Prop} (hx:H x=some (.ext φ)) (h0:H0 x=none) (n1:x≠A.Aw) (n2:x≠A.Lk) (bt:But x H H'):AwX P w H0 A n aw lk H':=by
  obtain ⟨k1,h1⟩:=h.aw_
  obtain ⟨k2,h2⟩:=h.lk_
  have nt:∀ c ys,H c=some (.tup ys)→c≠x:=fun c ys e=>ne_of e hx (fun z=>nomatch z)
  refine ⟨fun c u m1 m2 e=>bt _ _ (fun z=>by rw [z,h0] at e;cases e) (h.fr c u m1 m2 e),⟨k1,?_⟩,k2,h2.but bt (Ne.symm n2) nt⟩
  refine ⟨h1.dn.keep (fun φ e=>bt _ _ (Ne.symm n1) e) (fun c ys e=>bt _ _ (nt c ys e) e),h1.key,fun q=>(h1.val q).imp id fun ⟨c,vs,g1,g2,g3,g4⟩=>⟨c,vs,g1,bt _ _ (ne_of g2 hx (fun z=>nomatch z)) g2,pairs_keep g3 (fun c ys e=>bt _ _ (nt c ys e) e),g4⟩,h1.inj⟩
theorem AwX.se (h0:SeAt P w CS o dx A us ts aw0 H0 s lk0) (h:AwX P w H0 A ts.length aw lk H):SeAt P w CS o dx A us ts aw H s lk:=by
  obtain ⟨ka,a1⟩:=h.aw_
  have xa:∃ φ,H0 A.Aw=some (.ext φ):=by obtain ⟨kvs,d,_⟩:=h0.aw_;exact d.ext
  have xl:∃ φ,H0 A.Lk=some (.ext φ):=by obtain ⟨kvs,d⟩:=h0.lk_;exact d.dn.ext
  obtain ⟨φ,xa⟩:=xa
  obtain ⟨ψ,xl⟩:=xl
  have kp:∀ c u,(∀ φ,u ≠ .ext φ)→H0 c=some u→H c=some u:=fun c u n e=>h.fr c u (ne_of e xa (n _)) (ne_of e xl (n _)) e
  have kt:∀ c ys,H0 c=some (.tup ys)→H c=some (.tup ys):=fun c ys e=>kp c _ (fun _ z=>nomatch z) e
  obtain ⟨kh,hh1,hh2⟩:=h0.hH
  obtain ⟨kg,g1⟩:=h0.sg
  refine ⟨kp _ _ (fun _ z=>nomatch z) h0.ins,kp _ _ (fun _ z=>nomatch z) h0.hT,tms_keep kt h0.tms,kp _ _ (fun _ z=>nomatch z) h0.hL,h0.lL,fun a c e=>kp _ _ (fun _ z=>nomatch z) (h0.rL a c e),kp _ _ (fun _ z=>nomatch z) h0.hW,h0.lW,fun a c e => ?_,⟨kh,kp _ _ (fun _ z=>nomatch z) hh1,hh2.but kt⟩,⟨kg,g1.dn.keep (fun φ e=>h.fr _ _ h0.sep.e1 h0.sep.e2 e) kt,g1.val,g1.key⟩,kp _ _ (fun _ z=>nomatch z) h0.hS,h0.lS,fun a c e => ?_,⟨ka,a1.dn,a1.key,fun q=>(a1.val q).imp id fun ⟨c,vs,z1,z2,z3,z4⟩=>⟨c,vs,z1,z2,z3,fun z => ?_,fun z => ?_⟩⟩,h.lk_,h0.sep,h0.few⟩
  · obtain ⟨kvs,e1,e2⟩:=h0.rW a c e
    exact ⟨kvs,kp _ _ (fun _ z=>nomatch z) e1,e2⟩
  · obtain ⟨vs,e1,e2⟩:=h0.rS a c e
    exact ⟨vs,kp _ _ (fun _ z=>nomatch z) e1,pairs_keep e2 kt⟩
  · obtain ⟨i,hi⟩:=List.getElem?_of_mem z
    rw [h0.rL i c hi] at z4;cases z4
  · obtain ⟨i,hi⟩:=List.getElem?_of_mem z
    obtain ⟨vs,e1,_⟩:=h0.rS i c hi
    rw [e1] at z4;cases z4
noncomputable def awPut (aw:Nat × Nat→List (Nat × Nat)) (q p:Nat × Nat):Nat × Nat→List (Nat × Nat):=fun r=>if r=q then aw q ++ [p] else aw r
theorem AwX.app (h:AwX P w H0 A n aw lk H) (a1:AwK P w H0 H A n aw kvs) {q p:Nat × Nat} {c:Addr} (hc:valV kvs (prNK q)=some (.ref c)) {b:Addr} (hb:H b=some (.tup [nV p.1,nV p.2])) :
    ∃ vs,H c=some (.lst vs)∧vs.length=(aw q).length∧AwX P w H0 A n (awPut aw q p) lk (upd H c (.lst (vs ++ [.ref b]))):=by
  rcases a1.val q with ⟨_,z⟩ | ⟨c',vs,g1,g2,g3,g4⟩
  · rw [hc] at z;cases z
  rw [hc] at g1
  cases g1
  refine ⟨vs,g2,Paired.length g3,?_⟩
  obtain ⟨k2,h2⟩:=h.lk_
  have bt:But c H (upd H c (.lst (vs ++ [.ref b]))):=fun b o n e=>by rw [upd_ne n];exact e
  have nt:∀ d ys,H d=some (.tup ys)→d≠c:=fun d ys e=>ne_of e g2 (fun z=>nomatch z)
  have kt:∀ d ys,H d=some (.tup ys)→(upd H c (.lst (vs ++ [.ref b]))) d=some (.tup ys):=fun d ys e=>bt _ _ (nt d ys e) e
  obtain ⟨φ,e1⟩:=a1.dn.ext
  obtain ⟨ψ,e2⟩:=h2.dn.ext
  refine ⟨fun d u m1 m2 e=>bt _ _ (fun z=>by rw [z,g4] at e;cases e) (h.fr d u m1 m2 e),⟨kvs,?_⟩,k2,h2.but bt (ne_of e2 g2 (fun z=>nomatch z)) nt⟩
  refine ⟨a1.dn.keep (fun φ e=>bt _ _ (ne_of e1 g2 (fun z=>nomatch z)) e) kt,a1.key,fun r => ?_,a1.inj⟩
  by_cases er:r=q
  · subst er
    refine .inr ⟨c,_,hc,upd_same,?_,g4⟩
    unfold awPut
    rw [if_pos rfl]
    exact paired_app (pairs_keep g3 kt) (.cons ⟨b,rfl,kt _ _ hb⟩ .nil)
  · have ea:awPut aw q p r=aw r:=if_neg er
    rw [ea]
    refine (a1.val r).imp id fun ⟨d,ws,z1,z2,z3,z4⟩=>⟨d,ws,z1,bt _ _ (fun z=>er (a1.inj r q c (by rw [z1,z]) hc)) z2,pairs_keep z3 kt,z4⟩
theorem AwX.fresh (h:AwX P w H0 A n aw lk H) (a1:AwK P w H0 H A n aw kvs) {q:Nat × Nat} (hq:q.1 < n∧q.2 < n) (hn:valV kvs (prNK q)=none) {c:Addr} (hc:H c=some (.lst [])) (hc0:H0 c=none) (nu:∀ r,valV kvs (prNK r)≠some (.ref c)) {φ : Heap→Prop} (d:DN P w (upd H A.Aw (.ext φ)) A.Aw (kvs ++ [(prNK q,.ref c)])) (e3:A.Aw≠A.Lk) :
    AwX P w H0 A n aw lk (upd H A.Aw (.ext φ))∧AwK P w H0 (upd H A.Aw (.ext φ)) A n aw (kvs ++ [(prNK q,.ref c)]):=by
  obtain ⟨k2,h2⟩:=h.lk_
  obtain ⟨ψ,e1⟩:=a1.dn.ext
  have bt:But A.Aw H (upd H A.Aw (.ext φ)):=fun b o n e=>by rw [upd_ne n];exact e
  have nt:∀ d ys,H d=some (.tup ys)→d≠A.Aw:=fun d ys e=>ne_of e e1 (fun z=>nomatch z)
  have kt:∀ d ys,H d=some (.tup ys)→(upd H A.Aw (.ext φ)) d=some (.tup ys):=fun d ys e=>bt _ _ (nt d ys e) e
  have put:∀ r,valV (kvs ++ [(prNK q,.ref c)]) (prNK r)=if r=q then some (.ref c) else valV kvs (prNK r):=fun r=>by
    rw [← putK_new (.ref c) hn,valV_put]
    by_cases e:r=q
    · rw [if_pos (by rw [e]),if_pos e]
    · rw [if_neg (fun z=>e (prNK_inj z)),if_neg e]
  have k:AwK P w H0 (upd H A.Aw (.ext φ)) A n aw (kvs ++ [(prNK q,.ref c)]):=by
    refine ⟨d,fun kv hkv => ?_,fun r => ?_,fun r r' c' z1 z2 => ?_⟩
    · rcases List.mem_append.mp hkv with z | z
      · exact a1.key kv z
      · rw [List.mem_singleton.mp z];exact ⟨q,rfl,hq⟩
    · rw [put]
      by_cases er:r=q
      · rw [if_pos er]
        rcases a1.val r with ⟨z,_⟩ | ⟨d,vs,z,_⟩
        · exact .inr ⟨c, [],rfl,bt _ _ (ne_of hc e1 (fun z=>nomatch z)) hc,by rw [z];exact .nil,hc0⟩
        · rw [er,hn] at z;cases z
      · rw [if_neg er]
        refine (a1.val r).imp id fun ⟨d,ws,z1,z2,z3,z4⟩=>⟨d,ws,z1,bt _ _ (ne_of z2 e1 (fun z=>nomatch z)) z2,pairs_keep z3 kt,z4⟩
    · rw [put] at z1 z2
      by_cases er:r=q
      · rw [if_pos er] at z1
        cases z1
        by_cases er':r'=q
        · rw [er,er']
        · rw [if_neg er'] at z2;exact absurd z2 (nu r')
      · rw [if_neg er] at z1
        by_cases er':r'=q
        · rw [if_pos er'] at z2
          cases z2
          exact absurd z1 (nu r)
        · rw [if_neg er'] at z2
          exact a1.inj r r' c' z1 z2
  exact ⟨⟨fun c u m1 m2 e=>bt _ _ m1 (h.fr c u m1 m2 e),⟨_,k⟩,k2,h2.but bt (Ne.symm e3) nt⟩,k⟩
end
end

end K21
namespace K21
open PySem L2 Sw
section
variable {P:Program} {w:World} {K:PySem.W.Frag} {mg:Str→Option Value} {base:Heap} {CS:Addr}
theorem AwX.lkPut {H0 H:Hp} {A:SA} {n:Nat} {aw:Nat × Nat→List (Nat × Nat)} {lk:Nat × Nat→Option Nat} {kl:List (NK × V)} (h:AwX P w H0 A n aw lk H) (h2:PD P w H A.Lk n kl fun p=>(lk p).map nV) {q:Nat × Nat} {m:Nat} (hq:q.1 < n∧q.2 < n) (e3:A.Aw≠A.Lk) {φ : Heap→Prop} (d:DN P w (upd H A.Lk (.ext φ)) A.Lk (putK kl (prNK q) (nV m))):AwX P w H0 A n aw (fun p=>if p=q then some m else lk p) (upd H A.Lk (.ext φ)):=by
  obtain ⟨ψ,e2⟩:=h2.dn.ext
  obtain ⟨k1,a1⟩:=h.aw_
  have bt:But A.Lk H (upd H A.Lk (.ext φ)):=fun b o n e=>by rw [upd_ne n];exact e
  have nt:∀ d ys,H d=some (.tup ys)→d≠A.Lk:=fun d ys e=>ne_of e e2 (fun z=>nomatch z)
  have kt:∀ d ys,H d=some (.tup ys)→(upd H A.Lk (.ext φ)) d=some (.tup ys):=fun d ys e=>bt _ _ (nt d ys e) e
  refine ⟨fun c u m1 m2 e=>bt _ _ m2 (h.fr c u m1 m2 e),⟨k1,a1.dn.keep (fun φ e=>bt _ _ e3 e) kt,a1.key,fun r=>(a1.val r).imp id fun ⟨c,ws,z1,z2,z3,z4⟩=>⟨c,ws,z1,bt _ _ (ne_of z2 e2 (fun z=>nomatch z)) z2,pairs_keep z3 kt,z4⟩,a1.inj⟩,putK kl (prNK q) (nV m),?_⟩
  have:=h2.put hq d
  refine ⟨this.dn,fun p => ?_,this.key⟩
  rw [this.val]
  show _=Option.map nV (if p=q then some m else lk p)
  split <;> rfl
noncomputable def awAll (aw:Nat × Nat→List (Nat × Nat)) (l:List (Nat × Nat)) (p:Nat × Nat):Nat × Nat→List (Nat × Nat):=fun q=>if q∈l then aw q ++ [p] else aw q
theorem aw_snoc {aw:Nat × Nat→List (Nat × Nat)} {l:List (Nat × Nat)} {p q:Nat × Nat} {i:Nat} (hn:l.Nodup) (h:l[i]? = some q):awPut (awAll aw (l.take i) p) q p=awAll aw (l.take (i+1)) p:=by
  have nq:q ∉ l.take i:=fun z=>by
    obtain ⟨j,hj⟩:=List.getElem?_of_mem z
    rw [List.getElem?_take] at hj
    split at hj
    · rename_i c
      have:=(List.getElem?_inj (List.getElem?_eq_some_iff.mp hj).1 hn).mp (hj.trans h.symm)
      omega
    · cases hj
  funext r
  unfold awPut awAll
  rw [take_snocP h]
  by_cases er:r=q
  · subst er
    rw [if_pos rfl,if_neg nq,if_pos (List.mem_append.mpr (.inr (List.mem_singleton_self _)))]
  · rw [if_neg er]
    by_cases hr:r∈l.take i
    · rw [if_pos hr,if_pos (List.mem_append.mpr (.inl hr))]
    · rw [if_neg hr,if_neg (fun z=>(List.mem_append.mp z).elim hr fun z=>er (List.mem_singleton.mp z))]
inductive SpAwait (P:Program) (w:World) (CS:Addr) (vs:List V) (H:Hp) (Q:VK):Prop
  | mk (o dx:Addr) (A:SA) (us:List V) (ts:List Tm) (aw0 aw:Nat × Nat→List (Nat × Nat)) (s:SS) (lk0 lk:Nat × Nat→Option Nat) (H0:Hp) (a b:Nat) (x y:Str) (as bs:List Nat) (z0:vs = [.ref o,nV a,nV b]) (z1:SeAt P w CS o dx A us ts aw0 H0 s lk0) (z2:AwX P w H0 A ts.length aw lk H)
    (z3:ts[a]? = some (.of x as)) (z4:ts[b]? = some (.of y bs)) (z5:as.length=bs.length) (z6:as.length≤1000) (z7:∀ r∈unlT ts a b,r.1 < ts.length∧r.2 < ts.length) (z8:∀ q,(aw q).length≤900)
    (z9:∀ H',AwX P w H0 A ts.length (awAll aw (ndT ts (a,b)) (a,b)) (fun p=>if p=(a,b) then some (ndT ts (a,b)).length else lk p) H'→Q .non H'):SpAwait P w CS vs H Q
noncomputable def spAwait (P:Program) (w:World) (CS:Addr):Sp:=fun vs H Q _=>SpAwait P w CS vs H Q
inductive AaI (P:Program) (w:World) (N:Addr) (H:Hp) (τ : St) (l:List (Nat × Nat)) (i:Nat) (σ : St) (H':Hp):Prop
  | mk (x4 x5:Option V):(σ = τ ++ [x4,x5,none])→But N H H'→DN P w H' N (kT ((l.take i).foldl addN []))→AaI P w N H τ l i σ H'
inductive AbI (P:Program) (w:World) (N:Addr) (ob:Obj) (H0:Hp) (A:SA) (n:Nat) (aw:Nat × Nat→List (Nat × Nat)) (lk:Nat × Nat→Option Nat) (τ : St) (l:List (Nat × Nat)) (p:Nat × Nat) (i:Nat) (σ : St) (H':Hp):Prop
  | mk (x6:Option V):(σ = τ ++ [x6])→AwX P w H0 A n (awAll aw (l.take i) p) lk H'→DNo P w H' N ob (kT l)→AbI P w N ob H0 A n aw lk τ l p i σ H'
theorem ok_await_arms (B:Blt mg) (Z:TopSe K mg CS) (h_unlike_arms:Has P w K mg base 1 "unlike_arms" ["terms", "a", "b"] spUnl) (D:DefM K CS "await_arms" "Search.await_arms" s_await_arms ["self", "a", "b"]):HasM P w K mg base 2 CS "await_arms" ["self", "a", "b"] (spAwait P w CS):=by
  have cS:=Z.cS
  refine D.has sc_await_arms (fun vs H Q E h => ?_) (fun f cdv A outer s H vs Q E hr h => ?_)
  · obtain ⟨o,dx,A,us,ts,aw0,aw,s,lk0,lk,H0,a,b,x,y,as,bs,rfl,_⟩:=h;rfl
  obtain ⟨o,dx,A,us,ts,aw0,aw,s,lk0,lk,H0,a,b,x,y,as,bs,rfl,h0,hx,ta,tb,hl,h1000,hin,hfew,q⟩:=h
  refine ⟨_,(pss_cons (ps_set (i:=3) sc_await_arms.nd rfl (Or.inl rfl) pe_dnewN)
    (pss_cons (ps_for PassesOwn.leaving rfl (pi_list (pe_callH h_unlike_arms hr (by omega) rfl (pa_cons (pe_fld (pv 0) rfl) (pa_cons (pv 1) (pa_cons (pv 2) pa_nil))))) (pg_tup rfl (pgs_cons (pg_name (i:=4) sc_await_arms.nd rfl (Or.inl rfl)) (pgs_cons (pg_name (i:=5) sc_await_arms.nd rfl (Or.inl rfl)) pgs_nil)))
    (pss_one (ps_nput (un10 hr) (pv 3) (pe_tup (pa_cons (pe_callB (call_min2 rfl) rfl B.min_ boot_min_ (pa_cons (pv 4) (pa_cons (pv 5) pa_nil))) (pa_cons (pe_callB (call_max2 rfl) rfl B.max_ boot_max_ (pa_cons (pv 4) (pa_cons (pv 5) pa_nil))) pa_nil))) pe_bl rfl)))
    (pss_cons (ps_nput (un10 hr) (pe_fld (pv 0) rfl) (pe_tup (pa_cons (pv 1) (pa_cons (pv 2) pa_nil))) (pe_callB call_lenN rfl B.len_ PySem.boot_len (pa_cons (pv 3) pa_nil)) rfl)
    (pss_one (ps_for PassesOwn.leaving rfl (pi_keysN (pv 3)) (pg_name (i:=6) sc_await_arms.nd rfl (Or.inl rfl))
    (pss_one (ps_expr (pe_bm PySem.F.plainAttrs_list PySem.F.slot_list_append PySem.F.type_list_append mt_append (pe_setD (un10 hr) (pe_fld (pv 0) rfl) (pv 6) (pe_lst pa_nil) ⟨rfl,rfl,rfl,rfl⟩) (pa_cons (pe_tup (pa_cons (pv 1) (pa_cons (pv 2) pa_nil))) pa_nil))))))))),?_⟩
  try dsimp only [cxOf]
  have la:=(List.getElem?_eq_some_iff.mp ta).1
  have lb:=(List.getElem?_eq_some_iff.mp tb).1
  intro N φ hN dN
  dsimp only [gName]
  obtain ⟨hN0,nAw,nLk⟩:=hx.new hN
  have hx1:=hx.same (same_new hN (.ext φ))
  generalize upd H N (.ext φ)=H1 at dN hx1 ⊢
  have se1:=hx1.se h0
  refine ⟨_,rfl,o,CS,dx,_,_,rfl,se1.ins,Z.cS,Z.nTerms,rfl,_,rfl,_,rfl,A.T,us,ts,a,b,x,y,as,bs,rfl,se1.hT,se1.tms,ta,tb,hl,h1000,fun D1 vs1 H2 s2 hD0 hD1 hp1 => ?_⟩
  have hx2:=hx1.same s2
  have dN2:=dN.same s2
  obtain ⟨φ2,eN2⟩:=dN2.ext
  have nD1:D1≠N:=ne_of hD1 eN2 (fun z=>nomatch z)
  have ulen:(unlT ts a b).length≤1000:=by
    have eu:unlT ts a b=unlF as bs:=by unfold unlT;rw [ta,tb];rfl
    rw [eu]
    unfold unlF
    refine Nat.le_trans (List.length_filter_le ..) ?_
    rw [List.length_zip]
    omega
  refine ⟨D1,rfl,⟨_,SqL.of hD1⟩,?_⟩
  refine for_list (xs:=vs1) (AaI P w N H2 [some (.ref o),some (nV a),some (nV b),some (.ref N)] ((unlT ts a b).map nrm)) ⟨none,none,rfl,fun c u n e=>e,dN2⟩ ?_ ?_ ?_
  · rintro i σ H' _ ⟨x4,x5,rfl,bt,_⟩
    exact SqL.of (bt _ _ nD1 hD1)
  · rintro i v σ H' hv ⟨x4,x5,rfl,bt,dn⟩
    obtain ⟨⟨u,t⟩,hut,p,rfl,hp⟩:=Paired.at hp1 hv
    have hp':=bt _ _ (ne_of hp eN2 (fun z=>nomatch z)) hp
    have hnr:((unlT ts a b).map nrm)[i]? = some (min u t,max u t):=by rw [List.getElem?_map,hut];rfl
    have hi:=(List.getElem?_eq_some_iff.mp hut).1
    refine ⟨p,_,rfl,SqT.of hp',rfl,_,_,rfl,_,_,rfl,rfl,?_⟩
    dsimp only
    refine ⟨_,rfl,_,rfl,_,rfl,_,_,rfl,_,rfl,_,rfl,_,_,rfl,(show 2≤sizeLine by decide),fun p3 hp3 => ?_⟩
    rw [min_nV,max_nV] at *
    have s3:=same_new hp3 (.tup [nV (min u t),nV (max u t)])
    have hp3':=upd_same (H:=H') (a:=p3) (o := .tup [nV (min u t),nV (max u t)])
    generalize upd H' p3 (.tup [nV (min u t),nV (max u t)])=H3 at s3 hp3' ⊢
    have few:=addN_len (l:=((unlT ts a b).map nrm).take i) (acc := [])
    refine ⟨N,p3,_,prNK (min u t,max u t),rfl,rfl,dn.same s3,pr_key hp3',small1000 (by
      unfold kT
      rw [List.length_map]
      rw [List.length_take,List.length_map,List.length_nil] at few
      omega),fun φ d=>⟨_,_,rfl,fun c u n e=>by rw [upd_ne n];exact s3 _ _ (bt c u n e),?_⟩⟩
    rw [put_kT] at d
    rw [take_snocP hnr,List.foldl_append]
    exact d
  · rintro σ H3 ⟨x4,x5,rfl,bt,dn⟩
    have lv:vs1.length=((unlT ts a b).map nrm).length:=by rw [List.length_map];exact Paired.length hp1
    rw [lv,List.take_length] at dn
    have dn:DN P w H3 N (kT (ndT ts (a,b))):=dn
    have hx3:=hx2.but eN2 hN0 nAw nLk bt
    dsimp only [List.append,List.cons_append,List.nil_append]
    have se3:=hx3.se h0
    -- how many it lacks
    refine ⟨_,rfl,N,_,rfl,dn,_,rfl,o,CS,dx,_,_,rfl,se3.ins,Z.cS,Z.nLacking,rfl,_,rfl,_,rfl,(show 2≤sizeLine by decide),fun p4 hp4 => ?_⟩
    have s4:=same_new hp4 (.tup [nV a,nV b])
    have hp4':=upd_same (H:=H3) (a:=p4) (o := .tup [nV a,nV b])
    generalize upd H3 p4 (.tup [nV a,nV b])=H4 at s4 hp4' ⊢
    have hx4:=hx3.same s4
    obtain ⟨kl,l4⟩:=id hx4.lk_
    refine ⟨A.Lk,p4,kl,prNK (a,b),rfl,rfl,l4.dn,pr_key hp4',small1000 (by have:=l4.few h0.few;omega),fun φ5 d5 => ?_⟩
    rw [show V.int ((kT (ndT ts (a,b))).length:Int)=nV (ndT ts (a,b)).length by unfold kT;rw [List.length_map]] at d5
    have hx5:=hx4.lkPut l4 ⟨la,lb⟩ h0.sep.e3 d5
    have dn5:DN P w (upd H4 A.Lk (.ext φ5)) N (kT (ndT ts (a,b))):=(dn.same s4).keep (fun φ e=>by rw [upd_ne nLk];exact e) (fun c ys e=>by rw [upd_ne (by obtain ⟨ψ,e2⟩:=l4.dn.ext;exact ne_of e e2 (fun z=>nomatch z))];exact e)
    generalize upd H4 A.Lk (.ext φ5)=H5 at hx5 dn5 ⊢
    -- and it waits
    refine ⟨_,rfl,N,_,rfl,dn5,fun ob dno => ?_⟩
    have klen:(kT (ndT ts (a,b))).length=(ndT ts (a,b)).length:=by unfold kT;rw [List.length_map]
    refine for_keysN (AbI P w N ob H0 A ts.length aw (fun p=>if p=(a,b) then some (ndT ts (a,b)).length else lk p) [some (.ref o),some (nV a),some (nV b),some (.ref N),x4,x5] (ndT ts (a,b)) (a,b)) ⟨none,rfl,?_,dno⟩ ?_ ?_ ?_
    · have:awAll aw ((ndT ts (a,b)).take 0) (a,b)=aw:=funext fun r=>if_neg (by rw [List.take_zero];exact List.not_mem_nil)
      rw [this];exact hx5
    · rintro i σ H' _ ⟨x6,rfl,_,d⟩
      exact d
    · rintro i kv bk σ H' hkv nk ⟨x6,rfl,hx',dno'⟩
      have hq:∃ e,(ndT ts (a,b))[i]? = some e∧kv=(prNK e,.bl true):=by
        unfold kT at hkv
        rw [List.getElem?_map] at hkv
        obtain ⟨e,h1,h2⟩:=Option.map_eq_some_iff.mp hkv
        exact ⟨e,h1,h2.symm⟩
      obtain ⟨e,he,rfl⟩:=hq
      have nx:=aw_snoc (aw:=aw) (p:=(a,b)) (ndT_nodup ts (a,b)) he
      have hem:=List.mem_of_getElem? he
      obtain ⟨r,hr,er⟩:=ndT_mem.mp hem
      obtain ⟨r1,r2⟩:=hin r hr
      have hein:e.1 < ts.length∧e.2 < ts.length:=by
        rw [← er]
        exact ⟨(show min r.1 r.2 < _ by omega),(show max r.1 r.2 < _ by omega)⟩
      have se':=hx'.se h0
      obtain ⟨ka,a1⟩:=id hx'.aw_
      dsimp only [gName]
      refine ⟨_,rfl,o,CS,dx,_,_,rfl,se'.ins,Z.cS,Z.nAwaited,rfl,A.Aw,rfl,⟨_,a1.dn⟩,_,rfl,(show 0≤sizeLine by decide),fun c hc => ?_⟩
      have s6:=same_new hc (.lst [])
      have hc6:=upd_same (H:=H') (a:=c) (o := .lst [])
      obtain ⟨hc0,ncA,_⟩:=hx'.new hc
      have nuse:∀ r,valV ka (prNK r)≠some (.ref c):=fun r z=>by
        rcases a1.val r with ⟨_,z'⟩ | ⟨c',vs,z1,z2,_⟩
        · rw [z] at z';cases z'
        · rw [z] at z1;cases z1;rw [hc] at z2;cases z2
      generalize upd H' c (.lst [])=H6 at s6 hc6 ⊢
      have hx6:=hx'.same s6
      have a6:=a1.same s6
      have nk6:NKey H6 (prNK e) bk:=nk.keep fun d ys z=>s6 _ _ z
      have d6:=dno'.same s6
      -- the end,whether the list is old or new
      have fin:∀ H7 (kv7:List (NK × V)) (cl:Addr),AwX P w H0 A ts.length (awAll aw ((ndT ts (a,b)).take i) (a,b)) (fun p=>if p=(a,b) then some (ndT ts (a,b)).length else lk p) H7→AwK P w H0 H7 A ts.length (awAll aw ((ndT ts (a,b)).take i) (a,b)) kv7→DNo P w H7 N ob (kT (ndT ts (a,b)))→valV kv7 (prNK e)=some (.ref cl) →
          (∃ vs,H7 cl=some (.lst vs))∧∀ p8,H7 p8=none→∃ vs,(upd H7 p8 (.tup [nV a,nV b])) cl=some (.lst vs)∧vs.length < sizeLine∧AbI P w N ob H0 A ts.length aw (fun p=>if p=(a,b) then some (ndT ts (a,b)).length else lk p) [some (.ref o),some (nV a),some (nV b),some (.ref N),x4,x5] (ndT ts (a,b)) (a,b) (i+1) [some (.ref o),some (nV a),some (nV b),some (.ref N),x4,x5,some (.ref bk)] (upd (upd H7 p8 (.tup [nV a,nV b])) cl (.lst (vs ++ [.ref p8]))):=by
        intro H7 kv7 cl x7 a7 d7 hv7
        refine ⟨?_,fun p8 hp8 => ?_⟩
        · rcases a7.val e with ⟨_,z⟩ | ⟨c',vs,z1,z2,_⟩
          · rw [hv7] at z;cases z
          · rw [hv7] at z1;cases z1;exact ⟨vs,z2⟩
        have s8:=same_new hp8 (.tup [nV a,nV b])
        have hp8':=upd_same (H:=H7) (a:=p8) (o := .tup [nV a,nV b])
        generalize upd H7 p8 (.tup [nV a,nV b])=H8 at s8 hp8' ⊢
        obtain ⟨vs,g1,g2,g3⟩:=(x7.same s8).app (p:=(a,b)) (a7.same s8) hv7 hp8'
        refine ⟨vs,g1,small1000 ?_,_,rfl,?_,?_⟩
        · rw [g2]
          have:=hfew e
          unfold awAll
          split
          · rw [List.length_append]
            show (aw e).length+1≤1000
            omega
          · omega
        · rw [← nx];exact g3
        · obtain ⟨_,_,_,eN,_⟩:=id (d7.same s8)
          exact (d7.same s8).keep (fun z=>by rw [upd_ne (ne_of eN g1 (fun z=>nomatch z))];exact z) (fun c ys z=>by rw [upd_ne (ne_of z g1 (fun z=>nomatch z))];exact z)
      have klen':ka.length≤900:=Nat.le_trans (pairs_few (dn_nodup a6.dn) a6.key) (Nat.mul_le_mul h0.few h0.few)
      refine ⟨ka,prNK e,bk,a6.dn,rfl,nk6,small1000 (by omega),fun v hv => ?_,fun hn φ d => ?_⟩
      · obtain ⟨cl,rfl⟩:∃ cl,v = .ref cl:=by
          rcases a6.val e with ⟨_,z⟩ | ⟨c',vs,z1,_⟩
          · rw [hv] at z;cases z
          · rw [hv] at z1;cases z1;exact ⟨_,rfl⟩
        obtain ⟨⟨v0,f0⟩,f1⟩:=fin H6 ka cl hx6 a6 d6 hv
        refine ⟨.inl ⟨rfl,_,SqL.of f0⟩,_,rfl,_,rfl,(show 2≤sizeLine by decide),fun p8 hp8 => ?_⟩
        obtain ⟨vs,f2,f3,f4⟩:=f1 p8 hp8
        exact ⟨cl,_,_,rfl,rfl,f2,f3,f4⟩
      · obtain ⟨x7,a7⟩:=hx6.fresh a6 hein hn hc6 hc0 nuse d h0.sep.e3
        have hv7:valV (ka ++ [(prNK e,V.ref c)]) (prNK e)=some (.ref c):=by rw [← putK_new (.ref c) hn,valV_put,if_pos rfl]
        have d7:DNo P w (upd H6 A.Aw (.ext φ)) N ob (kT (ndT ts (a,b))):=d6.keep (fun z=>by rw [upd_ne nAw];exact z) (fun c ys z=>by rw [upd_ne (by obtain ⟨ψ,e2⟩:=a6.dn.ext;exact ne_of z e2 (fun z=>nomatch z))];exact z)
        obtain ⟨⟨v0,f0⟩,f1⟩:=fin _ _ c x7 a7 d7 hv7
        refine ⟨.inl ⟨rfl,_,SqL.of f0⟩,_,rfl,_,rfl,(show 2≤sizeLine by decide),fun p8 hp8 => ?_⟩
        obtain ⟨vs,f2,f3,f4⟩:=f1 p8 hp8
        exact ⟨c,_,_,rfl,rfl,f2,f3,f4⟩
    · rintro σ H' ⟨x6,rfl,hx',_⟩
      rw [klen,List.take_length] at hx'
      exact q H' hx'
end

end K21
namespace K21
open PySem L2 Sw
section
variable {P:Program} {w:World} {K:PySem.W.Frag} {mg:Str→Option Value} {base:Heap} {CS:Addr}
theorem rep_flat (v:V):∀ n:Nat,(List.replicate n [v]).flatten=List.replicate n v
  | 0=>rfl
  | n+1=>by rw [List.replicate_succ,List.flatten_cons,rep_flat v n,List.replicate_succ];rfl
noncomputable def diagM (i:Nat):Mx:=fun a b=>if a=b∧a < i then some 0 else none
theorem row_zero (n a:Nat):rowV (diagM 0) n a=List.replicate n V.non:=by
  unfold rowV
  have:(fun b=>opV (diagM 0 a b))=fun _=>V.non:=funext fun b=>by
    unfold diagM
    rw [if_neg (fun z=>Nat.not_lt_zero _ z.2)];rfl
  rw [this,List.map_const',List.length_range]
theorem diag_succ (i:Nat):diagM (i+1)=setM (diagM i) i i 0:=by
  funext a b
  unfold setM diagM
  by_cases e:a=i∧b=i
  · rw [if_pos e,if_pos ⟨e.1.trans e.2.symm,by omega⟩]
  · rw [if_neg e]
    by_cases c:a=b∧a < i
    · rw [if_pos c,if_pos ⟨c.1,by omega⟩]
    · rw [if_neg c,if_neg (fun z=>c ⟨z.1,by omega⟩)]
inductive SpSInit (P:Program) (w:World) (CS:Addr) (vs:List V) (H:Hp) (Q:VK):Prop
  | mk (o dx T:Addr) (us:List V) (ts:List Tm) (z0:vs = [.ref o,.ref T]) (z1:H o=some (.ins CS dx [])) (z2:H T=some (.lst us)) (z3:Tms H us ts) (z4:ts.length≤30)
    (z5:∀ A H',A.T=T→But o H H'→SeAt P w CS o dx A us ts (fun _ => []) H' (start0 ts.length) (fun _=>none)→(∀ c u,H c=some u→¬ OwnsS A c∧c≠A.Aw)→DN P w H' A.Aw []→Q .non H'):SpSInit P w CS vs H Q
noncomputable def spSInit (P:Program) (w:World) (CS:Addr):Sp:=fun vs H Q _=>SpSInit P w CS vs H Q
inductive SiI (Lr:List Addr) (n:Nat) (H:Hp) (τ : St) (i:Nat) (σ : St) (H':Hp):Prop
  | mk (x2:Option V):(σ = τ ++ [x2])→(∀ c u,c ∉ Lr→H c=some u→H' c=some u)→(∀ (a:Nat) (c:Addr),Lr[a]? = some c→H' c=some (.lst (rowV (diagM i) n a)))→SiI Lr n H τ i σ H'
theorem ok_sinit (B:Blt mg) (Z:TopSe K mg CS) (D:DefC K mg "Search" CS "Search.__init__" s_sinit ["self", "terms"]):HasC P w K mg base 1 "Search" CS ["self", "terms"] (spSInit P w CS):=by
  refine D.has sc_sinit (fun vs H Q E h => ?_) (fun f cdv A outer s H vs Q E hr h => ?_)
  · obtain ⟨o,dx,T,us,ts,rfl,_⟩:=h;rfl
  obtain ⟨o,dx,T,us,ts,rfl,ho,hT,hts,few,q⟩:=h
  refine ⟨_,(pss_cons (ps_fld (pv 0) (pv 1) rfl)
    (pss_cons (ps_fld (pv 0) (pe_comp (te:=(tOp _ _ (tCB (fun xs H Q=>J_len K xs H Q) (tCons _ tNil)))) (own := ["term"]) (caps := [("terms",1)]) (comp_scope (defScope s_sinit) ["self", "terms", "k"] rfl rfl rfl (by decide +kernel)) (pi_list (pv 1)) rfl (fun _ _ _=>pg_name (i:=0) (show (["term", "terms"]:List Str).Nodup by decide +kernel) rfl (Or.inl rfl)) (fun _ _ _=>(pe_op op_rep (pe_lst (pa_cons pe_non pa_nil)) (pe_callB call_len_seq rfl B.len_ PySem.boot_len (pa_cons (pv 1) pa_nil))))) rfl)
    (pss_cons (ps_for PassesOwn.leaving rfl (pi_range1 rfl B.range_ (pa_cons (pe_callB call_len_seq rfl B.len_ PySem.boot_len (pa_cons (pv 1) pa_nil)) pa_nil)) (pg_name (i:=2) sc_sinit.nd rfl (Or.inl rfl))
    (pss_one (ps_asg pe_int (pg_sub (pe_ix ix_list (pe_fld (pv 0) rfl) (pv 2) (fun _ _=>rfl)) (pv 2) set_list))))
    (pss_cons (ps_fld (pv 0) (pe_comp (te:=_) (own := ["term"]) (caps := []) (comp_scope (defScope s_sinit) ["self", "terms", "k"] rfl rfl rfl (by decide +kernel)) (pi_list (pv 1)) rfl (fun _ _ _=>pg_name (i:=0) (show (["term"]:List Str).Nodup by decide +kernel) rfl (Or.inl rfl)) (fun _ _ _=>pe_dnewK)) rfl)
    (pss_cons (ps_fld (pv 0) pe_dnewK rfl)
    (pss_cons (ps_fld (pv 0) pe_dnewN rfl)
    (pss_cons (ps_fld (pv 0) (pe_comp (te:=_) (own := ["term"]) (caps := []) (comp_scope (defScope s_sinit) ["self", "terms", "k"] rfl rfl rfl (by decide +kernel)) (pi_list (pv 1)) rfl (fun _ _ _=>pg_name (i:=0) (show (["term"]:List Str).Nodup by decide +kernel) rfl (Or.inl rfl)) (fun _ _ _=>(pe_lst pa_nil))) rfl)
    (pss_cons (ps_fld (pv 0) pe_dnewN rfl)
    (pss_one (ps_fld (pv 0) pe_dnewN rfl)))))))))),?_⟩
  try dsimp only [cxOf]
  have hlen:us.length=ts.length:=Paired.length hts
  have nTo:T≠o:=ne_of hT ho (fun z=>nomatch z)
  have kT':∀ c ys,H c=some (.tup ys)→c≠o:=fun c ys e=>ne_of e ho (fun z=>nomatch z)
  -- the terms
  refine ⟨_,rfl,_,rfl,o,CS,dx,_,rfl,ho,Z.cS,Z.nTerms,by decide,?_⟩
  have b1:But o H (upd H o (.ins CS dx (putF "terms" (.ref T) []))):=(But.refl o H).put
  have ho1:(upd H o (.ins CS dx (putF "terms" (.ref T) []))) o=some (.ins CS dx [("terms",.ref T)]):=upd_same
  have hT1:=b1 _ _ nTo hT
  generalize upd H o (.ins CS dx (putF "terms" (.ref T) []))=H1 at b1 ho1 hT1 ⊢
  -- the least lengths
  refine ⟨_,rfl,T,rfl,⟨_,SqL.of hT1⟩,?_⟩
  refine comp_new (K:=K) (xs:=us) (.lst (List.replicate ts.length .non)) (SqL.of hT1) (by omega) (fun x hx H' sm Q' q' => ?_) (fun L H2 Lr hL0 s2 hL2 lLr nLr hLr => ?_)
  · refine ⟨(show 1≤sizeLine by decide),fun l hl => ?_⟩
    have s3:=same_new hl (.lst [V.non])
    refine ⟨_,rfl,T,us,rfl,.inl (SqL.of (s3 _ _ (sm _ _ hT1))),l,_,_,rfl,rfl,upd_same,by omega,by omega,?_,fun p hp => ?_⟩
    · rw [show ((us.length:Int)).toNat=us.length by omega]
      exact Nat.le_of_lt (small1000 (show 1 * us.length≤1000 by omega))
    · rw [rep_flat,show ((us.length:Int)).toNat=ts.length by omega]
      exact q' p _ (s3.free hp) (s3.trans (same_new hp _)) upd_same
  have b2:=b1.same s2
  have ho2:=s2 _ _ ho1
  have hT2:=s2 _ _ hT1
  refine ⟨_,rfl,o,CS,dx,_,rfl,ho2,Z.cS,Z.nLeast,(show 1 < 1000 by decide),?_⟩
  have bt:But o H2 (upd H2 o (.ins CS dx (putF "least" (.ref L) [("terms",.ref T)]))):=(But.refl o H2).put
  have ho3:(upd H2 o (.ins CS dx (putF "least" (.ref L) [("terms",.ref T)]))) o=some (.ins CS dx [("terms",.ref T),("least",.ref L)]):=upd_same
  generalize upd H2 o (.ins CS dx (putF "least" (.ref L) [("terms",.ref T)]))=H3 at bt ho3 ⊢
  have b3:=b2.trans bt
  have hT3:=bt _ _ nTo hT2
  have hL3:=bt _ _ (ne_of hL2 ho2 (fun z=>nomatch z)) hL2
  have hLr3:∀ (a:Nat) (c:Addr),Lr[a]? = some c→H3 c=some (.lst (rowV (diagM 0) ts.length a)):=fun a c e=>by
    rw [row_zero]
    have:=(hLr c (List.mem_of_getElem? e)).2.1
    exact bt _ _ (ne_of this ho2 (fun z=>nomatch z)) this
  clear bt
  have noLr:o ∉ Lr:=fun z=>by have:=(hLr o z).1;rw [ho1] at this;cases this
  have nTLr:T ∉ Lr:=fun z=>by have:=(hLr T z).1;rw [hT1] at this;cases this
  have nLLr:L ∉ Lr:=fun z=>(hLr L z).2.2 rfl
  refine ⟨_,rfl,T,_,rfl,.inl (SqL.of hT3),_,rfl,by omega,by omega,?_⟩
  refine for_range (lo:=0) (SiI Lr ts.length H3 [some (.ref o),some (.ref T)]) ⟨none,rfl,fun c u _ e=>e,hLr3⟩ ?_ ?_
  · rintro i σ H' hi ⟨x2,rfl,fr,rows⟩
    dsimp only [gName]
    rw [Int.zero_add]
    have hi:i < ts.length:=by omega
    obtain ⟨ca,hca⟩:∃ c,Lr[i]? = some c:=⟨_,List.getElem?_eq_getElem (by omega)⟩
    refine ⟨_,rfl,o,CS,dx,_,_,rfl,fr _ _ noLr ho3,Z.cS,Z.nLeast,rfl,_,rfl,L,_,_,_,rfl,rfl,SqL.of (fr _ _ nLLr hL3),ref_at hca,_,rfl,ca,_,_,i,rfl,rfl,rows i ca hca,by rw [row_len];exact ix_nat hi,⟨_,rfl,fun c u n e => ?_,fun a c hc => ?_⟩⟩
    · rw [upd_ne (fun z=>n (by rw [z];exact List.mem_of_getElem? hca))];exact fr c u n e
    · rw [diag_succ]
      by_cases e:a=i
      · subst e
        rw [hca] at hc
        cases hc
        rw [upd_same, ← row_set hi];rfl
      · rw [upd_ne (at_ne nLr hc hca e),rows a c hc]
        unfold rowV
        congr 2
        exact List.map_congr_left fun b _=>by rw [setM_ne (fun z=>e z.1)]
  rintro σ H4 ⟨x2,rfl,fr,rows⟩
  rw [show ((us.length:Int)).toNat=ts.length by omega] at rows
  have ho4:=fr _ _ noLr ho3
  have hT4:=fr _ _ nTLr hT3
  have hL4:=fr _ _ nLLr hL3
  have b4:But o H H4:=fun c u n e=>fr c u (fun z=>by
    have:=(hLr c z).1
    rw [b1 c u n e] at this;cases this) (b3 c u n e)
  dsimp only [List.cons_append,List.nil_append]
  -- what waits
  refine ⟨_,rfl,T,rfl,⟨_,SqL.of hT4⟩,?_⟩
  refine comp_new (K:=K) (xs:=us) (.dK []) (SqL.of hT4) (by omega) (fun x hx H' sm Q' q'=>fun p hp=>q' p _ hp (same_new hp _) upd_same) (fun W H5 Wr hW0 s5 hW5 lWr nWr hWr => ?_)
  have ho5:=s5 _ _ ho4
  have hT5:=s5 _ _ hT4
  have b5:=b4.same s5
  refine ⟨_,rfl,o,CS,dx,_,rfl,ho5,Z.cS,Z.nWaiting,(show 2 < 1000 by decide),?_⟩
  have t5:But o H5 (upd H5 o (.ins CS dx (putF "waiting" (.ref W) [("terms",.ref T),("least",.ref L)]))):=(But.refl o H5).put
  have ho6:(upd H5 o (.ins CS dx (putF "waiting" (.ref W) [("terms",.ref T),("least",.ref L)]))) o=some (.ins CS dx [("terms",.ref T),("least",.ref L),("waiting",.ref W)]):=upd_same
  generalize upd H5 o (.ins CS dx (putF "waiting" (.ref W) [("terms",.ref T),("least",.ref L)]))=H6 at t5 ho6 ⊢
  have hT6:=t5 _ _ nTo hT5
  have b6:=b5.trans t5
  intro Hd hHd
  have s7:=same_new hHd (.dK [])
  have hd7:=upd_same (H:=H6) (a:=Hd) (o := .dK [])
  generalize upd H6 Hd (.dK [])=H7 at s7 hd7 ⊢
  have ho7:=s7 _ _ ho6
  have hT7:=s7 _ _ hT6
  have b7:=b6.same s7
  refine ⟨_,rfl,o,CS,dx,_,rfl,ho7,Z.cS,Z.nHeads,(show 3 < 1000 by decide),?_⟩
  have t7:But o H7 (upd H7 o (.ins CS dx (putF "heads" (.ref Hd) [("terms",.ref T),("least",.ref L),("waiting",.ref W)]))):=(But.refl o H7).put
  have ho8:(upd H7 o (.ins CS dx (putF "heads" (.ref Hd) [("terms",.ref T),("least",.ref L),("waiting",.ref W)]))) o=some (.ins CS dx [("terms",.ref T),("least",.ref L),("waiting",.ref W),("heads",.ref Hd)]):=upd_same
  generalize upd H7 o (.ins CS dx (putF "heads" (.ref Hd) [("terms",.ref T),("least",.ref L),("waiting",.ref W)]))=H8 at t7 ho8 ⊢
  have hT8:=t7 _ _ nTo hT7
  have b8:=b7.trans t7
  intro Sg φg hSg dSg
  have s9:=same_new hSg (.ext φg)
  generalize upd H8 Sg (.ext φg)=H9 at s9 dSg ⊢
  have ho9:=s9 _ _ ho8
  have hT9:=s9 _ _ hT8
  have b9:=b8.same s9
  refine ⟨_,rfl,o,CS,dx,_,rfl,ho9,Z.cS,Z.nSingle,(show 4 < 1000 by decide),?_⟩
  have t9:But o H9 (upd H9 o (.ins CS dx (putF "single" (.ref Sg) [("terms",.ref T),("least",.ref L),("waiting",.ref W),("heads",.ref Hd)]))):=(But.refl o H9).put
  have ho10:(upd H9 o (.ins CS dx (putF "single" (.ref Sg) [("terms",.ref T),("least",.ref L),("waiting",.ref W),("heads",.ref Hd)]))) o=some (.ins CS dx [("terms",.ref T),("least",.ref L),("waiting",.ref W),("heads",.ref Hd),("single",.ref Sg)]):=upd_same
  generalize upd H9 o (.ins CS dx (putF "single" (.ref Sg) [("terms",.ref T),("least",.ref L),("waiting",.ref W),("heads",.ref Hd)]))=H10 at t9 ho10 ⊢
  have hT10:=t9 _ _ nTo hT9
  have b10:=b9.trans t9
  refine ⟨_,rfl,T,rfl,⟨_,SqL.of hT10⟩,?_⟩
  refine comp_new (K:=K) (xs:=us) (.lst []) (SqL.of hT10) (by omega) (fun x hx H' sm Q' q'=>⟨(show 0≤sizeLine by decide),fun p hp=>q' p _ hp (same_new hp _) upd_same⟩) (fun S H11 Sr hS0 s11 hS11 lSr nSr hSr => ?_)
  have ho11:=s11 _ _ ho10
  have hT11:=s11 _ _ hT10
  have b11:=b10.same s11
  refine ⟨_,rfl,o,CS,dx,_,rfl,ho11,Z.cS,Z.nSteps,(show 5 < 1000 by decide),?_⟩
  have t11:But o H11 (upd H11 o (.ins CS dx (putF "steps" (.ref S) [("terms",.ref T),("least",.ref L),("waiting",.ref W),("heads",.ref Hd),("single",.ref Sg)]))):=(But.refl o H11).put
  have ho12:(upd H11 o (.ins CS dx (putF "steps" (.ref S) [("terms",.ref T),("least",.ref L),("waiting",.ref W),("heads",.ref Hd),("single",.ref Sg)]))) o=some (.ins CS dx [("terms",.ref T),("least",.ref L),("waiting",.ref W),("heads",.ref Hd),("single",.ref Sg),("steps",.ref S)]):=upd_same
  generalize upd H11 o (.ins CS dx (putF "steps" (.ref S) [("terms",.ref T),("least",.ref L),("waiting",.ref W),("heads",.ref Hd),("single",.ref Sg)]))=H12 at t11 ho12 ⊢
  have hT12:=t11 _ _ nTo hT11
  have b12:=b11.trans t11
  intro Aw φa hAw dAw
  have s13:=same_new hAw (.ext φa)
  generalize upd H12 Aw (.ext φa)=H13 at s13 dAw ⊢
  have ho13:=s13 _ _ ho12
  have hT13:=s13 _ _ hT12
  have b13:=b12.same s13
  refine ⟨_,rfl,o,CS,dx,_,rfl,ho13,Z.cS,Z.nAwaited,(show 6 < 1000 by decide),?_⟩
  have t13:But o H13 (upd H13 o (.ins CS dx (putF "awaited" (.ref Aw) [("terms",.ref T),("least",.ref L),("waiting",.ref W),("heads",.ref Hd),("single",.ref Sg),("steps",.ref S)]))):=(But.refl o H13).put
  have ho14:(upd H13 o (.ins CS dx (putF "awaited" (.ref Aw) [("terms",.ref T),("least",.ref L),("waiting",.ref W),("heads",.ref Hd),("single",.ref Sg),("steps",.ref S)]))) o=some (.ins CS dx [("terms",.ref T),("least",.ref L),("waiting",.ref W),("heads",.ref Hd),("single",.ref Sg),("steps",.ref S),("awaited",.ref Aw)]):=upd_same
  generalize upd H13 o (.ins CS dx (putF "awaited" (.ref Aw) [("terms",.ref T),("least",.ref L),("waiting",.ref W),("heads",.ref Hd),("single",.ref Sg),("steps",.ref S)]))=H14 at t13 ho14 ⊢
  have hT14:=t13 _ _ nTo hT13
  have b14:=b13.trans t13
  intro Lk φl hLk dLk
  have s15:=same_new hLk (.ext φl)
  generalize upd H14 Lk (.ext φl)=H15 at s15 dLk ⊢
  have ho15:=s15 _ _ ho14
  have hT15:=s15 _ _ hT14
  have b15:=b14.same s15
  refine ⟨_,rfl,o,CS,dx,_,rfl,ho15,Z.cS,Z.nLacking,(show 7 < 1000 by decide),?_⟩
  have t15:But o H15 (upd H15 o (.ins CS dx (putF "lacking" (.ref Lk) [("terms",.ref T),("least",.ref L),("waiting",.ref W),("heads",.ref Hd),("single",.ref Sg),("steps",.ref S),("awaited",.ref Aw)]))):=(But.refl o H15).put
  have ho16:(upd H15 o (.ins CS dx (putF "lacking" (.ref Lk) [("terms",.ref T),("least",.ref L),("waiting",.ref W),("heads",.ref Hd),("single",.ref Sg),("steps",.ref S),("awaited",.ref Aw)]))) o=some (.ins CS dx [("terms",.ref T),("least",.ref L),("waiting",.ref W),("heads",.ref Hd),("single",.ref Sg),("steps",.ref S),("awaited",.ref Aw),("lacking",.ref Lk)]):=upd_same
  generalize upd H15 o (.ins CS dx (putF "lacking" (.ref Lk) [("terms",.ref T),("least",.ref L),("waiting",.ref W),("heads",.ref Hd),("single",.ref Sg),("steps",.ref S),("awaited",.ref Aw)]))=H16 at t15 ho16 ⊢
  have hT16:=t15 _ _ nTo hT15
  have b16:=b15.trans t15
  have e15:=t15
  have e14:But o H14 H16:=fun c u n e=>e15 c u n (s15 c u e)
  have e13:=t13.trans e14
  have e12:But o H12 H16:=fun c u n e=>e13 c u n (s13 c u e)
  have e11:=t11.trans e12
  have e10:But o H10 H16:=fun c u n e=>e11 c u n (s11 c u e)
  have e9:=t9.trans e10
  have e8:But o H8 H16:=fun c u n e=>e9 c u n (s9 c u e)
  have e7:=t7.trans e8
  have e6:But o H6 H16:=fun c u n e=>e7 c u n (s7 c u e)
  have e5:=t5.trans e6
  have e4:But o H4 H16:=fun c u n e=>e5 c u n (s5 c u e)
  have f9:But o H4 H10:=fun c u n e=>t9 c u n (s9 c u (t7 c u n (s7 c u (t5 c u n (s5 c u e)))))
  -- what lives is no new thing
  have al:∀ {Hk:Hp} {v:HO},But o H Hk→Hk o=some v→∀ {c:Addr} {u:HO},H c=some u→Hk c≠none:=fun {Hk v} bk hk {c u} e z=>by
    by_cases ec:c=o
    · rw [ec,hk] at z;cases z
    · rw [bk c u ec e] at z;cases z
  refine q ⟨T,L,W,S,Hd,Sg,Aw,Lk,Lr,Wr,Sr⟩ H16 rfl b16 ?_ (fun c u e=>⟨?_,fun z=>al b12 ho12 e (by rw [z];exact hAw)⟩) (dAw.keep (fun φ e=>e13 _ _ (ne_of e ho13 (fun z=>nomatch z)) e) (fun c ys e=>e13 _ _ (ne_of e ho13 (fun z=>nomatch z)) e))
  · refine ⟨ho16,hT16,tms_keep (fun c ys e=>b16 _ _ (kT' c ys e) e) hts,e4 _ _ (ne_of hL4 ho4 (fun z=>nomatch z)) hL4,(show Lr.length=ts.length by omega),fun a c e => ?_,e5 _ _ (ne_of hW5 ho5 (fun z=>nomatch z)) hW5,(show Wr.length=ts.length by omega),fun a c e => ?_,⟨[],e7 _ _ (ne_of hd7 ho7 (fun z=>nomatch z)) hd7,?_⟩,⟨[],?_⟩,e11 _ _ (ne_of hS11 ho11 (fun z=>nomatch z)) hS11,(show Sr.length=ts.length by omega),fun a c e => ?_,?_,⟨[],?_⟩,?_,few⟩
    · exact e4 _ _ (ne_of (rows a c e) ho4 (fun z=>nomatch z)) (rows a c e)
    · have:=(hWr c (List.mem_of_getElem? e)).2.1
      exact ⟨[],e5 _ _ (ne_of this ho5 (fun z=>nomatch z)) this,fun b=>rfl,(fun kv hkv=>nomatch hkv),List.nodup_nil⟩
    · exact ⟨fun a _=>rfl,fun a k b e=>(nomatch e),(fun kv hkv=>nomatch hkv),List.nodup_nil⟩
    · obtain ⟨φ,e⟩:=dSg.ext
      exact ⟨dSg.keep (fun φ e=>e9 _ _ (ne_of e ho9 (fun z=>nomatch z)) e) (fun c ys e=>e9 _ _ (ne_of e ho9 (fun z=>nomatch z)) e),fun p=>rfl,(fun kv hkv=>nomatch hkv)⟩
    · have:=(hSr c (List.mem_of_getElem? e)).2.1
      exact ⟨[],e11 _ _ (ne_of this ho11 (fun z=>nomatch z)) this,.nil⟩
    · exact ⟨[],dAw.keep (fun φ e=>e13 _ _ (ne_of e ho13 (fun z=>nomatch z)) e) (fun c ys e=>e13 _ _ (ne_of e ho13 (fun z=>nomatch z)) e),fun kv hkv=>(nomatch hkv),fun q => .inl ⟨rfl,rfl⟩⟩
    · exact ⟨dLk.keep (fun φ e=>e15 _ _ (ne_of e ho15 (fun z=>nomatch z)) e) (fun c ys e=>e15 _ _ (ne_of e ho15 (fun z=>nomatch z)) e),fun p=>rfl,(fun kv hkv=>nomatch hkv)⟩
    · have hL10:=f9 _ _ (ne_of hL4 ho4 (fun z=>nomatch z)) hL4
      have hW10:H10 W=_:=t9 _ _ (ne_of (s9 _ _ (t7 _ _ (ne_of (s7 _ _ (t5 _ _ (ne_of hW5 ho5 (fun z=>nomatch z)) hW5)) ho7 (fun z=>nomatch z)) (s7 _ _ (t5 _ _ (ne_of hW5 ho5 (fun z=>nomatch z)) hW5)))) ho9 (fun z=>nomatch z)) (s9 _ _ (t7 _ _ (ne_of (s7 _ _ (t5 _ _ (ne_of hW5 ho5 (fun z=>nomatch z)) hW5)) ho7 (fun z=>nomatch z)) (s7 _ _ (t5 _ _ (ne_of hW5 ho5 (fun z=>nomatch z)) hW5))))
      refine ⟨nLr,List.nodup_cons.mpr ⟨fun z => ?_,nWr⟩,nSr,fun c hc z => ?_,fun c hc => ?_,?_,?_,?_⟩
      · have:=(hWr Hd z).2.1
        have:=t5 _ _ (ne_of this ho5 (fun z=>nomatch z)) this
        rw [hHd] at this;cases this
      · obtain ⟨a,ha⟩:=List.getElem?_of_mem hc
        have:=f9 _ _ (ne_of (rows a c ha) ho4 (fun z=>nomatch z)) (rows a c ha)
        rw [(hSr c z).1] at this;cases this
      · have hLr10:∀ c∈Lr,H10 c≠none:=fun c hc z=>by
          obtain ⟨a,ha⟩:=List.getElem?_of_mem hc
          rw [f9 _ _ (ne_of (rows a c ha) ho4 (fun z=>nomatch z)) (rows a c ha)] at z;cases z
        have hc:c ∈ [T,L,W,S]:=hc
        rcases List.mem_cons.mp hc with rfl | hc
        · exact ⟨nTLr,fun z=>by have:=(hSr c z).1;rw [hT10] at this;cases this⟩
        rcases List.mem_cons.mp hc with rfl | hc
        · exact ⟨nLLr,fun z=>by have:=(hSr c z).1;rw [hL10] at this;cases this⟩
        rcases List.mem_cons.mp hc with rfl | hc
        · refine ⟨fun z => ?_,fun z=>by have:=(hSr c z).1;rw [hW10] at this;cases this⟩
          obtain ⟨a,ha⟩:=List.getElem?_of_mem z
          have ha:Lr[a]? = some c:=ha
          rw [rows a c ha] at hW0;cases hW0
        · rw [List.mem_singleton.mp hc]
          exact ⟨fun z=>hLr10 S z hS0,fun z=>(hSr S z).2.2 rfl⟩
      · obtain ⟨φ,e⟩:=dSg.ext
        have h10:=t9 _ _ (ne_of e ho9 (fun z=>nomatch z)) e
        have h12:=t11 _ _ (ne_of (s11 _ _ h10) ho11 (fun z=>nomatch z)) (s11 _ _ h10)
        exact fun z=>by rw [show Sg=Aw from z,hAw] at h12;cases h12
      · obtain ⟨φ,e⟩:=dSg.ext
        have h10:=t9 _ _ (ne_of e ho9 (fun z=>nomatch z)) e
        have h12:=t11 _ _ (ne_of (s11 _ _ h10) ho11 (fun z=>nomatch z)) (s11 _ _ h10)
        have h14:=t13 _ _ (ne_of (s13 _ _ h12) ho13 (fun z=>nomatch z)) (s13 _ _ h12)
        exact fun z=>by rw [show Sg=Lk from z,hLk] at h14;cases h14
      · obtain ⟨φ,e⟩:=dAw.ext
        have h14:=t13 _ _ (ne_of e ho13 (fun z=>nomatch z)) e
        exact fun z=>by rw [show Aw=Lk from z,hLk] at h14;cases h14
  · rintro ((z | z | z | z) | z | z)
    · exact al b1 ho1 e (hLr c z).1
    · exact al b4 ho4 e (hWr c z).1
    · exact al b6 ho6 e (by rw [z];exact hHd)
    · exact al b8 ho8 e (by rw [z];exact hSg)
    · exact al b10 ho10 e (hSr c z).1
    · exact al b14 ho14 e (by rw [z];exact hLk)
end

end K21
namespace K21
open PySem L2 Sw
section
noncomputable def MkAt (ts:List Tm) (ls:List Nat) (k:Nat) (m:Tm):Prop := ∃ x as,ts[k]? = some (.of x as)∧mk ls (.of x as)=m
noncomputable abbrev Rw:=Tm × Addr × List Nat
structure AgOk (ts:List Tm) (ls:List Nat) (i:Nat) (rs:List Rw):Prop where
  row:∀ r∈rs,∀ k,k∈r.2.2↔k < i∧MkAt ts ls k r.1
  inc:∀ r∈rs,r.2.2.Pairwise (· < ·)
  has:∀ k m,k < i→MkAt ts ls k m→∃ r∈rs,r.1=m
  nod:(rs.map (·.1)).Nodup
  few:rs.length≤i
open Classical in
noncomputable def rwPut (m:Tm) (k:Nat) (r:Rw):Rw:=if r.1=m then (r.1,r.2.1,r.2.2 ++ [k]) else r
theorem rwPut_1 (m:Tm) (k:Nat) (r:Rw):(rwPut m k r).1=r.1:=by unfold rwPut;split <;> rfl
theorem rwPut_2 (m:Tm) (k:Nat) (r:Rw):(rwPut m k r).2.1=r.2.1:=by unfold rwPut;split <;> rfl
section
variable {ts:List Tm} {ls:List Nat} {i:Nat} {rs:List Rw} {m:Tm}
theorem mkAt_one {k:Nat} {m m':Tm} (h:MkAt ts ls k m) (h':MkAt ts ls k m'):m=m':=by
  obtain ⟨x,as,e,rfl⟩:=h
  obtain ⟨y,bs,e',rfl⟩:=h'
  rw [e] at e'
  cases e';rfl
theorem AgOk.nil:AgOk ts ls 0 []:=⟨fun r hr=>(nomatch hr),fun r hr=>(nomatch hr),fun k m hk=>absurd hk (Nat.not_lt_zero k),List.nodup_nil,Nat.le_refl _⟩
theorem AgOk.skip (h:AgOk ts ls i rs) (hn:∀ m, ¬ MkAt ts ls i m):AgOk ts ls (i+1) rs:=by
  refine ⟨fun r hr k => ?_,h.inc,fun k m hk hm => ?_,h.nod,Nat.le_succ_of_le h.few⟩
  · rw [h.row r hr k]
    refine ⟨fun z=>⟨by omega,z.2⟩,fun z=>⟨?_,z.2⟩⟩
    by_cases e:k=i
    · subst e;exact absurd z.2 (hn _)
    · omega
  · by_cases e:k=i
    · subst e;exact absurd hm (hn _)
    · exact h.has k m (by omega) hm
theorem AgOk.old (h:AgOk ts ls i rs) (hm:MkAt ts ls i m) (ex:∃ r∈rs,r.1=m):AgOk ts ls (i+1) (rs.map (rwPut m i)):=by
  refine ⟨fun r hr k => ?_,fun r hr => ?_,fun k m' hk hm' => ?_,?_,by rw [List.length_map];exact Nat.le_succ_of_le h.few⟩
  · obtain ⟨r0,hr0,rfl⟩:=List.mem_map.mp hr
    have h0:=h.row r0 hr0 k
    unfold rwPut
    by_cases e:r0.1=m
    · rw [if_pos e]
      dsimp only
      rw [List.mem_append,List.mem_singleton,h0]
      constructor
      · rintro (z | rfl)
        · exact ⟨by omega,z.2⟩
        · exact ⟨by omega,by rw [e];exact hm⟩
      · rintro ⟨z1,z2⟩
        by_cases ek:k=i
        · exact .inr ek
        · exact .inl ⟨by omega,z2⟩
    · rw [if_neg e,h0]
      refine ⟨fun z=>⟨by omega,z.2⟩,fun z=>⟨?_,z.2⟩⟩
      by_cases ek:k=i
      · subst ek;exact absurd (mkAt_one z.2 hm) e
      · omega
  · obtain ⟨r0,hr0,rfl⟩:=List.mem_map.mp hr
    unfold rwPut
    by_cases e:r0.1=m
    · rw [if_pos e]
      dsimp only
      rw [List.pairwise_append]
      refine ⟨h.inc r0 hr0,List.pairwise_singleton _ _,fun a ha b hb => ?_⟩
      rw [List.mem_singleton.mp hb]
      exact ((h.row r0 hr0 a).mp ha).1
    · rw [if_neg e];exact h.inc r0 hr0
  · by_cases e:k=i
    · subst e
      obtain ⟨r,hr,er⟩:=ex
      exact ⟨_,List.mem_map.mpr ⟨r,hr,rfl⟩,by rw [rwPut_1,er];exact mkAt_one hm hm'⟩
    · obtain ⟨r,hr,er⟩:=h.has k m' (by omega) hm'
      exact ⟨_,List.mem_map.mpr ⟨r,hr,rfl⟩,by rw [rwPut_1,er]⟩
  · rw [List.map_map]
    have:(fun r=>(rwPut m i r).1)=fun r:Rw=>r.1:=funext fun r=>rwPut_1 m i r
    show (rs.map fun r=>(rwPut m i r).1).Nodup
    rw [this];exact h.nod
theorem AgOk.new (h:AgOk ts ls i rs) (hm:MkAt ts ls i m) (nx:∀ r∈rs,r.1≠m) (c:Addr):AgOk ts ls (i+1) (rs ++ [(m,c, [i])]):=by
  refine ⟨fun r hr k => ?_,fun r hr => ?_,fun k m' hk hm' => ?_,?_,by rw [List.length_append];exact Nat.succ_le_succ h.few⟩
  · rcases List.mem_append.mp hr with h1 | h1
    · rw [h.row r h1 k]
      refine ⟨fun z=>⟨by omega,z.2⟩,fun z=>⟨?_,z.2⟩⟩
      by_cases ek:k=i
      · subst ek;exact absurd (mkAt_one z.2 hm) (nx r h1)
      · omega
    · rw [List.mem_singleton.mp h1]
      dsimp only
      rw [List.mem_singleton]
      constructor
      · rintro rfl;exact ⟨by omega,hm⟩
      · rintro ⟨z1,z2⟩
        by_cases ek:k=i
        · exact ek
        · obtain ⟨r,hr,er⟩:=h.has k m (by omega) z2
          exact absurd er (nx r hr)
  · rcases List.mem_append.mp hr with hr | hr
    · exact h.inc r hr
    · rw [List.mem_singleton.mp hr];exact List.pairwise_singleton _ _
  · by_cases e:k=i
    · subst e
      exact ⟨_,List.mem_append.mpr (.inr (List.mem_singleton_self _)),mkAt_one hm hm'⟩
    · obtain ⟨r,hr,er⟩:=h.has k m' (by omega) hm'
      exact ⟨r,List.mem_append.mpr (.inl hr),er⟩
  · rw [List.map_append,List.nodup_append]
    refine ⟨h.nod,List.nodup_cons.mpr ⟨List.not_mem_nil,List.nodup_nil⟩,fun x hx y hy e => ?_⟩
    obtain ⟨r,hr,er⟩:=List.mem_map.mp hx
    have hy:y=m:=List.mem_singleton.mp hy
    exact nx r hr (er.trans (e.trans hy))
noncomputable def prsF (row:List Nat) (j:Nat):List (Nat × Nat):=(List.range j).flatMap fun pl=>(row.take pl).map fun a=>(a,row.getD pl 0)
noncomputable def allP (rs:List Rw) (i:Nat):List (Nat × Nat):=(rs.take i).flatMap fun r=>prsF r.2.2 r.2.2.length
theorem prs_succ (row:List Nat) (j:Nat):prsF row (j+1)=prsF row j ++ (row.take j).map fun a=>(a,row.getD j 0):=by
  unfold prsF
  rw [List.range_succ,List.flatMap_append];simp
theorem all_succ {rs:List Rw} {i:Nat} {r:Rw} (h:rs[i]? = some r):allP rs (i+1)=allP rs i ++ prsF r.2.2 r.2.2.length:=by
  unfold allP
  rw [take_snocP h,List.flatMap_append];simp
theorem prs_mono (row:List Nat) {j j':Nat} (h:j≤j'):(prsF row j).length≤(prsF row j').length:=by
  induction h with
  | refl=>exact Nat.le_refl _
  | step _ ih=>rw [prs_succ,List.length_append];omega
theorem all_mono (rs:List Rw) (i:Nat):(allP rs i).length≤(allP rs rs.length).length:=by
  unfold allP
  rw [List.take_length]
  conv=>rhs;rw [← List.take_append_drop i rs]
  rw [List.flatMap_append,List.length_append]
  exact Nat.le_add_right _ _
theorem prs_mem {row:List Nat} {p:Nat × Nat}:p∈prsF row row.length↔∃ i j:Nat,i < j∧row[i]? = some p.1∧row[j]? = some p.2:=by
  unfold prsF
  rw [List.mem_flatMap]
  constructor
  · rintro ⟨j,hj,hp⟩
    rw [List.mem_range] at hj
    obtain ⟨a,ha,rfl⟩:=List.mem_map.mp hp
    obtain ⟨i,hi⟩:=List.getElem?_of_mem ha
    rw [List.getElem?_take] at hi
    split at hi
    · rename_i c
      refine ⟨i,j,c,hi,?_⟩
      dsimp only
      rw [List.getD_eq_getElem?_getD,List.getElem?_eq_getElem hj];rfl
    · cases hi
  · rintro ⟨i,j,hij,hi,hj⟩
    refine ⟨j,List.mem_range.mpr (List.getElem?_eq_some_iff.mp hj).1,List.mem_map.mpr ⟨p.1,?_,?_⟩⟩
    · exact List.mem_of_getElem? (i:=i) (by rw [List.getElem?_take,if_pos hij];exact hi)
    · rw [List.getD_eq_getElem?_getD,hj];rfl
theorem all_mem {p:Nat × Nat}:p∈allP rs rs.length↔∃ r∈rs,p∈prsF r.2.2 r.2.2.length:=by
  unfold allP
  rw [List.take_length,List.mem_flatMap]
theorem inc_lt {row:List Nat} (h:row.Pairwise (· < ·)) {i j a b:Nat} (hi:row[i]? = some a) (hj:row[j]? = some b) (hij:i < j):a < b:=by
  obtain ⟨h1,e1⟩:=List.getElem?_eq_some_iff.mp hi
  obtain ⟨h2,e2⟩:=List.getElem?_eq_some_iff.mp hj
  have:=List.pairwise_iff_getElem.mp h i j h1 h2 hij
  rw [e1,e2] at this
  exact this
theorem inc_of {row:List Nat} (h:row.Pairwise (· < ·)) {a b:Nat} (ha:a∈row) (hb:b∈row) (hab:a < b):∃ i j:Nat,i < j∧row[i]? = some a∧row[j]? = some b:=by
  obtain ⟨i,hi⟩:=List.getElem?_of_mem ha
  obtain ⟨j,hj⟩:=List.getElem?_of_mem hb
  rcases Nat.lt_trichotomy i j with q | q | q
  · exact ⟨i,j,q,hi,hj⟩
  · rw [q,hj] at hi;cases hi;omega
  · have:=inc_lt h hj hi q;omega
theorem prs_nodup {row:List Nat} (h:row.Pairwise (· < ·)):(prsF row row.length).Nodup:=by
  have hn:row.Nodup:=h.imp fun {a b} (z:a < b)=>Nat.ne_of_lt z
  unfold prsF
  rw [List.Nodup,List.pairwise_flatMap]
  refine ⟨fun j hj => ?_,?_⟩
  · rw [List.pairwise_map]
    refine ((List.take_sublist j row).nodup hn).imp fun {a b} hab e=>hab (congrArg Prod.fst e)
  · refine List.Pairwise.imp_of_mem ?_ (List.nodup_range (n:=row.length))
    intro j j' hj hj' hne x hx y hy e
    obtain ⟨a,_,rfl⟩:=List.mem_map.mp hx
    obtain ⟨b,_,rfl⟩:=List.mem_map.mp hy
    have e2:row.getD j 0=row.getD j' 0:=congrArg Prod.snd e
    have hj:=List.mem_range.mp hj
    have hj':=List.mem_range.mp hj'
    rw [List.getD_eq_getElem?_getD,List.getD_eq_getElem?_getD,List.getElem?_eq_getElem hj,List.getElem?_eq_getElem hj'] at e2
    exact hne ((List.getElem_inj hn).mp e2)
theorem lp_nodup (h:AgOk ts ls i rs):(allP rs rs.length).Nodup:=by
  unfold allP
  rw [List.take_length,List.Nodup,List.pairwise_flatMap]
  refine ⟨fun r hr=>prs_nodup (h.inc r hr),?_⟩
  refine (List.pairwise_map.mp h.nod).imp_of_mem ?_
  intro r r' hr hr' hne x hx y hy e
  obtain ⟨i1,j1,_,hi1,_⟩:=prs_mem.mp hx
  obtain ⟨i2,j2,_,hi2,_⟩:=prs_mem.mp hy
  have m1:=((h.row r hr _).mp (List.mem_of_getElem? hi1)).2
  have m2:=((h.row r' hr' _).mp (List.mem_of_getElem? hi2)).2
  rw [← e] at m2
  exact hne (mkAt_one m1 m2)
theorem lp_in (h:AgOk ts ls ts.length rs) {p:Nat × Nat} (hp:p∈allP rs rs.length):p.1 < p.2∧p.2 < ts.length∧∃ m,MkAt ts ls p.1 m∧MkAt ts ls p.2 m:=by
  obtain ⟨r,hr,hpr⟩:=all_mem.mp hp
  obtain ⟨i1,j1,hij,hi1,hj1⟩:=prs_mem.mp hpr
  have m1:=(h.row r hr _).mp (List.mem_of_getElem? hi1)
  have m2:=(h.row r hr _).mp (List.mem_of_getElem? hj1)
  exact ⟨inc_lt (h.inc r hr) hi1 hj1 hij,m2.1,r.1,m1.2,m2.2⟩
theorem lp_few (h:AgOk ts ls ts.length rs) (hn:ts.length≤30):(allP rs rs.length).length≤900:=by
  have:=nodup_len (U:=((List.range ts.length).flatMap fun a=>(List.range ts.length).map fun b=>(a,b))) (lp_nodup h) fun x hx=>by
    obtain ⟨h1,h2,_⟩:=lp_in h hx
    exact List.mem_flatMap.mpr ⟨x.1,List.mem_range.mpr (by omega),List.mem_map.mpr ⟨x.2,List.mem_range.mpr h2,rfl⟩⟩
  refine Nat.le_trans this ?_
  have fl:∀ m,((List.range m).flatMap fun a=>(List.range ts.length).map fun b=>(a,b)).length=m * ts.length:=fun m=>by
    induction m with
    | zero=>simp
    | succ m ih=>rw [List.range_succ,List.flatMap_append,List.length_append,ih,Nat.succ_mul];simp
  rw [fl]
  exact Nat.mul_le_mul hn hn
theorem lp_LP (h:AgOk ts ls ts.length rs) (hnd:ts.Nodup):LP ts ls (allP rs rs.length) (ndT ts):=by
  have at_:∀ p∈allP rs rs.length,p.1 < p.2∧∃ x as bs,ts[p.1]? = some (.of x as)∧ts[p.2]? = some (.of x bs)∧as.length=bs.length:=fun p hp=>by
    obtain ⟨h1,_,m,⟨x,as,e1,e2⟩,y,bs,e3,e4⟩:=lp_in h hp
    rw [← e4] at e2
    have e2:TM.of x (as.map fun a=>ls.getD a 0)=TM.of y (bs.map fun a=>ls.getD a 0):=e2
    injection e2 with g1 g2
    subst g1
    have:=congrArg List.length g2
    rw [List.length_map,List.length_map] at this
    exact ⟨h1,x,as,bs,e1,e3,this⟩
  refine ⟨at_,fun a b x as bs hab ha hb hl hk => ?_,lp_nodup h,fun p _=>ndT_nodup ts p,fun p _ q=>ndT_mem,fun p hp e => ?_⟩
  · have ma:MkAt ts ls a (mk ls (.of x as)):=⟨x,as,ha,rfl⟩
    have mb:MkAt ts ls b (mk ls (.of x as)):=⟨x,bs,hb,by
      show TM.of x (bs.map fun a=>ls.getD a 0)=TM.of x (as.map fun a=>ls.getD a 0)
      congr 1
      refine List.ext_getElem? fun k => ?_
      rw [List.getElem?_map,List.getElem?_map]
      cases e:as[k]? with
      | none=>rw [List.getElem?_eq_none (by rw [← hl];exact List.getElem?_eq_none_iff.mp e)]
      | some u =>
        have hlt:=(List.getElem?_eq_some_iff.mp e).1
        have e':bs[k]? = some (bs[k]'(by omega)):=List.getElem?_eq_getElem (by omega)
        rw [e']
        exact congrArg some (hk k u _ e e').symm⟩
    have la:=(List.getElem?_eq_some_iff.mp ha).1
    have lb:=(List.getElem?_eq_some_iff.mp hb).1
    obtain ⟨r,hr,er⟩:=h.has a _ la ma
    have ra:=(h.row r hr a).mpr ⟨la,by rw [er];exact ma⟩
    have rb:=(h.row r hr b).mpr ⟨lb,by rw [er];exact mb⟩
    exact all_mem.mpr ⟨r,hr,prs_mem.mpr (inc_of (h.inc r hr) ra rb hab)⟩
  · obtain ⟨hlt,x,as,bs,ha,hb,hl⟩:=at_ p hp
    have hne:as≠bs:=fun z=>by
      rw [z, ← hb] at ha
      have:=(List.getElem?_inj (by have:=(List.getElem?_eq_some_iff.mp hb).1;omega) hnd).mp ha
      omega
    refine hne (List.ext_getElem? fun k => ?_)
    cases ek:as[k]? with
    | none=>rw [List.getElem?_eq_none (by rw [← hl];exact List.getElem?_eq_none_iff.mp ek)]
    | some u =>
      have hk:=(List.getElem?_eq_some_iff.mp ek).1
      have e':bs[k]? = some (bs[k]'(by omega)):=List.getElem?_eq_getElem (by omega)
      generalize bs[k]'(by omega)=v at e'
      rw [e']
      by_cases euv:u=v
      · rw [euv]
      · have hu:(u,v)∈unlT ts p.1 p.2:=by
          have eu:unlT ts p.1 p.2=unlF as bs:=by unfold unlT;rw [ha,hb];rfl
          rw [eu]
          exact unl_mem.mpr ⟨euv,k,ek,e'⟩
        have:=ndT_mem.mpr ⟨_,hu,rfl⟩
        rw [e] at this
        cases this
end
end

end K21
namespace K21
open PySem L2 Sw
section
variable {P:Program} {w:World} {K:PySem.W.Frag} {mg:Str→Option Value} {base:Heap}
noncomputable def kvR (rs:List Rw):List (NK × V):=rs.map fun r=>(tmNK r.1,V.ref r.2.1)
theorem val_kvR {m:Tm}:∀ {rs:List Rw},(∀ v,valV (kvR rs) (tmNK m)=some v→∃ r∈rs,r.1=m∧v = .ref r.2.1)∧(valV (kvR rs) (tmNK m)=none→∀ r∈rs,r.1≠m)
  | []=>⟨fun v e=>(nomatch e),fun _ r hr=>(nomatch hr)⟩
  | r :: rs=>by
    obtain ⟨h1,h2⟩:=val_kvR (m:=m) (rs:=rs)
    have e0:kvR (r :: rs)=(tmNK r.1,V.ref r.2.1) :: kvR rs:=rfl
    rw [e0]
    by_cases e:r.1=m
    · rw [valV_pos (by rw [e])]
      refine ⟨fun v ev=>⟨r,List.mem_cons_self,e,(Option.some.inj ev).symm⟩,(fun z=>nomatch z)⟩
    · rw [valV_neg (fun z=>e (tmNK_inj z))]
      refine ⟨fun v ev => ?_,fun z r' hr' => ?_⟩
      · obtain ⟨r',hr',g⟩:=h1 v ev
        exact ⟨r',List.mem_cons_of_mem _ hr',g⟩
      · rcases List.mem_cons.mp hr' with rfl | hr'
        · exact e
        · exact h2 z r' hr'
theorem map_inj {α β : Type} {f : α → β}:∀ {l:List α},(l.map f).Nodup→∀ {a b : α},a∈l→b∈l→f a=f b→a=b
  | [],_,a,b,ha,_,_=>nomatch ha
  | x :: l,h,a,b,ha,hb,e=>by
    rw [List.map_cons,List.nodup_cons] at h
    rcases List.mem_cons.mp ha with ea | ha'
    · rcases List.mem_cons.mp hb with eb | hb'
      · rw [ea,eb]
      · exact absurd (List.mem_map.mpr ⟨b,hb',by rw [← e,ea]⟩) h.1
    · rcases List.mem_cons.mp hb with eb | hb'
      · exact absurd (List.mem_map.mpr ⟨a,ha',by rw [e,eb]⟩) h.1
      · exact map_inj h.2 ha' hb' e
theorem kvR_put (rs:List Rw) (m:Tm) (k:Nat):kvR (rs.map (rwPut m k))=kvR rs:=by
  unfold kvR
  rw [List.map_map]
  exact List.map_congr_left fun r _=>by show (tmNK (rwPut m k r).1,V.ref (rwPut m k r).2.1)=_;rw [rwPut_1,rwPut_2]
structure RwAt (H H':Hp) (rs:List Rw):Prop where
  at_:∀ r∈rs,H' r.2.1=some (.lst (r.2.2.map nV))∧H r.2.1=none
  nod:(rs.map (·.2.1)).Nodup
theorem RwAt.same {H H1 H2:Hp} {rs:List Rw} (h:RwAt H H1 rs) (sm:Same H1 H2):RwAt H H2 rs:=⟨fun r hr=>⟨sm _ _ (h.at_ r hr).1,(h.at_ r hr).2⟩,h.nod⟩
theorem cut_nat (row:List Nat) (j:Nat):cutV (row.map nV) none (some (j:Int))=(row.take j).map nV:=by
  unfold cutV
  rw [HT.sIx_nat,HT.sIx_none,List.drop_zero,Nat.sub_zero,List.length_map, ← List.map_take]
  congr 1
  rcases Nat.le_total j row.length with z | z
  · rw [Nat.min_eq_left z]
  · rw [Nat.min_eq_right z,List.take_length,List.take_of_length_le z]
theorem inc_few {row:List Nat} {n:Nat} (h:row.Pairwise (· < ·)) (hn:∀ k∈row,k < n):row.length≤n:=by
  have:=nodup_len (U:=List.range n) (h.imp fun {a b} (z:a < b)=>Nat.ne_of_lt z) fun x hx=>List.mem_range.mpr (hn x hx)
  rw [List.length_range] at this
  exact this
inductive SpLike (vs:List V) (H:Hp) (Q:VK):Prop
  | mk (T L:Addr) (us:List V) (ts:List Tm) (ls:List Nat) (z0:vs = [.ref T,.ref L]) (z1:H T=some (.lst us)) (z2:Tms H us ts) (z3:H L=some (.lst (ls.map nV))) (z4:∀ (i:Nat) x as,ts[i]? = some (.of x as)→as.length≤1000∧∀ a∈as,a < ls.length) (z5:ts.length≤30) (z6:ts.Nodup)
    (z7:∀ lp D vs' H',Same H H'→H D=none→H' D=some (.lst vs')→PairsAt H' vs' lp→lp.length≤900→LP ts ls lp (ndT ts)→Q (.ref D) H'):SpLike vs H Q
noncomputable def spLike:Sp:=fun vs H Q _=>SpLike vs H Q
inductive LqI (P:Program) (w:World) (H:Hp) (T L p:Addr) (ts:List Tm) (ls:List Nat) (i:Nat) (σ : St) (H':Hp):Prop
  | mk (rs:List Rw) (x3 x4:Option V):(σ = [some (.ref T),some (.ref L),some (.ref p),x3,x4,none,none,none,none,none])→Same H H'→DN P w H' p (kvR rs)→AgOk ts ls i rs→RwAt H H' rs→LqI P w H T L p ts ls i σ H'
inductive LrI (H:Hp) (Z:Addr) (τ : St) (lp:List (Nat × Nat)) (σ : St) (H':Hp):Prop
  | mk (zs:List V) (τ2:St):(σ = τ ++ [some (.ref Z)] ++ τ2)→(τ2.length=4)→But Z H H'→H' Z=some (.lst zs)→PairsAt H' zs lp→LrI H Z τ lp σ H'
inductive LsI (H:Hp) (Z:Addr) (τ : St) (lp:List (Nat × Nat)) (σ : St) (H':Hp):Prop
  | mk (zs:List V) (x7 x8 x9:Option V):(σ = τ ++ [x7,x8,x9])→But Z H H'→H' Z=some (.lst zs)→PairsAt H' zs lp→LsI H Z τ lp σ H'
inductive LtI (H:Hp) (Z:Addr) (τ : St) (lp:List (Nat × Nat)) (σ : St) (H':Hp):Prop
  | mk (zs:List V) (x9:Option V):(σ = τ ++ [x9])→But Z H H'→H' Z=some (.lst zs)→PairsAt H' zs lp→LtI H Z τ lp σ H'
theorem ok_like_pairs (B:Blt mg) (h_mark:Has P w K mg base 1 "mark" ["term", "leads"] (spMark K)) (D:Def K mg "like_pairs" s_like_pairs ["terms", "leads"]):Has P w K mg base 2 "like_pairs" ["terms", "leads"] spLike:=by
  refine D.has sc_like_pairs (fun vs H Q E h => ?_) (fun f cdv A outer s H vs Q E hr h => ?_)
  · obtain ⟨T,L,us,ts,ls,rfl,_⟩:=h;rfl
  obtain ⟨T,L,us,ts,ls,rfl,hT,hts,hL,hsm,few,hnd,q⟩:=h
  refine ⟨_,(pss_cons (ps_set (i:=2) sc_like_pairs.nd rfl (Or.inl rfl) pe_dnewN)
    (pss_cons (ps_for PassesOwn.never rfl (pi_enum rfl B.enumerate_ (pa_cons (pv 0) pa_nil)) (pg_tup rfl (pgs_cons (pg_name (i:=3) sc_like_pairs.nd rfl (Or.inl rfl)) (pgs_cons (pg_name (i:=4) sc_like_pairs.nd rfl (Or.inl rfl)) pgs_nil)))
    (pss_one (ps_if (pt_cmpR op_eq (pe_ix ix_tup (pv 4) pe_int (fun _ _=>rfl)) pe_str (nomark _)) (pss_one (ps_expr (pe_bm PySem.F.plainAttrs_list PySem.F.slot_list_append PySem.F.type_list_append mt_append (pe_setD (un10 hr) (pv 2) (pe_callH h_mark hr (by omega) rfl (pa_cons (pv 4) (pa_cons (pv 1) pa_nil))) (pe_lst pa_nil) ⟨rfl,rfl,rfl,rfl⟩) (pa_cons (pv 3) pa_nil)))) pss_nil)))
    (pss_cons (ps_set (i:=5) sc_like_pairs.nd rfl (Or.inl rfl) (pe_lst pa_nil))
    (pss_cons (ps_for PassesOwn.never rfl (pi_valsN (pv 2)) (pg_name (i:=6) sc_like_pairs.nd rfl (Or.inl rfl))
    (pss_one (ps_for PassesOwn.never rfl (pi_enum rfl B.enumerate_ (pa_cons (pv 6) pa_nil)) (pg_tup rfl (pgs_cons (pg_name (i:=7) sc_like_pairs.nd rfl (Or.inl rfl)) (pgs_cons (pg_name (i:=8) sc_like_pairs.nd rfl (Or.inl rfl)) pgs_nil)))
    (pss_one (ps_for PassesOwn.never rfl (pi_list (pe_slice sl_list (pv 6) po_none (po_some (pv 7)))) (pg_name (i:=9) sc_like_pairs.nd rfl (Or.inl rfl))
    (pss_one (ps_expr (pe_bm PySem.F.plainAttrs_list PySem.F.slot_list_append PySem.F.type_list_append mt_append (pv 5) (pa_cons (pe_tup (pa_cons (pv 9) (pa_cons (pv 8) pa_nil))) pa_nil)))))))))
    (pss_one (ps_ret (pv 5))))))),?_⟩
  try dsimp only [cxOf]
  have hut:=Paired.length hts
  intro p φ hp dn0
  dsimp only [gName]
  have sm0:=same_new hp (.ext φ)
  generalize upd H p (.ext φ)=H0 at sm0 dn0 ⊢
  refine ⟨_,rfl,T,rfl,⟨us,SqL.of (sm0 _ _ hT)⟩,?_⟩
  refine for_enum (xs:=us) (LqI P w H T L p ts ls) ⟨[],none,none,rfl,sm0,dn0,AgOk.nil,fun r hr=>(nomatch hr),List.nodup_nil⟩ ?_ ?_ ?_
  · rintro i σ H' _ ⟨rs,x3,x4,rfl,sm,_⟩
    exact SqL.of (sm _ _ hT)
  · rintro i x a0 σ H' hx ⟨rs,x3,x4,rfl,sm,dn,ag,rw_⟩ ha0
    obtain ⟨t,ht,hx'⟩:=tms_at hts hx
    have hi:i < ts.length:=(List.getElem?_eq_some_iff.mp ht).1
    have s1:=same_new ha0 (.tup [.int (i:Int),x])
    refine ⟨a0,_,rfl,SqT.of upd_same,rfl,_,_,rfl,_,_,rfl,rfl,?_⟩
    generalize upd H' a0 (.tup [.int (i:Int),x])=H1 at s1 ⊢
    have sm1:=sm.trans s1
    have itx:IsTm H1 t x:=hx'.keep fun c ys e=>sm1 _ _ e
    have dn1:=dn.same s1
    have rw1:=rw_.same s1
    cases t with
    | num n =>
      obtain ⟨a,rfl,h⟩:=id itx
      refine ⟨_,rfl,a,_,0,_,rfl,rfl,SqT.of h,atI_nat (j:=0) rfl,rfl,_,rfl,iteD (fun z=>absurd (V.str.inj z) (by decide)) (fun _=>⟨rs,_,_,rfl,sm1,dn1,ag.skip fun m z => ?_,rw1⟩)⟩
      obtain ⟨y,as,e,_⟩:=z
      rw [ht] at e;cases e
    | name n =>
      obtain ⟨a,rfl,h⟩:=id itx
      refine ⟨_,rfl,a,_,0,_,rfl,rfl,SqT.of h,atI_nat (j:=0) rfl,rfl,_,rfl,iteD (fun z=>absurd (V.str.inj z) (by decide)) (fun _=>⟨rs,_,_,rfl,sm1,dn1,ag.skip fun m z => ?_,rw1⟩)⟩
      obtain ⟨y,as,e,_⟩:=z
      rw [ht] at e;cases e
    | of y as =>
      obtain ⟨a,b,rfl,h,h2⟩:=id itx
      have mka:MkAt ts ls i (mk ls (.of y as)):=⟨y,as,ht,rfl⟩
      refine ⟨_,rfl,a,_,0,_,rfl,rfl,SqT.of h,atI_nat (j:=0) rfl,rfl,_,rfl,iteD (fun _ => ?_) (fun z=>absurd rfl z)⟩
      refine ⟨_,rfl,p,rfl,⟨_,dn1⟩,_,rfl,_,rfl,_,.of y as,L,ls,rfl,itx,SqL.of (sm1 _ _ hL),(fun x as' e=>by cases e;exact hsm i y as ht),fun v' H2 sm2 hm => ?_⟩
      obtain ⟨b',rfl,nk⟩:=hm.key
      have dn2:=dn1.same sm2
      have rw2:=rw1.same sm2
      have smH2:=sm1.trans sm2
      refine ⟨(show 0≤sizeLine by decide),fun c hc => ?_⟩
      have s3:=same_new hc (.lst [])
      have hc3:=upd_same (H:=H2) (a:=c) (o := .lst [])
      have nk3:=nk.keep (H':=upd H2 c (.lst [])) fun d ys z=>s3 _ _ z
      have hcu:∀ r∈rs,r.2.1≠c:=fun r hr z=>by rw [← z,(rw2.at_ r hr).1] at hc;cases hc
      have hcH:H c=none:=smH2.free hc
      have hpc:p≠c:=fun z=>by obtain ⟨ψ,e⟩:=dn2.ext;rw [z,hc] at e;cases e
      generalize upd H2 c (.lst [])=H3 at s3 hc3 nk3 ⊢
      have dn3:=dn2.same s3
      have rw3:=rw2.same s3
      have smH3:=smH2.trans s3
      have hrl:(kvR rs).length≤30:=by unfold kvR;rw [List.length_map];have:=ag.few;omega
      refine ⟨kvR rs,tmNK (mk ls (.of y as)),b',dn3,rfl,nk3,small1000 (by omega),fun v hv => ?_,fun hn φ2 dn4 => ?_⟩
      · obtain ⟨r0,hr0,em,rfl⟩:=val_kvR.1 v hv
        obtain ⟨g1,g2⟩:=rw3.at_ r0 hr0
        have hlen:r0.2.2.length≤30:=Nat.le_trans (inc_few (ag.inc r0 hr0) fun k hk=>((ag.row r0 hr0 k).mp hk).1) (by omega)
        refine ⟨.inl ⟨rfl,_,SqL.of g1⟩,_,rfl,r0.2.1,_,_,rfl,rfl,g1,small1000 (by rw [List.length_map];omega),⟨rs.map (rwPut (mk ls (.of y as)) i),_,_,rfl,smH3.put g2,?_,ag.old mka ⟨r0,hr0,em⟩,?_⟩⟩
        · rw [kvR_put]
          exact dn3.keep (fun ψ e=>by rw [upd_ne (ne_of e g1 (fun z=>nomatch z))];exact e) (fun d ys e=>by rw [upd_ne (ne_of e g1 (fun z=>nomatch z))];exact e)
        · refine ⟨fun r hr => ?_,?_⟩
          · obtain ⟨r1,hr1,rfl⟩:=List.mem_map.mp hr
            rw [rwPut_2]
            by_cases e:r1.1=mk ls (.of y as)
            · have:r1=r0:=map_inj ag.nod hr1 hr0 (e.trans em.symm)
              subst this
              refine ⟨?_,g2⟩
              rw [upd_same]
              unfold rwPut
              rw [if_pos e,List.map_append];rfl
            · obtain ⟨k1,k2⟩:=rw3.at_ r1 hr1
              refine ⟨?_,k2⟩
              rw [upd_ne (fun z=>e (by rw [map_inj rw3.nod hr1 hr0 z];exact em)),k1]
              unfold rwPut
              rw [if_neg e]
          · rw [List.map_map]
            have:(fun r=>(rwPut (mk ls (.of y as)) i r).2.1)=fun r:Rw=>r.2.1:=funext fun r=>rwPut_2 _ i r
            show (rs.map fun r=>(rwPut (mk ls (.of y as)) i r).2.1).Nodup
            rw [this];exact rw3.nod
      · have nx:=val_kvR.2 hn
        obtain ⟨ψ,ep⟩:=dn3.ext
        have hc4:(upd H3 p (.ext φ2)) c=some (.lst []):=by rw [upd_ne (Ne.symm hpc)];exact hc3
        refine ⟨.inl ⟨rfl,_,SqL.of hc4⟩,_,rfl,c,_,_,rfl,rfl,hc4,small1000 (Nat.zero_le _),⟨rs ++ [(mk ls (.of y as),c, [i])],_,_,rfl,(smH3.put hp).put hcH,?_,ag.new mka nx c,?_⟩⟩
        · have:kvR (rs ++ [(mk ls (.of y as),c, [i])])=kvR rs ++ [(tmNK (mk ls (.of y as)),.ref c)]:=by unfold kvR;rw [List.map_append];rfl
          rw [this]
          exact dn4.keep (fun ψ e=>by rw [upd_ne hpc];exact e) (fun d ys e=>by rw [upd_ne (ne_of e hc4 (fun z=>nomatch z))];exact e)
        · refine ⟨fun r hr => ?_,?_⟩
          · rcases List.mem_append.mp hr with h1 | h1
            · obtain ⟨k1,k2⟩:=rw3.at_ r h1
              exact ⟨by rw [upd_ne (hcu r h1),upd_ne (ne_of k1 ep (fun z=>nomatch z))];exact k1,k2⟩
            · rw [List.mem_singleton.mp h1]
              exact ⟨upd_same,hcH⟩
          · rw [List.map_append,List.nodup_append]
            refine ⟨rw3.nod,List.nodup_cons.mpr ⟨List.not_mem_nil,List.nodup_nil⟩,fun x hx y hy e => ?_⟩
            obtain ⟨r,hr,er⟩:=List.mem_map.mp hx
            have hy:y=c:=List.mem_singleton.mp hy
            exact hcu r hr (er.trans (e.trans hy))
  · rintro σ H' ⟨rs,x3,x4,rfl,sm,dn,ag,rw_⟩
    rw [hut] at ag
    have lpl:=lp_few ag few
    have lpL:=lp_LP ag hnd
    -- their pairs
    refine ⟨(show 0≤sizeLine by decide),fun Z hZ => ?_⟩
    dsimp only [gName]
    have s5:=same_new hZ (.lst [])
    have hZ5:=upd_same (H:=H') (a:=Z) (o := .lst [])
    generalize upd H' Z (.lst [])=H5 at s5 hZ5 ⊢
    have sm5:=sm.trans s5
    have dn5:=dn.same s5
    have rw5:=rw_.same s5
    have hZ0:H Z=none:=sm.free hZ
    obtain ⟨ψ,ep⟩:=dn5.ext
    have hpZ:p≠Z:=ne_of ep hZ5 (fun z=>nomatch z)
    have hrZ:∀ r∈rs,r.2.1≠Z:=fun r hr z=>by have:=(rw_.at_ r hr).1;rw [z,hZ] at this;cases this
    refine ⟨_,rfl,p,_,rfl,dn5,fun ob dno => ?_⟩
    refine for_valsN (fun i σ H'=>LrI H5 Z [some (.ref T),some (.ref L),some (.ref p),x3,x4] (allP rs i) σ H') ⟨[], [none,none,none,none],rfl,rfl,But.refl Z H5,hZ5,.nil⟩ ?_ ?_ ?_
    · rintro i σ H' _ ⟨zs, τ2,rfl,_,bt,_⟩
      exact dno.keep (fun e=>bt _ _ hpZ e) (fun c ys e=>bt _ _ (ne_of e hZ5 (fun z=>nomatch z)) e)
    · rintro i kv σ H' hkv ⟨zs, τ2,rfl,lt2,bt,hzs,hpa⟩
      obtain ⟨r,hr,rfl⟩:∃ r,rs[i]? = some r∧(tmNK r.1,V.ref r.2.1)=kv:=by
        unfold kvR at hkv
        rw [List.getElem?_map] at hkv
        exact Option.map_eq_some_iff.mp hkv
      have hrm:=List.mem_of_getElem? hr
      have hrow:=bt _ _ (hrZ r hrm) (rw5.at_ r hrm).1
      obtain ⟨y6,y7,y8,y9,rfl⟩:∃ y6 y7 y8 y9, τ2 = [y6,y7,y8,y9]:=by
        match τ2,lt2 with
        | [a,b,c,d],_=>exact ⟨a,b,c,d,rfl⟩
      have nxt:=all_succ hr
      have lle:=all_mono rs (i+1)
      rw [nxt,List.length_append] at lle
      dsimp only [gName]
      refine ⟨_,rfl,r.2.1,rfl,⟨_,SqL.of hrow⟩,?_⟩
      have hrow5:=(rw5.at_ r hrm).1
      refine for_enum (xs:=r.2.2.map nV) (fun j σ H'=>LsI H5 Z [some (.ref T),some (.ref L),some (.ref p),x3,x4,some (.ref Z),some (.ref r.2.1)] (allP rs i ++ prsF r.2.2 j) σ H') ⟨zs,y7,y8,y9,rfl,bt,hzs,by show PairsAt H' zs (allP rs i ++ []);rw [List.append_nil];exact hpa⟩ ?_ ?_ ?_
      · rintro j σ H'' _ ⟨zs,x7,x8,x9,rfl,bt,_⟩
        exact SqL.of (bt _ _ (hrZ r hrm) hrow5)
      · rintro j x a0 σ H'' hx ⟨zs,x7,x8,x9,rfl,bt,hzs,hpa⟩ ha0
        obtain ⟨b,hb,rfl⟩:∃ b,r.2.2[j]? = some b∧nV b=x:=by
          rw [List.getElem?_map] at hx
          exact Option.map_eq_some_iff.mp hx
        have hjl:=(List.getElem?_eq_some_iff.mp hb).1
        have s6:=same_new ha0 (.tup [.int (j:Int),nV b])
        refine ⟨a0,_,rfl,SqT.of upd_same,rfl,_,_,rfl,_,_,rfl,rfl,?_⟩
        generalize upd H'' a0 (.tup [.int (j:Int),nV b])=H6 at s6 ⊢
        have bt6:=bt.same s6
        have hzs6:=s6 _ _ hzs
        have hpa6:=pairs_keep hpa fun c ys e=>s6 _ _ e
        dsimp only
        refine ⟨_,rfl,_,rfl,_,rfl,r.2.1,_,rfl,SqL.of (bt6 _ _ (hrZ r hrm) hrow5),fun c hc => ?_⟩
        rw [cut_nat]
        have s7:=same_new hc (.lst ((r.2.2.take j).map nV))
        have hc7:=upd_same (H:=H6) (a:=c) (o := .lst ((r.2.2.take j).map nV))
        have hcZ:c≠Z:=fun z=>by rw [z,hzs6] at hc;cases hc
        generalize upd H6 c (.lst ((r.2.2.take j).map nV))=H7 at s7 hc7 ⊢
        have hgd:r.2.2.getD j 0=b:=by rw [List.getD_eq_getElem?_getD,hb];rfl
        have pl:=prs_mono r.2.2 (j:=j+1) (j':=r.2.2.length) (by omega)
        rw [prs_succ,hgd,List.length_append,List.length_map,List.length_take] at pl
        refine ⟨c,rfl,⟨_,SqL.of hc7⟩,?_⟩
        refine for_list (xs:=(r.2.2.take j).map nV) (fun k σ H'=>LtI H7 Z [some (.ref T),some (.ref L),some (.ref p),x3,x4,some (.ref Z),some (.ref r.2.1),some (nV j),some (nV b)] (allP rs i ++ prsF r.2.2 j ++ ((r.2.2.take k).map fun a=>(a,b))) σ H') ⟨zs,x9,rfl,But.refl Z H7,s7 _ _ hzs6,by rw [List.take_zero,List.map_nil,List.append_nil];exact pairs_keep hpa6 fun c ys e=>s7 _ _ e⟩ ?_ ?_ ?_
        · rintro k σ H8 _ ⟨zs,x9,rfl,bt8,_⟩
          exact SqL.of (bt8 _ _ hcZ hc7)
        · rintro k x σ H8 hx ⟨zs,x9,rfl,bt8,hzs8,hpa8⟩
          obtain ⟨a,ha,rfl⟩:∃ a,(r.2.2.take j)[k]? = some a∧nV a=x:=by
            rw [List.getElem?_map] at hx
            exact Option.map_eq_some_iff.mp hx
          have hkj:k < j:=by
            have:=(List.getElem?_eq_some_iff.mp ha).1
            rw [List.length_take] at this;omega
          have ha':r.2.2[k]? = some a:=by rw [List.getElem?_take,if_pos hkj] at ha;exact ha
          dsimp only [gName]
          refine ⟨_,rfl,.inl ⟨rfl,_,SqL.of hzs8⟩,_,rfl,_,rfl,(show 2≤sizeLine by decide),fun t ht => ?_⟩
          have s9:=same_new ht (.tup [nV a,nV b])
          have ht9:=upd_same (H:=H8) (a:=t) (o := .tup [nV a,nV b])
          generalize upd H8 t (.tup [nV a,nV b])=H9 at s9 ht9 ⊢
          have hz9:=s9 _ _ hzs8
          have hl:=Paired.length hpa8
          rw [List.length_append,List.length_append,List.length_map,List.length_take] at hl
          have kt:∀ c ys,H9 c=some (.tup ys)→(upd H9 Z (.lst (zs ++ [.ref t]))) c=some (.tup ys):=fun c ys e=>by rw [upd_ne (ne_of e hz9 (fun z=>nomatch z))];exact e
          refine ⟨Z,_,_,rfl,rfl,hz9,small1000 (by omega),⟨_,_,rfl,(bt8.same s9).put,upd_same,?_⟩⟩
          rw [take_snocP ha',List.map_append, ← List.append_assoc]
          exact paired_app (pairs_keep (pairs_keep hpa8 fun c ys e=>s9 _ _ e) kt) (.cons ⟨t,rfl,kt _ _ ht9⟩ .nil)
        · rintro σ H8 ⟨zs,x9,rfl,bt8,hzs8,hpa8⟩
          refine ⟨zs,_,_,_,rfl,fun c u n e=>bt8 c u n (s7 c u (bt6 c u n e)),hzs8,?_⟩
          rw [prs_succ,hgd, ← List.append_assoc]
          rw [List.length_map,List.length_take,Nat.min_eq_left (by omega)] at hpa8
          exact hpa8
      · rintro σ H'' ⟨zs,x7,x8,x9,rfl,bt,hzs,hpa⟩
        refine ⟨zs, [_,_,_,_],rfl,rfl,bt,hzs,?_⟩
        rw [nxt]
        rw [List.length_map] at hpa
        exact hpa
    · rintro σ H' ⟨zs, τ2,rfl,_,bt,hzs,hpa⟩
      have kl:(kvR rs).length=rs.length:=by unfold kvR;rw [List.length_map]
      rw [kl] at hpa
      refine ⟨_,rfl,q _ Z zs H' (fun c u e=>bt c u (fun z=>by rw [z,hZ0] at e;cases e) (sm5 c u e)) hZ0 hzs hpa lpl lpL⟩
end

end K21
namespace K21
open PySem L2 Sw
section
variable {P:Program} {w:World} {K:PySem.W.Frag} {mg:Str→Option Value} {base:Heap} {CS:Addr}
noncomputable abbrev WEdAt (H:Hp):List V→List WEd→Prop:=Paired fun v e=>∃ q c,v=V.ref q∧H q=some (.tup [nV e.1,nV e.2.1,nV e.2.2,c])
structure LenOk (ts:List Tm) (es:List WEd) (ls:List Nat):Prop where
  few:ts.length≤30
  nod:ts.Nodup
  arms:Arms ts
  sml:∀ (i:Nat) x as,ts[i]? = some (.of x as)→as.length≤1000
  len:ls.length=ts.length
  es_:∀ e∈es,e.1 < ts.length∧e.2.1 < ts.length∧1≤e.2.2
  lead:∀ a b k,Der ts es a b k→a < ts.length→b < ts.length→ls.getD a 0=ls.getD b 0
theorem LenOk.armlt {ts:List Tm} {es:List WEd} {ls:List Nat} (ok:LenOk ts es ls) {i:Nat} {x:Str} {as:List Nat} (e:ts[i]? = some (.of x as)) {a:Nat} (ha:a∈as):a < ts.length:=Nat.lt_trans (ok.arms i x as e a ha) (List.getElem?_eq_some_iff.mp e).1
inductive SpLengths (vs:List V) (H:Hp) (Q:VK):Prop
  | mk (T L Ed:Addr) (us:List V) (ts:List Tm) (ls:List Nat) (ev:List V) (es:List WEd) (z0:vs = [.ref T,.ref L,.ref Ed]) (z1:H T=some (.lst us)) (z2:Tms H us ts) (z3:H L=some (.lst (ls.map nV))) (z4:H Ed=some (.lst ev)) (z5:WEdAt H ev es) (z6:LenOk ts es ls)
    (z7:∀ (R:Addr) (rows:List Addr) (H':Hp),Same H H'→H' R=some (.lst (rows.map V.ref))→rows.length=ts.length→(∀ (a:Nat) (c:Addr),rows[a]? = some c→H' c=some (.lst (rowV (distF ts es) ts.length a))∧H c=none)→Q (.ref R) H'):SpLengths vs H Q
noncomputable def spLengths:Sp:=fun vs H Q _=>SpLengths vs H Q
theorem off_snoc {s:SS} {es:List WEd} {i:Nat} {e:WEd} (h:es[i]? = some e):offEF s (es.take (i+1))=tryF (offEF s (es.take i)) e.1 e.2.1 e.2.2 true:=by
  unfold offEF
  rw [take_snocP h,List.foldl_append];rfl
theorem diag_off {n:Nat}:∀ {l:List WEd} {s:SS},(∀ e∈l,e.1 < n)→DiagOk n s→DiagOk n (offEF s l)
  | [],s,_,h=>h
  | e :: l,s,hl,h=>diag_off (l:=l) (fun e he=>hl e (List.mem_cons_of_mem _ he)) (diag_try h (hl e List.mem_cons_self))
theorem st_off:∀ (l:List WEd) (s:SS),(offEF s l).St=s.St
  | [],s=>rfl
  | e :: l,s=>(st_off l _).trans (st_try s e.1 e.2.1 e.2.2 true).1
noncomputable def awL (ts:List Tm) (lp:List (Nat × Nat)):Nat × Nat→List (Nat × Nat):=fun q=>lp.filter fun p=>decide (q∈ndT ts p)
theorem awL_snoc {ts:List Tm} {lp:List (Nat × Nat)} {i:Nat} {p:Nat × Nat} (h:lp[i]? = some p):awAll (awL ts (lp.take i)) (ndT ts p) p=awL ts (lp.take (i+1)):=by
  funext q
  unfold awAll awL
  rw [take_snocP h,List.filter_append]
  by_cases e:q∈ndT ts p
  · rw [if_pos e,List.filter_cons_of_pos (p:=fun p=>decide (q∈ndT ts p)) (decide_eq_true e)];rfl
  · rw [if_neg e,List.filter_cons_of_neg (p:=fun p=>decide (q∈ndT ts p)) (by rw [decide_eq_false e];decide)];exact (List.append_nil _).symm
theorem lkL_snoc {ts:List Tm} {lp:List (Nat × Nat)} {i:Nat} {p:Nat × Nat} (h:lp[i]? = some p):(fun r=>if r=p then some (ndT ts p).length else lkF (lp.take i) (fun p=>(ndT ts p).length) r)=lkF (lp.take (i+1)) (fun p=>(ndT ts p).length):=by
  funext r
  unfold lkF
  rw [take_snocP h]
  by_cases e:r=p
  · subst e;rw [if_pos rfl,if_pos (List.mem_append.mpr (.inr (List.mem_singleton_self _)))]
  · rw [if_neg e]
    by_cases hr:r∈lp.take i
    · rw [if_pos hr,if_pos (List.mem_append.mpr (.inl hr))]
    · rw [if_neg hr,if_neg (fun z=>(List.mem_append.mp z).elim hr fun z=>e (List.mem_singleton.mp z))]
inductive LaI (P:Program) (w:World) (CS o dx:Addr) (A:SA) (us:List V) (ts:List Tm) (H:Hp) (τ : St) (es:List WEd) (i:Nat) (σ : St) (H':Hp):Prop
  | mk (x4:Option V):(σ = τ ++ [x4,none,none])→ButS A H H'→SeAt P w CS o dx A us ts (fun _ => []) H' (offEF (start0 ts.length) (es.take i)) (fun _=>none)→LaI P w CS o dx A us ts H τ es i σ H'
inductive LbI (P:Program) (w:World) (A:SA) (ts:List Tm) (H:Hp) (τ : St) (lp:List (Nat × Nat)) (i:Nat) (σ : St) (H':Hp):Prop
  | mk (x5 x6:Option V):(σ = τ ++ [x5,x6])→AwX P w H A ts.length (awL ts (lp.take i)) (lkF (lp.take i) fun p=>(ndT ts p).length) H'→LbI P w A ts H τ lp i σ H'
theorem ok_lengths (B:Blt mg) (Z:TopSe K mg CS) (h_init:HasC P w K mg base 1 "Search" CS ["self", "terms"] (spSInit P w CS)) (h_offer_step:HasM P w K mg base 2 CS "offer_step" ["self", "a", "b", "length"] (spStep P w CS)) (h_like_pairs:Has P w K mg base 2 "like_pairs" ["terms", "leads"] spLike) (h_await_arms:HasM P w K mg base 2 CS "await_arms" ["self", "a", "b"] (spAwait P w CS)) (h_settle_all:HasM P w K mg base 4 CS "settle_all" ["self"] (spSAll P w CS))
    (D:Def K mg "lengths" s_lengths ["terms", "leads", "edges"]):Has P w K mg base 5 "lengths" ["terms", "leads", "edges"] spLengths:=by
  have cS:=Z.cS
  refine D.has sc_lengths (fun vs H Q E h => ?_) (fun f cdv A outer s H vs Q E hr h => ?_)
  · obtain ⟨T,L,Ed,us,ts,ls,ev,es,rfl,_⟩:=h;rfl
  obtain ⟨T,L,Ed,us,ts,ls,ev,es,rfl,hT,hts,hL,hE,hes,ok,q⟩:=h
  refine ⟨_,(pss_cons (ps_set (i:=3) sc_lengths.nd rfl (Or.inl rfl) (pe_makeE h_init hr (by omega) passNo rfl (pa_cons (pv 0) pa_nil)))
    (pss_cons (ps_for PassesOwn.never rfl (pi_list (pv 2)) (pg_name (i:=4) sc_lengths.nd rfl (Or.inl rfl))
    (pss_one (ps_expr (pe_mE h_offer_step cS hr (by omega) passNo (pv 3) (pa_cons (pe_ix ix_tup (pv 4) pe_int (fun _ _=>rfl)) (pa_cons (pe_ix ix_tup (pv 4) pe_int (fun _ _=>rfl)) (pa_cons (pe_ix ix_tup (pv 4) pe_int (fun _ _=>rfl)) pa_nil)))))))
    (pss_cons (ps_for PassesOwn.never rfl (pi_list (pe_callH h_like_pairs hr (by omega) rfl (pa_cons (pv 0) (pa_cons (pv 1) pa_nil)))) (pg_tup rfl (pgs_cons (pg_name (i:=5) sc_lengths.nd rfl (Or.inl rfl)) (pgs_cons (pg_name (i:=6) sc_lengths.nd rfl (Or.inl rfl)) pgs_nil)))
    (pss_one (ps_expr (pe_mE h_await_arms cS hr (by omega) passNo (pv 3) (pa_cons (pv 5) (pa_cons (pv 6) pa_nil))))))
    (pss_cons (ps_expr (pe_mE0 h_settle_all cS hr (by omega) passNo (pv 3)))
    (pss_one (ps_ret (pe_fld (pv 3) rfl))))))),?_⟩
  try dsimp only [cxOf]
  refine ⟨_,rfl,fun o dx ho hdx hne => ?_⟩
  have sm1:Same H (upd (upd H dx (.own o)) o (.ins CS dx [])):=fun c u e=>by rw [upd_ne (ne_of_none e ho),upd_ne (ne_of_none e hdx)];exact e
  have ho1:(upd (upd H dx (.own o)) o (.ins CS dx [])) o=some (.ins CS dx []):=upd_same
  generalize upd (upd H dx (.own o)) o (.ins CS dx [])=H1 at sm1 ho1 ⊢
  refine ⟨o,dx,T,us,ts,rfl,ho1,sm1 _ _ hT,tms_same sm1 hts,ok.few,fun A H2 eT b2 se2 own dA2=>⟨rfl,?_⟩⟩
  have b2:Same H H2:=fun c u e=>b2 c u (ne_of_none e ho) (sm1 c u e)
  have own:∀ c u,H c=some u→¬ OwnsS A c∧c≠A.Aw:=fun c u e=>own c u (sm1 c u e)
  dsimp only [gName]
  -- the edges
  refine ⟨_,rfl,Ed,rfl,⟨_,SqL.of (b2 _ _ hE)⟩,?_⟩
  refine for_list (xs:=ev) (LaI P w CS o dx A us ts H2 [some (.ref T),some (.ref L),some (.ref Ed),some (.ref o)] es) ⟨none,rfl,fun c u _ e=>e,se2⟩ ?_ ?_ ?_
  · rintro i σ H' _ ⟨x4,rfl,bt,_⟩
    exact SqL.of (bt _ _ (own _ _ hE).1 (b2 _ _ hE))
  · rintro i v σ H' hv ⟨x4,rfl,bt,se⟩
    obtain ⟨e,he,qe,c,rfl,hqe⟩:=Paired.at hes hv
    obtain ⟨e1,e2,e3⟩:=ok.es_ e (List.mem_of_getElem? he)
    have hq':=bt _ _ (own _ _ hqe).1 (b2 _ _ hqe)
    have dg:DiagOk ts.length (offEF (start0 ts.length) (es.take i)):=diag_off (fun e he=>(ok.es_ e (List.mem_of_mem_take he)).1) (fun x hx=>if_pos ⟨rfl,hx⟩)
    have nx:=off_snoc (s:=start0 ts.length) he
    dsimp only [gName]
    refine ⟨_,rfl,o,dx,_,rfl,se.ins,rfl,_,rfl,qe,_,0,_,rfl,rfl,SqT.of hq',atI_nat (j:=0) rfl,_,rfl,qe,_,1,_,rfl,rfl,SqT.of hq',atI_nat (j:=1) rfl,_,rfl,qe,_,2,_,rfl,rfl,SqT.of hq',atI_nat (j:=2) rfl,?_⟩
    refine ⟨o,dx,A,us,ts,_,_,_,e.1,e.2.1,e.2.2,rfl,se,e1,e2,fun z=>by rw [← z];exact diag_less dg e1,fun H3 b3 h3=>⟨_,rfl,bt.trans (ButS.of b3),?_⟩⟩
    rw [nx];exact h3
  · rintro σ H3 ⟨x4,rfl,bt,se⟩
    have lv:ev.length=es.length:=Paired.length hes
    rw [lv,List.take_length] at se
    have k3:Same H H3:=fun c u e=>bt c u (own c u e).1 (b2 c u e)
    -- the like pairs
    refine ⟨_,rfl,_,rfl,T,L,us,ts,ls,rfl,k3 _ _ hT,tms_same k3 hts,k3 _ _ hL,fun i x as e=>⟨ok.sml i x as e,fun a ha=>by rw [ok.len];exact ok.armlt e ha⟩,ok.few,ok.nod,fun lp D1 vs1 H4 s4 hD0 hD4 hp4 lpl lpL => ?_⟩
    have se4:=se.same s4
    refine ⟨D1,rfl,⟨_,SqL.of hD4⟩,?_⟩
    have nD1:D1≠A.Aw∧D1≠A.Lk:=by
      obtain ⟨ka,d0,_⟩:=se4.aw_
      obtain ⟨kl,l0⟩:=se4.lk_
      obtain ⟨φ,e1⟩:=d0.ext
      obtain ⟨ψ,e2⟩:=l0.dn.ext
      exact ⟨ne_of hD4 e1 (fun z=>nomatch z),ne_of hD4 e2 (fun z=>nomatch z)⟩
    have tupA:∀ {c ys},H4 c=some (.tup ys)→c≠A.Aw∧c≠A.Lk:=fun {c ys} e=>by
      obtain ⟨ka,d0,_⟩:=se4.aw_
      obtain ⟨kl,l0⟩:=se4.lk_
      obtain ⟨φ,e1⟩:=d0.ext
      obtain ⟨ψ,e2⟩:=l0.dn.ext
      exact ⟨ne_of e e1 (fun z=>nomatch z),ne_of e e2 (fun z=>nomatch z)⟩
    refine for_list (xs:=vs1) (LbI P w A ts H4 [some (.ref T),some (.ref L),some (.ref Ed),some (.ref o),x4] lp) ⟨none,none,rfl,?_⟩ ?_ ?_ ?_
    · obtain ⟨kl,l0⟩:=se4.lk_
      refine ⟨fun c u _ _ e=>e,⟨[],?_,(fun kv hkv=>nomatch hkv),fun q => .inl ⟨rfl,rfl⟩,(fun q q' c z=>nomatch z)⟩,kl,?_⟩
      · obtain ⟨φ,eA⟩:=dA2.ext
        have nA:¬ OwnsS A A.Aw:=by
          rintro ((z | z | z | z) | z | z)
          · obtain ⟨i,hi⟩:=List.getElem?_of_mem z
            have:=se2.rL i _ hi
            rw [eA] at this;cases this
          · obtain ⟨i,hi⟩:=List.getElem?_of_mem z
            obtain ⟨_,this,_⟩:=se2.rW i _ hi
            rw [eA] at this;cases this
          · obtain ⟨_,this,_⟩:=se2.hH
            rw [← z,eA] at this;cases this
          · exact se2.sep.e1 z.symm
          · obtain ⟨i,hi⟩:=List.getElem?_of_mem z
            obtain ⟨_,this,_⟩:=se2.rS i _ hi
            rw [eA] at this;cases this
          · exact se2.sep.e3 z
        exact dA2.keep (fun φ e=>s4 _ _ (bt _ _ nA e)) (fun c ys e=>s4 _ _ (bt _ _ (se2.tupOff e) e))
      · exact ⟨l0.dn,fun p=>by rw [l0.val];unfold lkF;rw [List.take_zero,if_neg List.not_mem_nil],l0.key⟩
    · rintro i σ H' _ ⟨x5,x6,rfl,hx⟩
      exact SqL.of (hx.fr _ _ nD1.1 nD1.2 hD4)
    · rintro i v σ H' hv ⟨x5,x6,rfl,hx⟩
      obtain ⟨pq,hpq,pa,rfl,hpa⟩:=Paired.at hp4 hv
      have hpa':=hx.fr _ _ (tupA hpa).1 (tupA hpa).2 hpa
      have hm:=List.mem_of_getElem? hpq
      obtain ⟨hlt,x,as,bs,ta,tb,hl⟩:=lpL.at_ pq hm
      have seX:=hx.se se4
      refine ⟨pa,_,rfl,SqT.of hpa',rfl,_,_,rfl,_,_,rfl,rfl,?_⟩
      dsimp only
      refine ⟨_,rfl,o,dx,_,rfl,seX.ins,rfl,_,rfl,_,rfl,o,dx,A,us,ts,_,_,_,_,_,H4,pq.1,pq.2,x,x,as,bs,rfl,se4,hx,ta,tb,hl,ok.sml _ _ _ ta,fun r hr => ?_,fun q => ?_,fun H' hx'=>⟨_,_,rfl,?_⟩⟩
      · have eu:unlT ts pq.1 pq.2=unlF as bs:=by unfold unlT;rw [ta,tb];rfl
        rw [eu] at hr
        obtain ⟨_,k,h1,h2⟩:=unl_mem.mp hr
        exact ⟨ok.armlt ta (List.mem_of_getElem? h1),ok.armlt tb (List.mem_of_getElem? h2)⟩
      · unfold awL
        refine Nat.le_trans (List.length_filter_le ..) ?_
        rw [List.length_take];omega
      · rw [awL_snoc hpq,lkL_snoc hpq] at hx'
        exact hx'
    · rintro σ H5 ⟨x5,x6,rfl,hx⟩
      have lv:vs1.length=lp.length:=Paired.length hp4
      rw [lv,List.take_length] at hx
      have se5:=hx.se se4
      have rd:Rdy P w CS o dx A us ts es ls lp (ndT ts) (awL ts lp) H5 (offEF (start0 ts.length) es) (fun p=>(ndT ts p).length):=⟨se5,all_start lpL ok.es_,fun x=>by rw [st_off];exact Nat.zero_le _⟩
      have fx:Fix ts ls lp (ndT ts) (awL ts lp):=⟨lpL,fun q=>(List.filter_sublist).nodup lpL.nodup,fun q p=>by unfold awL;rw [List.mem_filter,decide_eq_true_iff],fun i x as e=>⟨ok.sml i x as e,fun a ha=>ok.armlt e ha⟩⟩
      refine ⟨_,rfl,o,dx,_,rfl,se5.ins,rfl,o,dx,A,us,ts,es,ls,lp,ndT ts,awL ts lp,_,_,rfl,rd,fx,fun s6 lk6 H6 b6 r6 nohd => ?_⟩
      have se6:=r6.at_
      have fin:∀ a b,a < ts.length→s6.L a b=distF ts es a b:=fun a b ha=>all_end r6.all lpL ok.es_ ok.arms ok.lead nohd ha
      refine ⟨_,rfl,o,CS,dx,_,_,rfl,se6.ins,Z.cS,Z.nLeast,rfl,q A.L A.Lr H6 (fun c u e => ?_) se6.hL se6.lL (fun a c hc=>⟨?_,?_⟩)⟩
      · obtain ⟨n1,n2⟩:=own c u e
        exact b6 c u n1 (hx.fr c u n2 (fun z=>n1 (.inr (.inr z))) (s4 c u (k3 c u e)))
      · rw [se6.rL a c hc]
        have ha:a < ts.length:=by rw [← se6.lL];exact (List.getElem?_eq_some_iff.mp hc).1
        unfold rowV
        congr 2
        exact List.map_congr_left fun b _=>by rw [fin a b ha]
      · cases e:H c with
        | none=>rfl
        | some u=>exact absurd (.inl (.inl (List.mem_of_getElem? hc))) (own c u e).1
end

end K21
namespace K21
open PySem L2 Sw
section
variable {P:Program} {w:World} {K:PySem.W.Frag} {mg:Str→Option Value} {base:Heap}
noncomputable def drawZ (c p m:Int):Int:=c % p * 48271 % p % m
theorem drawZ_nn (c p:Int) {m:Int} (h:0 < m):0≤drawZ c p m:=Int.emod_nonneg _ (by omega)
theorem drawZ_lt (c p:Int) {m:Int} (h:0 < m):drawZ c p m < m:=Int.emod_lt_of_pos _ h
inductive SpDraw (vs:List V) (H:Hp) (Q:VK):Prop
  | mk (c p m:Int) (z0:vs = [.int c,.int p,.int m]) (z1:0 < p) (z2:p < 20000) (z3:0 < m) (z4:Q (.int (drawZ c p m)) H):SpDraw vs H Q
noncomputable def spDraw:Sp:=fun vs H Q _=>SpDraw vs H Q
theorem ok_draw (D:Def K mg "_law_draw" s_draw ["_law_cell", "_law_prime", "_law_many"]):Has P w K mg base 1 "_law_draw" ["_law_cell", "_law_prime", "_law_many"] spDraw:=by
  refine D.has sc_draw (fun vs H Q E h => ?_) (fun f cdv A outer s H vs Q E hr h => ?_)
  · obtain ⟨c,f,m,rfl,_⟩:=h;rfl
  obtain ⟨c,p,m,rfl,h0,h1,h2,q⟩:=h
  refine ⟨_,(pss_one (ps_ret (pe_op op_mod (pe_op op_mod (pe_op op_mul (pe_op op_mod (pv 0) (pv 1)) pe_int) (pv 1)) (pv 2)))),?_⟩
  try dsimp only [cxOf]
  have a0:0≤c % p:=Int.emod_nonneg _ (by omega)
  have a1:c % p < p:=Int.emod_lt_of_pos _ h0
  exact ⟨_,rfl,_,rfl,_,_,rfl,rfl,h0,_,_,rfl,rfl,.inl ⟨by omega,by omega⟩,_,rfl,_,_,rfl,rfl,h0,_,rfl,_,_,rfl,rfl,h2,q⟩
noncomputable def mmS (c:Int):Str:=Txt.slice "mmmmmmm" none (some (drawZ c 10007 8))
noncomputable def mmP (c:Int):Int:=drawZ c 10009 ((mmS c).length+1)
noncomputable def wordZ (c k:Int):Str:=Txt.slice (mmS c) none (some (mmP c)) ++ letF k ++ Txt.slice (mmS c) (some (mmP c)) none
theorem slice_le (x:Str) (lo hi:Option Int):(Txt.slice x lo hi).length≤x.length:=by
  show (Txt.slice x lo hi).cps.size≤x.cps.size
  rw [← Array.length_toList,slice_cps,List.length_take,List.length_drop,Array.length_toList]
  omega
theorem mm7 (c:Int):(mmS c).length≤7:=Nat.le_trans (slice_le _ _ _) (by decide)
theorem word_ne (c:Int):wordZ c 0≠wordZ c 1:=fun e=>by
  have e1:(wordZ c 0).cps.toList=(wordZ c 1).cps.toList:=by rw [e]
  unfold wordZ at e1
  generalize Txt.slice (mmS c) none (some (mmP c))=a at e1
  generalize Txt.slice (mmS c) (some (mmP c)) none=b at e1
  have ap:∀ x y:Str,(x ++ y).cps.toList=x.cps.toList ++ y.cps.toList:=fun x y=>by show (x.cps ++ y.cps).toList=_;exact Array.toList_append
  rw [ap,ap,ap,ap] at e1
  have e2:=List.append_cancel_right e1
  have e3:=List.append_cancel_left e2
  exact absurd e3 (by decide +kernel)
inductive SpWord (vs:List V) (H:Hp) (Q:VK):Prop
  | mk (k c:Int) (z0:vs = [.int k,.int c]) (z4:Q (.str (wordZ c k)) H):SpWord vs H Q
noncomputable def spWord:Sp:=fun vs H Q _=>SpWord vs H Q
theorem ok_word (B:Blt mg) (h_draw:Has P w K mg base 1 "_law_draw" ["_law_cell", "_law_prime", "_law_many"] spDraw) (D:Def K mg "_law_word" s_word ["_law_k", "_law_cell"]):Has P w K mg base 2 "_law_word" ["_law_k", "_law_cell"] spWord:=by
  refine D.has sc_word (fun vs H Q E h => ?_) (fun f cdv A outer s H vs Q E hr h => ?_)
  · obtain ⟨k,c,rfl,_⟩:=h;rfl
  obtain ⟨k,c,rfl,q⟩:=h
  refine ⟨_,(pss_cons (ps_set (i:=2) sc_word.nd rfl (Or.inl rfl) (pe_slice sl_str pe_str po_none (po_some (pe_callH h_draw hr (by omega) rfl (pa_cons (pv 1) (pa_cons pe_int (pa_cons pe_int pa_nil)))))))
    (pss_cons (ps_set (i:=3) sc_word.nd rfl (Or.inl rfl) (pe_callH h_draw hr (by omega) rfl (pa_cons (pv 1) (pa_cons pe_int (pa_cons (pe_op op_add (pe_callB call_len_str rfl B.len_ PySem.boot_len (pa_cons (pv 2) pa_nil)) pe_int) pa_nil)))))
    (pss_one (ps_ret (pe_op op_add_str (pe_op op_add_str (pe_slice sl_str (pv 2) po_none (po_some (pv 3))) (pe_ix ix_str pe_str (pe_op op_mod (pv 0) pe_int) (fun _ _=>rfl))) (pe_slice sl_str (pv 2) (po_some (pv 3)) po_none)))))),?_⟩
  try dsimp only [cxOf]
  have big:(1000:Nat)≤sizeLine:=by decide
  have l7:=mm7 c
  refine ⟨_,rfl,c,10007,8,rfl,by decide,by decide,by decide,_,rfl,_,rfl,(by decide),?_⟩
  dsimp only [gName]
  refine ⟨_,rfl,_,rfl,_,rfl,(show (mmS c).length≤sizeLine by omega),_,_,rfl,rfl,c,10009,_,rfl,by decide,by decide,(show (0:Int) < ((mmS c).length:Int)+1 by omega),?_⟩
  dsimp only [gName]
  have l1:=slice_le (mmS c) none (some (mmP c))
  have l2:=slice_le (mmS c) (some (mmP c)) none
  have hz:("abcdefghijklmnopqrstuvwxyz" : Str).length≤sizeLine:=by decide +kernel
  refine ⟨_,rfl,_,rfl,_,rfl,_,rfl,(show (mmS c).length≤sizeLine by omega),_,rfl,_,_,rfl,rfl,pos',_,_,_,rfl,rfl,hz,abcF_at k,_,_,rfl,rfl,?_,?_⟩
  · show (Txt.slice (mmS c) none (some (mmP c))).length+(letF k).length≤sizeLine
    have:(letF k).length=1:=rfl
    omega
  refine ⟨_,rfl,_,rfl,_,rfl,_,rfl,(show (mmS c).length≤sizeLine by omega),_,_,rfl,rfl,?_,q⟩
  show (Txt.slice (mmS c) none (some (mmP c)) ++ letF k).length+(Txt.slice (mmS c) (some (mmP c)) none).length≤sizeLine
  have:(letF k).length=1:=rfl
  rw [Str.length_append]
  omega
end

end K21
namespace K21
open PySem L2 Sw
section
variable {P:Program} {w:World} {K:PySem.W.Frag} {mg:Str→Option Value} {base:Heap}
inductive SpTerm (vs:List V) (H:Hp) (Q:VK):Prop
  | mk (c s:Int) (many:Nat) (z0:vs = [.int c,.int s,nV many]) (z1:0 < many) (z4:∀ t v H',Same H H'→IsTm H' t v→(∀ x as,t = .of x as→as.length≤4∧∀ a∈as,a < many)→Q v H'):SpTerm vs H Q
noncomputable def spTerm:Sp:=fun vs H Q _=>SpTerm vs H Q
theorem ok_term (B:Blt mg) (h_draw:Has P w K mg base 1 "_law_draw" ["_law_cell", "_law_prime", "_law_many"] spDraw) (h_word:Has P w K mg base 2 "_law_word" ["_law_k", "_law_cell"] spWord) (D:Def K mg "_law_term" s_term ["_law_cell", "_law_seed", "_law_many"]):Has P w K mg base 3 "_law_term" ["_law_cell", "_law_seed", "_law_many"] spTerm:=by
  refine D.has sc_term (fun vs H Q E h => ?_) (fun f cdv A outer s H vs Q E hr h => ?_)
  · obtain ⟨c,s,many,rfl,_⟩:=h;rfl
  obtain ⟨c,s,many,rfl,hm,q⟩:=h
  refine ⟨_,(pss_cons (ps_set (i:=3) sc_term.nd rfl (Or.inl rfl) (pe_callH h_draw hr (by omega) rfl (pa_cons (pv 0) (pa_cons pe_int (pa_cons pe_int pa_nil)))))
    (pss_cons (ps_if (pt_cmpR op_eq (pv 3) pe_int (nomark _)) (pss_one (ps_ret (pe_tup (pa_cons pe_str (pa_cons (pe_callH h_word hr (by omega) rfl (pa_cons (pe_op op_add pe_int (pe_callH h_draw hr (by omega) rfl (pa_cons (pv 0) (pa_cons pe_int (pa_cons pe_int pa_nil))))) (pa_cons (pv 1) pa_nil))) pa_nil))))) pss_nil)
    (pss_cons (ps_if (pt_cmpR op_eq (pv 3) pe_int (nomark _)) (pss_cons (ps_set (i:=4) sc_term.nd rfl (Or.inl rfl) (pe_op op_mod (pe_op op_fdiv (pv 0) pe_int) (pe_op op_pow pe_int pe_int)))
    (pss_one (ps_ret (pe_tup (pa_cons pe_str (pa_cons (pe_ifExp (pt_cmpR op_eq (pe_callH h_draw hr (by omega) rfl (pa_cons (pv 0) (pa_cons pe_int (pa_cons pe_int pa_nil)))) pe_int (nomark _)) (pv 4) (pe_un un_neg (pv 4))) pa_nil)))))) pss_nil)
    (pss_cons (ps_set (i:=5) sc_term.nd rfl (Or.inl rfl) (pe_ix ix_tup (pe_tup (pa_cons pe_int (pa_cons pe_int (pa_cons pe_int (pa_cons pe_int (pa_cons pe_int (pa_cons pe_int (pa_cons pe_int (pa_cons pe_int pa_nil))))))))) (pe_callH h_draw hr (by omega) rfl (pa_cons (pv 0) (pa_cons pe_int (pa_cons pe_int pa_nil)))) (fun _ _=>rfl)))
    (pss_cons (ps_setComp (i:=6) sc_term.nd rfl rfl (te:=(tCall _ _ _ (tCons _ (tCons _ (tCons _ tNil))))) (own := ["_law_prime"]) (caps := [("_law_cell",0),("_law_many",2)]) (comp_scope (defScope s_term) ["_law_cell", "_law_seed", "_law_many", "_law_kind", "_law_number", "_law_count", "_law_arms"] rfl rfl rfl (by decide +kernel)) (pi_tup (pe_tup (pa_cons pe_int (pa_cons pe_int (pa_cons pe_int (pa_cons pe_int pa_nil)))))) rfl (fun _ _ _=>pg_name (i:=0) (show (["_law_prime", "_law_cell", "_law_many"]:List Str).Nodup by decide +kernel) rfl (Or.inl rfl)) (fun _ _ _=>(pe_callH h_draw hr (by omega) rfl (pa_cons (pv 1) (pa_cons (pv 0) (pa_cons (pv 2) pa_nil))))) rfl)
    (pss_one (ps_ret (pe_tup (pa_cons pe_str (pa_cons (pe_callH h_word hr (by omega) rfl (pa_cons (pe_op op_add pe_int (pe_callH h_draw hr (by omega) rfl (pa_cons (pv 0) (pa_cons pe_int (pa_cons pe_int pa_nil))))) (pa_cons (pe_op op_fdiv (pv 1) pe_int) pa_nil))) (pa_cons (pe_callTy call_tuple_of rfl B.tuple_ boot_tuple_ (pa_cons (pe_slice sl_list (pv 6) po_none (po_some (pv 5))) pa_nil)) pa_nil))))))))))),?_⟩
  try dsimp only [cxOf]
  refine ⟨_,rfl,c,10067,6,rfl,by decide,by decide,by decide,?_⟩
  dsimp only [gName]
  refine ⟨_,rfl,rfl,_,rfl,iteD (fun _ => ?_) (fun _ => ?_)⟩
  · refine ⟨_,rfl,c,10061,18,rfl,by decide,by decide,by decide,_,_,rfl,rfl,_,rfl,_,s,rfl,?_⟩
    exact ⟨(show 2≤sizeLine by decide),fun t ht=>q (.name _) _ _ (same_new ht _) ⟨t,rfl,upd_same⟩ fun x as e=>nomatch e⟩
  refine ⟨_,rfl,rfl,_,rfl,iteD (fun _ => ?_) (fun _ => ?_)⟩
  · refine ⟨_,rfl,_,_,rfl,rfl,div',10,60,rfl,rfl,⟨by decide,by decide,by decide⟩,_,_,rfl,rfl,(by show (0:Int) < 10 ^ 60;decide),?_⟩
    dsimp only [gName]
    refine ⟨_,rfl,c,10039,2,rfl,by decide,by decide,by decide,rfl,_,rfl,iteD (fun _ => ?_) (fun _ => ?_)⟩
    · exact ⟨_,rfl,(show 2≤sizeLine by decide),fun t ht=>q (.num _) _ _ (same_new ht _) ⟨t,rfl,upd_same⟩ fun x as e=>nomatch e⟩
    · exact ⟨_,rfl,_,rfl,(show 2≤sizeLine by decide),fun t ht=>q (.num _) _ _ (same_new ht _) ⟨t,rfl,upd_same⟩ fun x as e=>nomatch e⟩
  -- how many arms
  have r0:=drawZ_nn c 10069 (m:=8) (by decide)
  have r1:=drawZ_lt c 10069 (m:=8) (by decide)
  obtain ⟨n,hn,n4⟩:∃ n:Nat,atI ([1,1,1,2,2,2,3,4].map V.int) (drawZ c 10069 8)=some (nV n)∧n≤4:=by
    obtain ⟨r,hr,hr8⟩:∃ r:Nat,drawZ c 10069 8=(r:Int)∧r < 8:=⟨(drawZ c 10069 8).toNat,by omega,by omega⟩
    rw [hr]
    match r,hr8 with
    | 0,_=>exact ⟨1,rfl,by decide⟩
    | 1,_=>exact ⟨1,rfl,by decide⟩
    | 2,_=>exact ⟨1,rfl,by decide⟩
    | 3,_=>exact ⟨2,rfl,by decide⟩
    | 4,_=>exact ⟨2,rfl,by decide⟩
    | 5,_=>exact ⟨2,rfl,by decide⟩
    | 6,_=>exact ⟨3,rfl,by decide⟩
    | 7,_=>exact ⟨4,rfl,by decide⟩
  refine ⟨(show 8≤sizeLine by decide),fun p hp => ?_⟩
  have s1:=same_new hp (.tup ([1,1,1,2,2,2,3,4].map V.int))
  have hp1:=upd_same (H:=H) (a:=p) (o := .tup ([1,1,1,2,2,2,3,4].map V.int))
  refine ⟨_,rfl,c,10069,8,rfl,by decide,by decide,by decide,p,_,_,_,rfl,rfl,SqT.of hp1,hn,?_⟩
  clear hn r0 r1
  dsimp only [gName]
  have s1:Same H (upd H p (.tup [.int 1,.int 1,.int 1,.int 2,.int 2,.int 2,.int 3,.int 4])):=s1
  clear hp1
  generalize upd H p (.tup [.int 1,.int 1,.int 1,.int 2,.int 2,.int 2,.int 3,.int 4])=H1 at s1 ⊢
  -- the arms
  refine ⟨(show 4≤sizeLine by decide),fun p2 hp2 => ?_⟩
  have s2:=s1.trans (same_new hp2 (.tup [.int 10079,.int 10091,.int 10093,.int 10099]))
  have hp3:=upd_same (H:=H1) (a:=p2) (o := .tup [.int 10079,.int 10091,.int 10093,.int 10099])
  generalize upd H1 p2 (.tup [.int 10079,.int 10091,.int 10093,.int 10099])=H2 at s2 hp3 ⊢
  refine ⟨p2,rfl,⟨_,SqT.of hp3⟩,?_⟩
  have dz:∀ pr:Int,((drawZ c pr many).toNat:Int)=drawZ c pr many:=fun pr=>by have:=drawZ_nn c pr (m:=many) (by omega);omega
  refine comp_tupS (ys:=([10079,10091,10093,10099].map fun pr:Int=>(drawZ c pr many).toNat).map nV) (SqT.of hp3) (by decide) (by rfl) (fun i y z hy hz H' sm Q' q' => ?_) (fun D1 H3 hD1 sm3 hD => ?_)
  · obtain ⟨pr,e1,e2,e3,e4⟩:∃ pr:Int,y = .int pr∧z=nV (drawZ c pr many).toNat∧0 < pr∧pr < 20000:=by
      match i with
      | 0=>exact ⟨10079,(Option.some.inj hy).symm,(Option.some.inj hz).symm,by decide,by decide⟩
      | 1=>exact ⟨10091,(Option.some.inj hy).symm,(Option.some.inj hz).symm,by decide,by decide⟩
      | 2=>exact ⟨10093,(Option.some.inj hy).symm,(Option.some.inj hz).symm,by decide,by decide⟩
      | 3=>exact ⟨10099,(Option.some.inj hy).symm,(Option.some.inj hz).symm,by decide,by decide⟩
      | j+4=>cases hy
    subst e1 e2
    refine ⟨_,rfl,_,rfl,_,rfl,c,pr,many,rfl,e3,e4,by omega,?_⟩
    have:=q' _ (Same.refl H')
    rw [show nV (drawZ c pr many).toNat=V.int (drawZ c pr many) from congrArg V.int (dz pr)] at this
    exact this
  have s3:=s2.trans sm3
  generalize hks:([10079,10091,10093,10099].map fun pr:Int=>(drawZ c pr many).toNat)=ks at hD
  have lks:ks.length=4:=by rw [← hks];rfl
  have kin:∀ k∈ks,k < many:=fun k hk=>by
    rw [← hks] at hk
    obtain ⟨pr,_,rfl⟩:=List.mem_map.mp hk
    have:=drawZ_lt c pr (m:=many) (by omega)
    have:=drawZ_nn c pr (m:=many) (by omega)
    omega
  dsimp only [gName]
  refine ⟨_,rfl,c,10103,2,rfl,by decide,by decide,by decide,_,_,rfl,rfl,_,rfl,_,_,rfl,rfl,div',_,_,rfl,?_⟩
  refine ⟨_,rfl,_,rfl,_,rfl,D1,_,rfl,SqL.of hD,fun l hl => ?_⟩
  rw [cut_nat]
  have s4:=s3.trans (same_new hl (.lst ((ks.take n).map nV)))
  have hl4:=upd_same (H:=H3) (a:=l) (o := .lst ((ks.take n).map nV))
  generalize upd H3 l (.lst ((ks.take n).map nV))=H4 at s4 hl4 ⊢
  refine ⟨l,_,rfl,.inl ⟨SqL.of hl4,fun tp htp => ?_⟩⟩
  have s5:=s4.trans (same_new htp (.tup ((ks.take n).map nV)))
  have hl5:=upd_same (H:=H4) (a:=tp) (o := .tup ((ks.take n).map nV))
  generalize upd H4 tp (.tup ((ks.take n).map nV))=H5 at s5 hl5 ⊢
  refine ⟨(show 3≤sizeLine by decide),fun t ht=>q (.of _ (ks.take n)) _ _ (s5.trans (same_new ht _)) ⟨t,tp,rfl,upd_same,by rw [upd_ne (ne_of_none hl5 ht)];exact hl5⟩ fun x as e => ?_⟩
  cases e
  exact ⟨by rw [List.length_take];omega,fun a ha=>kin a (List.mem_of_mem_take ha)⟩
end

end K21
namespace K21
open PySem L2 Sw
section
variable {P:Program} {w:World} {K:PySem.W.Frag} {mg:Str→Option Value} {base:Heap}
noncomputable def WEd1 (H:Hp) (v:V) (e:WEd):Prop := ∃ q c,v=V.ref q∧H q=some (.tup [nV e.1,nV e.2.1,nV e.2.2,c])
noncomputable def WIn (n:Nat) (e:WEd):Prop:=e.1 < n∧e.2.1 < n∧1≤e.2.2
noncomputable def EdD (H:Hp) (v:V):Prop := ∃ d,Den H d v∧d.noL=true∧d.deep≤9
theorem EdD.keep {H H':Hp} {v:V} (h:EdD H v) (k:∀ c ys,H c=some (.tup ys)→H' c=some (.tup ys)):EdD H' v:=by
  obtain ⟨d,h1,h2,h3⟩:=h
  exact ⟨d,den_keepT k h2 h1,h2,h3⟩
theorem den_tup {H:Hp} {a:Addr} {vs:List V} {ds:List L2.D} (h:H a=some (.tup vs)) (r:Dens H ds vs):Den H (.tup ds) (.ref a):=by rw [Den];exact ⟨a,vs,rfl,h,r⟩
theorem den_lst {H:Hp} {a:Addr} {vs:List V} {ds:List L2.D} (h:H a=some (.lst vs)) (r:Dens H ds vs):Den H (.lst ds) (.ref a):=by rw [Den];exact ⟨a,vs,rfl,h,r⟩
theorem den_int {H:Hp} {n:Int}:Den H (.int n) (.int n):=by rw [Den];exact .inl rfl
theorem den_str {H:Hp} {x:Str}:Den H (.str x) (.str x):=by rw [Den]
inductive SpEdge (vs:List V) (H:Hp) (Q:VK):Prop
  | mk (c col:Int) (many:Nat) (z0:vs = [.int c,nV many,.int col]) (z1:0 < many) (z2:many≤1000) (z3:0 < col) (z4:∀ e v H',Same H H'→WEd1 H' v e→WIn many e→EdD H' v→Q v H'):SpEdge vs H Q
noncomputable def spEdge:Sp:=fun vs H Q _=>SpEdge vs H Q
noncomputable def nearC (a col:Int):Int→Option V:=fun k=>if (k - a) % col=0 then some (.int k) else none
noncomputable def nearL (a col:Int) (n:Nat):List Nat:=(List.range n).filter fun i=>decide (((i:Int) - a) % col=0)
theorem near_eq (a col:Int) (n:Nat):((List.range n).filterMap fun i:Nat=>nearC a col (0+(i:Int)))=(nearL a col n).map nV:=by
  unfold nearL
  generalize List.range n=l
  induction l with
  | nil=>rfl
  | cons i l ih =>
    unfold nearC at ih ⊢
    by_cases h:((i:Int) - a) % col=0
    · rw [List.filterMap_cons_some (b:=V.int i) (by rw [Int.zero_add,if_pos h]),List.filter_cons_of_pos (p:=fun i:Nat=>decide (((i:Int) - a) % col=0)) (decide_eq_true h),List.map_cons,ih]
    · rw [List.filterMap_cons_none (by rw [Int.zero_add,if_neg h]),List.filter_cons_of_neg (p:=fun i:Nat=>decide (((i:Int) - a) % col=0)) (by rw [decide_eq_false h];decide),ih]
theorem ok_edge (B:Blt mg) (h_draw:Has P w K mg base 1 "_law_draw" ["_law_cell", "_law_prime", "_law_many"] spDraw) (D:Def K mg "_law_edge" s_edge ["_law_cell", "_law_many", "_law_colours"]):Has P w K mg base 2 "_law_edge" ["_law_cell", "_law_many", "_law_colours"] spEdge:=by
  refine D.has sc_edge (fun vs H Q E h => ?_) (fun f cdv A outer s H vs Q E hr h => ?_)
  · obtain ⟨c,col,many,rfl,_⟩:=h;rfl
  obtain ⟨c,col,many,rfl,hm,hm2,hcol,q⟩:=h
  refine ⟨_,(pss_cons (ps_set (i:=3) sc_edge.nd rfl (Or.inr rfl) (pe_callH h_draw hr (by omega) rfl (pa_cons (pv 0) (pa_cons pe_int (pa_cons (pv 1) pa_nil)))))
    (pss_cons (ps_setCompI (i:=4) sc_edge.nd rfl rfl (te:=_) (ct:=(tTest (tOp _ (tOp _ (tOp _ _ _) _) _))) (own := ["_law_k"]) (caps := [("_law_colours",2),("_law_a",3)]) (comp_scope (defScope s_edge) ["_law_cell", "_law_many", "_law_colours", "_law_a", "_law_near", "_law_b", "_law_weight"] rfl rfl rfl (by decide +kernel)) (pi_range1 rfl B.range_ (pa_cons (pv 1) pa_nil)) rfl (fun _ _ _=>pg_name (i:=0) (show (["_law_k", "_law_colours", "_law_a"]:List Str).Nodup by decide +kernel) rfl (Or.inl rfl)) (fun _ _ _=>(pt_cmpR op_eq (pe_op op_mod (pe_op op_sub (pv 0) (pv 2)) (pv 1)) pe_int (nomark _))) (fun _ _ _=>(pv 0)) rfl)
    (pss_cons (ps_set (i:=5) sc_edge.nd rfl (Or.inl rfl) (pe_ix ix_list (pv 4) (pe_callH h_draw hr (by omega) rfl (pa_cons (pv 0) (pa_cons pe_int (pa_cons (pe_callB call_len_seq rfl B.len_ PySem.boot_len (pa_cons (pv 4) pa_nil)) pa_nil)))) (fun _ _=>rfl)))
    (pss_cons (ps_set (i:=6) sc_edge.nd rfl (Or.inl rfl) (pe_op op_add pe_int (pe_callH h_draw hr (by omega) rfl (pa_cons (pv 0) (pa_cons pe_int (pa_cons pe_int pa_nil))))))
    (pss_cons (ps_if (pt_cmpR op_eq (pe_callH h_draw hr (by omega) rfl (pa_cons (pv 0) (pa_cons pe_int (pa_cons pe_int pa_nil)))) pe_int (nomark _)) (pss_one (ps_set (i:=6) sc_edge.nd rfl (Or.inl rfl) (pe_op op_add pe_int (pe_op op_mod (pv 0) (pe_op op_pow pe_int pe_int))))) pss_nil)
    (pss_cons (ps_if (pt_cmpR op_eq (pe_callH h_draw hr (by omega) rfl (pa_cons (pv 0) (pa_cons pe_int (pa_cons pe_int pa_nil)))) pe_int (nomark _)) (pss_one (ps_ret (pe_tup (pa_cons (pv 3) (pa_cons (pv 5) (pa_cons (pv 6) (pa_cons (pe_tup (pa_cons pe_str pa_nil)) pa_nil))))))) pss_nil)
    (pss_one (ps_ret (pe_tup (pa_cons (pv 3) (pa_cons (pv 5) (pa_cons (pv 6) (pa_cons (pe_tup (pa_cons pe_str (pa_cons pe_str (pa_cons (pe_tup (pa_cons (pe_tup (pa_cons pe_str (pa_cons (pv 5) pa_nil))) pa_nil)) pa_nil)))) pa_nil))))))))))))),?_⟩
  try dsimp only [cxOf]
  have a0:=drawZ_nn c 10111 (m:=many) (by omega)
  have a1:=drawZ_lt c 10111 (m:=many) (by omega)
  refine ⟨_,rfl,_,rfl,c,10111,many,rfl,by decide,by decide,by omega,?_⟩
  dsimp only [gName]
  obtain ⟨a,ea,han⟩:∃ a:Nat,drawZ c 10111 many=(a:Int)∧a < many:=⟨(drawZ c 10111 many).toNat,by omega,by omega⟩
  rw [ea]
  refine ⟨_,rfl,_,rfl,by omega,by omega,?_⟩
  rw [Int.toNat_natCast]
  refine compI_range (lo:=0) (nearC (a:Int) col) (by omega) (fun i hi H' sm R r => ?_) (fun i v hi hv H' sm Q' q' => ?_) fun D1 hD1 => ?_
  · refine ⟨_,rfl,_,rfl,_,_,rfl,rfl,_,rfl,_,_,rfl,rfl,hcol,rfl,_,rfl,?_⟩
    unfold nearC at r
    by_cases h1:(0+(i:Int) - (a:Int)) % col=0
    · rw [if_pos h1] at r
      rw [decide_eq_true (congrArg V.int h1)]
      exact r
    · rw [if_neg h1] at r
      rw [decide_eq_false (fun z=>h1 (V.int.inj z))]
      exact r
  · unfold nearC at hv
    split at hv
    · cases hv
      exact ⟨_,rfl,q'⟩
    · cases hv
  rw [near_eq]
  have s1:=same_new hD1 (.lst ((nearL (a:Int) col many).map nV))
  have hD:=upd_same (H:=H) (a:=D1) (o := .lst ((nearL (a:Int) col many).map nV))
  generalize upd H D1 (.lst ((nearL (a:Int) col many).map nV))=H1 at s1 hD ⊢
  have am:a∈nearL (a:Int) col many:=List.mem_filter.mpr ⟨List.mem_range.mpr han,decide_eq_true (by rw [Int.sub_self];exact Int.zero_emod _)⟩
  have nin:∀ k∈nearL (a:Int) col many,k < many:=fun k hk=>List.mem_range.mp (List.mem_filter.mp hk).1
  generalize nearL (a:Int) col many=nl at hD am nin
  have npos:=List.length_pos_of_mem am
  have b0:=drawZ_nn c 10133 (m:=nl.length) (by omega)
  have b1:=drawZ_lt c 10133 (m:=nl.length) (by omega)
  obtain ⟨j,ej,hj⟩:∃ j:Nat,drawZ c 10133 nl.length=(j:Int)∧j < nl.length:=⟨(drawZ c 10133 nl.length).toNat,by omega,by omega⟩
  have hbj:nl[j]? = some nl[j]:=List.getElem?_eq_getElem hj
  have hbn:=nin nl[j] (List.getElem_mem hj)
  generalize nl[j]=b at hbj hbn
  dsimp only [gName]
  have hat:atI (nl.map nV) (drawZ c 10133 ((nl.map nV).length:Int))=some (nV b):=by rw [List.length_map,ej];exact nV_at hbj
  refine ⟨_,rfl,_,rfl,_,rfl,D1,_,rfl,.inl (SqL.of hD),c,10133,_,rfl,by decide,by decide,(by rw [List.length_map];omega),D1,_,_,_,rfl,rfl,SqL.of hD,hat,?_⟩
  dsimp only [gName]
  have w0:=drawZ_nn c 10139 (m:=6) (by decide)
  refine ⟨_,rfl,c,10139,6,rfl,by decide,by decide,by decide,_,_,rfl,rfl,?_⟩
  dsimp only [gName]
  refine rd_cut (fun σ' H4=>∃ wt:Nat,1≤wt∧H4=H1 ∧ σ' = [some (.int c),some (nV many),some (.int col),some (nV a),some (.ref D1),some (nV b),some (nV wt)]) ?_ (fun key => ?_)
  rotate_left
  · refine ⟨_,rfl,c,10141,3,rfl,by decide,by decide,by decide,rfl,_,rfl,iteD (fun _ => ?_) (fun _ => ?_)⟩
    · refine ⟨_,rfl,10,12,rfl,rfl,⟨by decide,by decide,by decide⟩,_,_,rfl,rfl,(by show (0:Int) < 10 ^ 12;decide),_,_,rfl,rfl,key _ _ ⟨(1+c % 10 ^ 12).toNat,?_,rfl,?_⟩⟩
      · have:0≤c % 10 ^ 12:=Int.emod_nonneg _ (by decide)
        omega
      · have z:0≤c % 10 ^ 12:=Int.emod_nonneg _ (by decide)
        have:V.int (1+c % 10 ^ 12)=nV (1+c % 10 ^ 12).toNat:=congrArg V.int (by omega)
        rw [← this];rfl
    · refine key _ _ ⟨(1+drawZ c 10139 6).toNat,by omega,rfl,?_⟩
      have:V.int (1+drawZ c 10139 6)=nV (1+drawZ c 10139 6).toNat:=congrArg V.int (by omega)
      rw [← this];rfl
  rintro σ' H4 ⟨wt,hwt,rfl,rfl⟩
  refine ⟨_,rfl,c,10151,2,rfl,by decide,by decide,by decide,rfl,_,rfl,iteD (fun _ => ?_) (fun _ => ?_)⟩
  · refine ⟨_,rfl,_,rfl,_,rfl,(show 1≤sizeLine by decide),fun q1 hq1=>⟨(show 4≤sizeLine by decide),fun t1 ht1 => ?_⟩⟩
    have t2:=same_new ht1 (.tup [nV a,nV b,nV wt,.ref q1])
    exact q (a,b,wt) _ _ (s1.trans ((same_new hq1 _).trans t2)) ⟨t1,.ref q1,rfl,upd_same⟩ ⟨han,hbn,hwt⟩ ⟨.tup [.int a,.int b,.int wt,.tup [.str "told"]],den_tup upd_same (dens_cons den_int (dens_cons den_int (dens_cons den_int (dens_cons (den_tup (t2 _ _ upd_same) (dens_cons den_str dens_nil)) dens_nil)))),by rfl,by simp [L2.D.deep,L2.D.deeps]⟩
  · refine ⟨_,rfl,_,rfl,_,rfl,_,rfl,(show 2≤sizeLine by decide),fun q1 hq1=>⟨(show 1≤sizeLine by decide),fun q2 hq2=>⟨(show 3≤sizeLine by decide),fun q3 hq3=>⟨(show 4≤sizeLine by decide),fun t1 ht1 => ?_⟩⟩⟩⟩
    have t2:=same_new hq2 (.tup [.ref q1])
    have t3:=same_new hq3 (.tup [.str "rule",.str "swap",.ref q2])
    have t4:=same_new ht1 (.tup [nV a,nV b,nV wt,.ref q3])
    exact q (a,b,wt) _ _ (s1.trans ((same_new hq1 _).trans (t2.trans (t3.trans t4)))) ⟨t1,.ref q3,rfl,upd_same⟩ ⟨han,hbn,hwt⟩ ⟨.tup [.int a,.int b,.int wt,.tup [.str "rule",.str "swap",.tup [.tup [.str "a",.int b]]]],den_tup upd_same (dens_cons den_int (dens_cons den_int (dens_cons den_int (dens_cons (den_tup (t4 _ _ upd_same) (dens_cons den_str (dens_cons den_str (dens_cons (den_tup (t4 _ _ (t3 _ _ upd_same)) (dens_cons (den_tup (t4 _ _ (t3 _ _ (t2 _ _ upd_same))) (dens_cons den_str (dens_cons den_int dens_nil))) dens_nil)) dens_nil)))) dens_nil)))),by rfl,by simp [L2.D.deep,L2.D.deeps]⟩
end

end K21
namespace K21
open PySem L2 Sw
section
variable {P:Program} {w:World} {K:PySem.W.Frag} {mg:Str→Option Value} {base:Heap}
theorem rd_E {t:TE} {σ : St} {H:Hp} {Q:VK} (R:V→Hp→Prop) (h1:∀ Q':VK,(∀ v H',R v H'→Q' v H')→t σ H Q') (h2:∀ v H',R v H'→Q v H'):t σ H Q:=h1 _ h2
structure GenOk (ts:List Tm) (es:List WEd):Prop where
  two:2≤ts.length
  few:ts.length≤30
  nod:ts.Nodup
  arms:Arms ts
  sml:∀ (i:Nat) x as,ts[i]? = some (.of x as)→as.length≤4
  es_:∀ e∈es,WIn ts.length e
theorem GenOk.edge {ts:List Tm} {es:List WEd} (g:GenOk ts es) {e:WEd} (h:WIn ts.length e):GenOk ts (es ++ [e]) :=
  ⟨g.two,g.few,g.nod,g.arms,g.sml,fun x hx=>by
    rcases List.mem_append.mp hx with z | z
    · exact g.es_ x z
    · rw [List.mem_singleton.mp z];exact h⟩
theorem snoc_at {α : Type} {l:List α} {x y : α} {i:Nat} (h:(l ++ [x])[i]? = some y):l[i]? = some y∨(i=l.length∧y=x):=by
  by_cases hi:i < l.length
  · rw [List.getElem?_append_left hi] at h;exact .inl h
  · have hl:=(List.getElem?_eq_some_iff.mp h).1
    rw [List.length_append,List.length_singleton] at hl
    have e:i=l.length:=by omega
    subst e
    rw [List.getElem?_concat_length] at h
    exact .inr ⟨rfl,(Option.some.inj h).symm⟩
theorem GenOk.term {ts:List Tm} {es:List WEd} (g:GenOk ts es) {t:Tm} (hf:ts.length < 30) (hn:t ∉ ts) (ht:∀ x as,t = .of x as→as.length≤4∧∀ a∈as,a < ts.length):GenOk (ts ++ [t]) es:=by
  have hl:(ts ++ [t]).length=ts.length+1:=by rw [List.length_append];rfl
  refine ⟨by rw [hl];have:=g.two;omega,by rw [hl];omega,?_,?_,?_,fun e he => ?_⟩
  · rw [List.nodup_append]
    exact ⟨g.nod,List.nodup_cons.mpr ⟨List.not_mem_nil,List.nodup_nil⟩,fun x hx y hy e=>hn (by rw [← List.mem_singleton.mp hy, ← e];exact hx)⟩
  · intro i x as e a ha
    rcases snoc_at e with e1 | ⟨e0,e1⟩
    · exact g.arms i x as e1 a ha
    · rw [e0];exact (ht x as e1.symm).2 a ha
  · intro i x as e
    rcases snoc_at e with e1 | ⟨e0,e1⟩
    · exact g.sml i x as e1
    · exact (ht x as e1.symm).1
  · obtain ⟨h1,h2,h3⟩:=g.es_ e he
    exact ⟨by rw [hl];omega,by rw [hl];omega,h3⟩
inductive SpStuff (K:PySem.W.Frag) (vs:List V) (H:Hp) (Q:VK):Prop
  | mk (S:Addr) (ns:List Int) (most:Int) (z0:vs = [.ref S,.int most]) (z1:SqL K H S (ns.map V.int)) (z2:ns.length≤63) (z3:most≤30)
    (z4:∀ M T E us ev ts es H',Same H H'→H' M=some (.tup [.ref T,.ref E])→H' T=some (.lst us)→Tms H' us ts→H' E=some (.lst ev)→WEdAt H' ev es→GenOk ts es→es.length≤63→(∀ v∈ev,EdD H' v)→Q (.ref M) H'):SpStuff K vs H Q
noncomputable def spStuff (K:PySem.W.Frag):Sp:=fun vs H Q _=>SpStuff K vs H Q
inductive StI (H:Hp) (S T E sl:Addr) (most seed:Int) (cs:List V) (i:Nat) (σ : St) (H':Hp):Prop
  | mk (us ev:List V) (ts:List Tm) (es:List WEd) (x5 x6:Option V):(σ = [some (.ref S),some (.int most),some (.int seed),some (.ref T),some (.ref E),x5,x6])→Same H H'→H' sl=some (.lst cs)→H' T=some (.lst us)→H' E=some (.lst ev)→Tms H' us ts→WEdAt H' ev es→GenOk ts es→es.length≤i→(∀ v∈ev,EdD H' v)→StI H S T E sl most seed cs i σ H'
theorem weds_keep {H H':Hp} {vs:List V} {l:List WEd} (h:WEdAt H vs l) (k:∀ c ys,H c=some (.tup ys)→H' c=some (.tup ys)):WEdAt H' vs l:=Paired.mapP h fun _ _ ⟨q,c,e,hq⟩=>⟨q,c,e,k _ _ hq⟩
theorem ok_stuff (B:Blt mg) (h_draw:Has P w K mg base 1 "_law_draw" ["_law_cell", "_law_prime", "_law_many"] spDraw) (h_word:Has P w K mg base 2 "_law_word" ["_law_k", "_law_cell"] spWord) (h_term:Has P w K mg base 3 "_law_term" ["_law_cell", "_law_seed", "_law_many"] spTerm) (h_edge:Has P w K mg base 2 "_law_edge" ["_law_cell", "_law_many", "_law_colours"] spEdge)
    (D:Def K mg "_law_stuff" s_stuff ["_law_script", "_law_most"]):Has P w K mg base 4 "_law_stuff" ["_law_script", "_law_most"] (spStuff K):=by
  refine D.has sc_stuff (fun vs H Q E h => ?_) (fun f cdv A outer s H vs Q E hr h => ?_)
  · obtain ⟨S,ns,most,rfl,_⟩:=h;rfl
  obtain ⟨S,ns,most,rfl,hS,h63,hmost,q⟩:=h
  refine ⟨_,(pss_cons (ps_set (i:=2) sc_stuff.nd rfl (Or.inl rfl) (pe_ifExp (pt_cmpR op_gt (pe_callB call_len_seq rfl B.len_ PySem.boot_len (pa_cons (pv 0) pa_nil)) pe_int (nomark _)) (pe_ix ix_list (pv 0) pe_int (fun _ _=>rfl)) pe_int))
    (pss_cons (ps_set (i:=3) sc_stuff.nd rfl (Or.inl rfl) (pe_lst (pa_cons (pe_tup (pa_cons pe_str (pa_cons (pe_callH h_word hr (by omega) rfl (pa_cons pe_int (pa_cons (pv 2) pa_nil))) pa_nil))) (pa_cons (pe_tup (pa_cons pe_str (pa_cons (pe_callH h_word hr (by omega) rfl (pa_cons pe_int (pa_cons (pv 2) pa_nil))) pa_nil))) pa_nil))))
    (pss_cons (ps_set (i:=4) sc_stuff.nd rfl (Or.inl rfl) (pe_lst pa_nil))
    (pss_cons (ps_for PassesOwn.never rfl (pi_list (pe_slice sl_list (pv 0) (po_some pe_int) po_none)) (pg_name (i:=5) sc_stuff.nd rfl (Or.inl rfl))
    (pss_one (ps_if (pt_cmpR op_eq (pe_callH h_draw hr (by omega) rfl (pa_cons (pv 5) (pa_cons pe_int (pa_cons pe_int pa_nil)))) pe_int (nomark _)) (pss_one (ps_expr (pe_bm PySem.F.plainAttrs_list PySem.F.slot_list_append PySem.F.type_list_append mt_append (pv 4) (pa_cons (pe_callH h_edge hr (by omega) rfl (pa_cons (pv 5) (pa_cons (pe_callB call_len_seq rfl B.len_ PySem.boot_len (pa_cons (pv 3) pa_nil)) (pa_cons (pe_op op_add pe_int (pe_callH h_draw hr (by omega) rfl (pa_cons (pv 2) (pa_cons pe_int (pa_cons pe_int pa_nil))))) pa_nil)))) pa_nil)))) (pss_one (ps_if (pt_cmpR op_lt (pe_callB call_len_seq rfl B.len_ PySem.boot_len (pa_cons (pv 3) pa_nil)) (pv 1) (nomark _)) (pss_cons (ps_set (i:=6) sc_stuff.nd rfl (Or.inl rfl) (pe_callH h_term hr (by omega) rfl (pa_cons (pv 5) (pa_cons (pv 2) (pa_cons (pe_callB call_len_seq rfl B.len_ PySem.boot_len (pa_cons (pv 3) pa_nil)) pa_nil)))))
    (pss_one (ps_if (pt_cmpR (op_notInD (un101 hr)) (pv 6) (pv 3) (by with_unfolding_all rfl)) (pss_one (ps_expr (pe_bm PySem.F.plainAttrs_list PySem.F.slot_list_append PySem.F.type_list_append mt_append (pv 3) (pa_cons (pv 6) pa_nil)))) pss_nil))) pss_nil)))))
    (pss_one (ps_ret (pe_tup (pa_cons (pv 3) (pa_cons (pv 4) pa_nil))))))))),?_⟩
  try dsimp only [cxOf]
  refine rd_E (t:=tIf _ _ _) (fun v H'=>H'=H∧∃ sd:Int,v = .int sd) (fun Q' q' => ?_) ?_
  · refine ⟨_,rfl,S,_,rfl,.inl hS,_,_,rfl,rfl,_,rfl,iteD (fun h => ?_) (fun h=>q' _ _ ⟨rfl,0,rfl⟩)⟩
    rw [List.length_map] at h
    obtain ⟨c,hc⟩:∃ c,ns[0]? = some c:=⟨_,List.getElem?_eq_getElem (by omega)⟩
    exact ⟨_,rfl,S,_,_,_,rfl,rfl,hS,atI_nat (j:=0) (by rw [List.getElem?_map,hc];rfl),q' _ _ ⟨rfl,c,rfl⟩⟩
  rintro v H' ⟨rfl,sd,rfl⟩
  dsimp only [gName]
  -- the first two
  refine ⟨_,rfl,0,sd,rfl,(show 2≤sizeLine by decide),fun p1 hp1 => ?_⟩
  have s1:=same_new hp1 (.tup [.str "name",.str (wordZ sd 0)])
  have h1:=upd_same (H:=H') (a:=p1) (o := .tup [.str "name",.str (wordZ sd 0)])
  generalize upd H' p1 (.tup [.str "name",.str (wordZ sd 0)])=H1 at s1 h1 ⊢
  refine ⟨_,rfl,1,sd,rfl,(show 2≤sizeLine by decide),fun p2 hp2 => ?_⟩
  have s2:=same_new hp2 (.tup [.str "name",.str (wordZ sd 1)])
  have h2:=upd_same (H:=H1) (a:=p2) (o := .tup [.str "name",.str (wordZ sd 1)])
  generalize upd H1 p2 (.tup [.str "name",.str (wordZ sd 1)])=H2 at s2 h2 ⊢
  refine ⟨(show 2≤sizeLine by decide),fun T hT => ?_⟩
  have s3:=same_new hT (.lst [.ref p1,.ref p2])
  have h3:=upd_same (H:=H2) (a:=T) (o := .lst [.ref p1,.ref p2])
  generalize upd H2 T (.lst [.ref p1,.ref p2])=H3 at s3 h3 ⊢
  dsimp only [gName]
  refine ⟨(show 0≤sizeLine by decide),fun Ed hEd => ?_⟩
  have s4:=same_new hEd (.lst [])
  have h4:=upd_same (H:=H3) (a:=Ed) (o := .lst [])
  have hTE:T≠Ed:=ne_of_none h3 hEd
  generalize upd H3 Ed (.lst [])=H4 at s4 h4 ⊢
  dsimp only [gName]
  have hS4:=(s1.trans (s2.trans (s3.trans s4))).seq hS
  refine ⟨_,rfl,_,rfl,S,_,rfl,hS4,fun sl hsl => ?_⟩
  have hTsl:T≠sl:=ne_of_none (s4 _ _ h3) hsl
  have hEsl:Ed≠sl:=ne_of_none h4 hsl
  obtain ⟨cs,ecs,lcs⟩:∃ cs:List Int,cutV (ns.map V.int) (some 1) none=cs.map V.int∧cs.length≤63:=by
    refine ⟨((ns.drop (HT.sIx ns.length 0 (some 1))).take (HT.sIx ns.length ns.length none - HT.sIx ns.length 0 (some 1))),?_,?_⟩
    · unfold cutV
      rw [List.length_map, ← List.map_drop, ← List.map_take]
    · rw [List.length_take,List.length_drop];omega
  rw [ecs]
  have s5:=same_new hsl (.lst (cs.map V.int))
  have h5:=upd_same (H:=H4) (a:=sl) (o := .lst (cs.map V.int))
  generalize upd H4 sl (.lst (cs.map V.int))=H5 at s5 h5 ⊢
  have sm:Same H' H5:=s1.trans (s2.trans (s3.trans (s4.trans s5)))
  have hT0:H' T=none:=(s1.trans s2).free hT
  have hE0:H' Ed=none:=(s1.trans (s2.trans s3)).free hEd
  have tw:Tms H5 [.ref p1,.ref p2] [.name (wordZ sd 0),.name (wordZ sd 1)] := .cons ⟨p1,rfl,s5 _ _ (s4 _ _ (s3 _ _ (s2 _ _ h1)))⟩ (.cons ⟨p2,rfl,s5 _ _ (s4 _ _ (s3 _ _ h2))⟩ .nil)
  have g0:GenOk [.name (wordZ sd 0),.name (wordZ sd 1)] []:=by
    refine ⟨Nat.le_refl _,(show 2≤30 by decide),?_,?_,?_,fun e he=>nomatch he⟩
    · refine List.nodup_cons.mpr ⟨fun z => ?_,List.nodup_cons.mpr ⟨List.not_mem_nil,List.nodup_nil⟩⟩
      have:=List.mem_singleton.mp z
      injection this with z
      exact word_ne sd z
    · intro i x as e
      match i with
      | 0=>cases e
      | 1=>cases e
      | j+2=>cases e
    · intro i x as e
      match i with
      | 0=>cases e
      | 1=>cases e
      | j+2=>cases e
  refine ⟨sl,rfl,⟨_,SqL.of h5⟩,?_⟩
  refine for_list (xs:=cs.map V.int) (StI H' S T Ed sl most sd (cs.map V.int)) ⟨_,_,_,_,none,none,rfl,sm,h5,s5 _ _ (s4 _ _ h3),s5 _ _ h4,tw,.nil,g0,Nat.le_refl _,fun v hv=>nomatch hv⟩ ?_ ?_ ?_
  · rintro i σ Hc _ ⟨us,ev,ts,es,x5,x6,rfl,sm,h1,_⟩
    exact SqL.of h1
  · rintro i x σ Hc hx ⟨us,ev,ts,es,x5,x6,rfl,sm,hsl',hT',hE',htm,hwe,go,el,edd⟩
    obtain ⟨c,rfl⟩:∃ c,x = .int c:=by
      rw [List.getElem?_map] at hx
      obtain ⟨c,_,e⟩:=Option.map_eq_some_iff.mp hx
      exact ⟨c,e.symm⟩
    have hi:=(List.getElem?_eq_some_iff.mp hx).1
    rw [List.length_map] at hi
    have lu:=Paired.length htm
    have le:=Paired.length hwe
    have tw:=go.two
    have fw:=go.few
    dsimp only [gName]
    refine ⟨_,rfl,c,10159,_,rfl,by decide,by decide,by decide,rfl,_,rfl,iteD (fun _ => ?_) (fun _ => ?_)⟩
    · have c0:=drawZ_nn sd 10163 (m:=3) (by decide)
      refine ⟨_,rfl,.inl ⟨rfl,_,SqL.of hE'⟩,_,rfl,_,rfl,T,us,rfl,.inl (SqL.of hT'),_,rfl,sd,10163,3,rfl,by decide,by decide,by decide,_,_,rfl,rfl,c,_,us.length,rfl,by omega,by omega,by omega,fun e v H6 s6 he hwi hdv => ?_⟩
      have hE6:=s6 _ _ hE'
      have kt:∀ d ys,H6 d=some (.tup ys)→(upd H6 Ed (.lst (ev ++ [v]))) d=some (.tup ys):=fun d ys e=>by rw [upd_ne (ne_of e hE6 (fun z=>nomatch z))];exact e
      obtain ⟨qe,ce,ev1,hqe⟩:=he
      refine ⟨Ed,_,_,rfl,rfl,hE6,small1000 (by omega),⟨us,ev ++ [v],ts,es ++ [e],_,_,rfl,(sm.trans s6).put hE0,by rw [upd_ne (Ne.symm hEsl)];exact s6 _ _ hsl',by rw [upd_ne hTE];exact s6 _ _ hT',upd_same,tms_keep kt (tms_same s6 htm),?_,go.edge (by rw [← lu];exact hwi),by rw [List.length_append];exact Nat.succ_le_succ el,fun v' hv' => ?_⟩⟩
      rotate_left
      · rcases List.mem_append.mp hv' with z | z
        · exact ((edd v' z).keep fun d ys e=>s6 _ _ e).keep kt
        · rw [List.mem_singleton.mp z];exact hdv.keep kt
      exact paired_app (weds_keep (weds_keep hwe fun d ys e=>s6 _ _ e) kt) (.cons ⟨qe,ce,ev1,kt _ _ hqe⟩ .nil)
    · refine ⟨_,rfl,T,us,rfl,.inl (SqL.of hT'),_,rfl,_,_,rfl,rfl,_,rfl,iteD (fun hlt => ?_) (fun _ => ?_)⟩
      · refine ⟨_,rfl,_,rfl,_,rfl,T,us,rfl,.inl (SqL.of hT'),c,sd,us.length,rfl,by omega,fun t v H6 s6 hv hta => ?_⟩
        dsimp only [gName]
        have hT6:=s6 _ _ hT'
        have htm6:=tms_same s6 htm
        refine ⟨_,rfl,_,rfl,_,_,hv.den,.inl (by rw [Den];exact ⟨T,us,rfl,hT6,tms_den htm6⟩),Nat.le_trans (tms_deep ts) (by decide),_,rfl,?_⟩
        by_cases hm:tmD t∈ts.map tmD
        · rw [decide_eq_true hm]
          exact iteF ⟨us,ev,ts,es,_,_,rfl,sm.trans s6,s6 _ _ hsl',hT6,s6 _ _ hE',htm6,weds_keep hwe fun d ys e=>s6 _ _ e,go,by omega,fun v hv=>(edd v hv).keep fun d ys e=>s6 _ _ e⟩
        · rw [decide_eq_false hm]
          have kt:∀ d ys,H6 d=some (.tup ys)→(upd H6 T (.lst (us ++ [v]))) d=some (.tup ys):=fun d ys e=>by rw [upd_ne (ne_of e hT6 (fun z=>nomatch z))];exact e
          refine iteT ⟨_,rfl,.inl ⟨rfl,_,SqL.of hT6⟩,_,rfl,T,us,v,rfl,rfl,hT6,small1000 (by omega),⟨us ++ [v],ev,ts ++ [t],es,_,_,rfl,(sm.trans s6).put hT0,by rw [upd_ne (Ne.symm hTsl)];exact s6 _ _ hsl',upd_same,by rw [upd_ne (Ne.symm hTE)];exact s6 _ _ hE',tms_snoc (tms_keep kt htm6) (hv.keep kt),weds_keep (weds_keep hwe fun d ys e=>s6 _ _ e) kt,go.term (by omega) (fun z=>hm (List.mem_map.mpr ⟨t,z,rfl⟩)) (by rw [← lu];exact hta),by omega,fun v hv=>((edd v hv).keep fun d ys e=>s6 _ _ e).keep kt⟩⟩
      · exact ⟨us,ev,ts,es,_,_,rfl,sm,hsl',hT',hE',htm,hwe,go,by omega,edd⟩
  · rintro σ Hc ⟨us,ev,ts,es,x5,x6,rfl,sm,hsl',hT',hE',htm,hwe,go,el,edd⟩
    rw [List.length_map] at el
    refine ⟨_,rfl,_,rfl,(show 2≤sizeLine by decide),fun M hM => ?_⟩
    have s9:=same_new hM (.tup [.ref T,.ref Ed])
    exact q M T Ed us ev ts es _ (sm.trans s9) upd_same (s9 _ _ hT') (tms_same s9 htm) (s9 _ _ hE') (weds_keep hwe fun d ys e=>s9 _ _ e) go (by omega) fun v hv=>(edd v hv).keep fun d ys e=>s9 _ _ e
end

end K21
namespace K21
open PySem L2 Sw
section
variable {P:Program} {w:World} {K:PySem.W.Frag} {mg:Str→Option Value} {base:Heap}
theorem kit_ii {K:PySem.W.Frag}:PySem.W.kitOne K (.type "int") (.type "int")=some true:=by rfl
theorem kit_ib {K:PySem.W.Frag}:PySem.W.kitOne K (.type "int") (.type "bool")=some false:=by rfl
theorem kit_ll {K:PySem.W.Frag}:PySem.W.kitOne K (.type "list") (.type "list")=some true:=by rfl
inductive SpWhole (vs:List V) (H:Hp) (Q:VK):Prop
  | mk (n:Int) (z0:vs = [.int n]) (z1:Q (.bl true) H):SpWhole vs H Q
noncomputable def spWhole:Sp:=fun vs H Q _=>SpWhole vs H Q
theorem ok_whole (B:Blt mg) (D:Def K mg "_law_whole" s_whole ["_law_found"]):Has P w K mg base 1 "_law_whole" ["_law_found"] spWhole:=by
  refine D.has sc_whole (fun vs H Q E h => ?_) (fun f cdv A outer s H vs Q E hr h => ?_)
  · obtain ⟨n,rfl,_⟩:=h;rfl
  obtain ⟨n,rfl,q⟩:=h
  refine ⟨_,(pss_one (ps_ret (pe_and (pe_callB call_isT rfl B.isinstance_ boot_isinstance_ (pa_cons (pv 0) (pa_cons (pe_bltn (v := .ty "int") rfl B.int_ boot_int_ rfl) pa_nil))) (pe_one (pe_not (pe_callB call_isT rfl B.isinstance_ boot_isinstance_ (pa_cons (pv 0) (pa_cons (pe_bltn (v := .ty "bool") rfl B.bool_ boot_bool_ rfl) pa_nil)))))))),?_⟩
  try dsimp only [cxOf]
  refine ⟨_,rfl,_,_,_,true,rfl,.int _,kit_ii,_,rfl,iteT ?_⟩
  exact ⟨_,rfl,_,_,_,false,rfl,.int _,kit_ib,_,rfl,q⟩
structure RowsAt (H:Hp) (R:Addr) (rows:List Addr) (n:Nat) (M:Mx):Prop where
  at_:H R=some (.lst (rows.map V.ref))
  len:rows.length=n
  row:∀ (a:Nat) (c:Addr),rows[a]? = some c→H c=some (.lst (rowV M n a))
theorem RowsAt.same {H H':Hp} {R:Addr} {rows:List Addr} {n:Nat} {M:Mx} (h:RowsAt H R rows n M) (sm:Same H H'):RowsAt H' R rows n M:=⟨sm _ _ h.at_,h.len,fun a c e=>sm _ _ (h.row a c e)⟩
theorem RowsAt.ix {H:Hp} {R:Addr} {rows:List Addr} {n:Nat} {M:Mx} (r:RowsAt H R rows n M) {x:Nat} (hx:x < n):∃ c,rows[x]? = some c∧SqL K H c (rowV M n x):=⟨_,List.getElem?_eq_getElem (by rw [r.len];exact hx),SqL.of (r.row x _ (List.getElem?_eq_getElem (by rw [r.len];exact hx)))⟩
theorem cell_at {M:Mx} {n a b k:Nat} (hb:b < n) (h:M a b=some k):atI (rowV M n a) (b:Int)=some (nV k):=by
  have:=atI_nat (row_at (L:=M) (n:=n) (a:=a) hb)
  rw [h] at this;exact this
theorem lead_at {ls:List Nat} {n u:Nat} (hl:ls.length=n) (h:u < n):atI (ls.map nV) (u:Int)=some (nV (ls.getD u 0)):=atI_nat (by rw [List.getElem?_map,List.getElem?_eq_getElem (by rw [hl];exact h),List.getD_eq_getElem?_getD,List.getElem?_eq_getElem (by rw [hl];exact h)];rfl)
theorem rowV_len (M:Mx) (n a:Nat):(rowV M n a).length=n:=by unfold rowV;rw [List.length_map,List.length_range]
inductive SpSquare (vs:List V) (H:Hp) (Q:VK):Prop
  | mk (R:Addr) (rows:List Addr) (n:Nat) (M:Mx) (z0:vs = [.ref R,nV n]) (z1:RowsAt H R rows n M) (z4:Q (.bl true) H):SpSquare vs H Q
noncomputable def spSquare:Sp:=fun vs H Q _=>SpSquare vs H Q
theorem ok_square (B:Blt mg) (D:Def K mg "_law_square" s_square ["_law_found", "_law_many"]):Has P w K mg base 1 "_law_square" ["_law_found", "_law_many"] spSquare:=by
  refine D.has sc_square (fun vs H Q E h => ?_) (fun f cdv A outer s H vs Q E hr h => ?_)
  · obtain ⟨R,rows,n,M,rfl,_⟩:=h;rfl
  obtain ⟨R,rows,n,M,rfl,hR,q⟩:=h
  refine ⟨_,(pss_cons (ps_if (PW.pt (pw_or (pt_not (pt_val (pe_callB call_isT rfl B.isinstance_ boot_isinstance_ (pa_cons (pv 0) (pa_cons (pe_bltn (v := .ty "list") rfl B.list_ boot_list_ rfl) pa_nil))))) (pw_or1 (pt_cmpR op_ne (pe_callB call_len_seq rfl B.len_ PySem.boot_len (pa_cons (pv 0) pa_nil)) (pv 1) (nomark _))))) (pss_one (ps_ret pe_bl)) pss_nil)
    (pss_cons (ps_for PassesOwn.never rfl (pi_list (pv 0)) (pg_name (i:=2) sc_square.nd rfl (Or.inl rfl))
    (pss_one (ps_if (PW.pt (pw_or (pt_not (pt_val (pe_callB call_isT rfl B.isinstance_ boot_isinstance_ (pa_cons (pv 2) (pa_cons (pe_bltn (v := .ty "list") rfl B.list_ boot_list_ rfl) pa_nil))))) (pw_or1 (pt_cmpR op_ne (pe_callB call_len_seq rfl B.len_ PySem.boot_len (pa_cons (pv 2) pa_nil)) (pv 1) (nomark _))))) (pss_one (ps_ret pe_bl)) pss_nil)))
    (pss_one (ps_ret pe_bl)))),?_⟩
  try dsimp only [cxOf]
  have sR:=SqL.of (K:=K) hR.at_
  refine rd_ifR (fun c Hc=>Hc=H∧c=false) (fun Qc qc => ?_) (fun Hc z => ?_) (fun Hc z => ?_)
  · refine ⟨_,rfl,_,_,_,true,rfl,.lst hR.at_,kit_ll,_,rfl,iteF ⟨_,rfl,R,_,rfl,.inl sR,_,rfl,rfl,_,rfl,qc _ _ ⟨rfl,?_⟩⟩⟩
    rw [List.length_map,hR.len,decide_eq_true rfl];rfl
  · cases z.2
  obtain ⟨rfl,_⟩:=z
  refine ⟨_,rfl,R,rfl,⟨_,sR⟩,?_⟩
  refine for_list (xs:=rows.map V.ref) (fun i σ H'=>H'=Hc∧∃ x2, σ = [some (.ref R),some (nV n),x2]) ⟨rfl,none,rfl⟩ (fun i σ H' _ ⟨e,_⟩=>by rw [e];exact sR) ?_ ?_
  · rintro i v σ H' hv ⟨rfl,x2,rfl⟩
    rw [List.getElem?_map] at hv
    obtain ⟨c,hc,rfl⟩:=Option.map_eq_some_iff.mp hv
    have hrow:=hR.row i c hc
    dsimp only [gName]
    refine rd_ifR (fun c Hc=>Hc=H'∧c=false) (fun Qc qc => ?_) (fun Hc z => ?_) (fun Hc z => ?_)
    · refine ⟨_,rfl,_,_,_,true,rfl,.lst hrow,kit_ll,_,rfl,iteF ⟨_,rfl,c,_,rfl,.inl (SqL.of hrow),_,rfl,rfl,_,rfl,qc _ _ ⟨rfl,?_⟩⟩⟩
      rw [rowV_len,decide_eq_true rfl];rfl
    · cases z.2
    · obtain ⟨rfl,_⟩:=z
      exact ⟨rfl,_,rfl⟩
  · rintro σ H' ⟨rfl,x2,rfl⟩
    exact q
structure RtOk (M:Mx) (ls:List Nat) (n:Nat):Prop where
  len:ls.length=n
  non:∀ a b,a < n→b < n→ls.getD a 0≠ls.getD b 0→M a b=none
  som:∀ a b,a < n→b < n→ls.getD a 0=ls.getD b 0→∃ k,M a b=some k∧M b a=some k∧(k=0↔a=b)
inductive SpRight (vs:List V) (H:Hp) (Q:VK):Prop
  | mk (R L:Addr) (rows:List Addr) (n:Nat) (M:Mx) (ls:List Nat) (a b:Nat) (z0:vs = [.ref R,.ref L,nV a,nV b]) (z1:RowsAt H R rows n M) (z2:H L=some (.lst (ls.map nV))) (z3:RtOk M ls n) (z4:a < n) (z5:b < n) (z6:Q (.bl true) H):SpRight vs H Q
noncomputable def spRight:Sp:=fun vs H Q _=>SpRight vs H Q
theorem ok_right (B:Blt mg) (h_whole:Has P w K mg base 1 "_law_whole" ["_law_found"] spWhole) (D:Def K mg "_law_right" s_right ["_law_found", "_law_leads", "_law_a", "_law_b"]):Has P w K mg base 2 "_law_right" ["_law_found", "_law_leads", "_law_a", "_law_b"] spRight:=by
  refine D.has sc_right (fun vs H Q E h => ?_) (fun f cdv A outer s H vs Q E hr h => ?_)
  · obtain ⟨R,L,rows,n,M,ls,a,b,rfl,_⟩:=h;rfl
  obtain ⟨R,L,rows,n,M,ls,a,b,rfl,hR,hL,ok,ha,hb,q⟩:=h
  refine ⟨_,(pss_cons (ps_if (pt_cmpR op_ne (pe_ix ix_list (pv 1) (pv 2) (fun _ _=>rfl)) (pe_ix ix_list (pv 1) (pv 3) (fun _ _=>rfl)) (nomark _)) (pss_one (ps_ret (pe_cmpR op_isN (pe_ix ix_list (pe_ix ix_list (pv 0) (pv 2) (fun _ _=>rfl)) (pv 3) (fun _ _=>rfl)) pe_non (nomark _)))) pss_nil)
    (pss_cons (ps_if (PW.pt (pw_or (pt_not (pt_val (pe_callH h_whole hr (by omega) rfl (pa_cons (pe_ix ix_list (pe_ix ix_list (pv 0) (pv 2) (fun _ _=>rfl)) (pv 3) (fun _ _=>rfl)) pa_nil)))) (pw_or1 (pt_not (pt_val (pe_callH h_whole hr (by omega) rfl (pa_cons (pe_ix ix_list (pe_ix ix_list (pv 0) (pv 3) (fun _ _=>rfl)) (pv 2) (fun _ _=>rfl)) pa_nil))))))) (pss_one (ps_ret pe_bl)) pss_nil)
    (pss_cons (ps_if (pt_cmpR op_eq (pv 2) (pv 3) (nomark _)) (pss_one (ps_ret (pe_cmpR op_eq (pe_ix ix_list (pe_ix ix_list (pv 0) (pv 2) (fun _ _=>rfl)) (pv 3) (fun _ _=>rfl)) pe_int (nomark _)))) pss_nil)
    (pss_one (ps_ret (pe_and (pe_cmpR op_gt (pe_ix ix_list (pe_ix ix_list (pv 0) (pv 2) (fun _ _=>rfl)) (pv 3) (fun _ _=>rfl)) pe_int (nomark _)) (pe_one (pe_cmpR op_eq (pe_ix ix_list (pe_ix ix_list (pv 0) (pv 2) (fun _ _=>rfl)) (pv 3) (fun _ _=>rfl)) (pe_ix ix_list (pe_ix ix_list (pv 0) (pv 3) (fun _ _=>rfl)) (pv 2) (fun _ _=>rfl)) (nomark _))))))))),?_⟩
  try dsimp only [cxOf]
  have sR:=SqL.of (K:=K) hR.at_
  have sL:=SqL.of (K:=K) hL
  obtain ⟨ca,hca,rowa⟩:=hR.ix (K:=K) ha
  obtain ⟨cb,hcb,rowb⟩:=hR.ix (K:=K) hb
  refine ⟨_,rfl,_,rfl,L,_,_,_,rfl,rfl,sL,lead_at ok.len ha,_,rfl,_,rfl,L,_,_,_,rfl,rfl,sL,lead_at ok.len hb,rfl,_,rfl,iteDN (fun ne => ?_) (fun eq => ?_)⟩
  · have hnon:=ok.non a b ha hb fun z=>ne (by rw [z])
    have hat:=atI_nat (row_at (L:=M) (n:=n) (a:=a) hb)
    rw [hnon] at hat
    exact ⟨_,rfl,_,rfl,R,_,_,_,rfl,rfl,sR,ref_at hca,_,rfl,ca,_,_,_,rfl,rfl,rowa,hat,rfl,q⟩
  · have eq:ls.getD a 0=ls.getD b 0:=by have:=V.int.inj eq;omega
    obtain ⟨k,k1,k2,k3⟩:=ok.som a b ha hb eq
    have i1:=cell_at hb k1
    have i2:=cell_at ha k2
    dsimp only [tNext]
    refine rd_ifR (fun c Hc=>Hc=H∧c=false) (fun Qc qc => ?_) (fun Hc z => ?_) (fun Hc z => ?_)
    · refine ⟨_,rfl,_,rfl,R,_,_,_,rfl,rfl,sR,ref_at hca,_,rfl,ca,_,_,_,rfl,rfl,rowa,i1,k,rfl,_,rfl,iteF ?_⟩
      exact ⟨_,rfl,_,rfl,R,_,_,_,rfl,rfl,sR,ref_at hcb,_,rfl,cb,_,_,_,rfl,rfl,rowb,i2,k,rfl,_,rfl,qc _ _ ⟨rfl,rfl⟩⟩
    · cases z.2
    obtain ⟨rfl,_⟩:=z
    dsimp only [tNext]
    refine ⟨_,rfl,_,rfl,rfl,_,rfl,iteD (fun e => ?_) (fun ne => ?_)⟩
    · have e:a=b:=by have:=V.int.inj e;omega
      have k0:=k3.mpr e
      subst k0
      exact ⟨_,rfl,_,rfl,R,_,_,_,rfl,rfl,sR,ref_at hca,_,rfl,ca,_,_,_,rfl,rfl,rowa,i1,rfl,q⟩
    · have k0:0 < k:=Nat.pos_of_ne_zero fun z=>ne (by rw [k3.mp z])
      refine ⟨_,rfl,_,rfl,R,_,_,_,rfl,rfl,sR,ref_at hca,_,rfl,ca,_,_,_,rfl,rfl,rowa,i1,_,_,rfl,rfl,?_⟩
      rw [decide_eq_true (show (k:Int) > 0 by omega)]
      refine ⟨_,rfl,iteT ⟨_,rfl,_,rfl,R,_,_,_,rfl,rfl,sR,ref_at hca,_,rfl,ca,_,_,_,rfl,rfl,rowa,i1,_,rfl,_,rfl,R,_,_,_,rfl,rfl,sR,ref_at hcb,_,rfl,cb,_,_,_,rfl,rfl,rowb,i2,rfl,?_⟩⟩
      rw [decide_eq_true rfl]
      exact q
end

end K21
namespace K21
open PySem L2 Sw
section
variable {P:Program} {w:World} {K:PySem.W.Frag} {mg:Str→Option Value} {base:Heap}
theorem comp_newL {a:Addr} {xs:List V} {te:TE} {σ : St} {caps:List (Str × Nat)} {H:Hp} {Q:VK} (obs:List HO) (hS:SqL K H a xs) (hz:xs.length≤1000) (hy:obs.length=xs.length)
    (hel:∀ (i:Nat) x ob,xs[i]? = some x→obs[i]? = some ob→∀ H',Same H H'→∀ Q':VK,(∀ b H'',H' b=none→Same H' H''→H'' b=some ob→Q' (.ref b) H'')→te (some x :: capt σ caps) H' Q')
    (hq:∀ D H' (ads:List Addr),H D=none→Same H H'→H' D=some (.lst (ads.map V.ref))→ads.length=xs.length→(∀ (i:Nat) b,ads[i]? = some b→∃ ob,obs[i]? = some ob∧H' b=some ob∧H b=none)→Q (.ref D) H') :
    CompBody (Itl K a) (gName 0) te (List.replicate 1 none ++ capt σ caps) H Q:=by
  intro D hD
  refine ⟨fun i m τ zs H'=>m=xs.length - i∧i≤xs.length∧(∃ o, τ = o :: capt σ caps)∧Same H H'∧H' D=some (.lst zs)∧∃ ads:List Addr,zs=ads.map V.ref∧ads.length=i∧∀ (j:Nat) b,ads[j]? = some b→∃ ob,obs[j]? = some ob∧H' b=some ob∧b≠D∧H b=none,
    ⟨xs.length,by simp,Nat.zero_le _,⟨none,rfl⟩,same_new hD _,upd_same, [],rfl,rfl,fun j b hb=>nomatch hb⟩,?_⟩
  rintro i m τ zs H' ⟨rfl,hi,⟨o,rfl⟩,sm,hDl,ads,rfl,hlen,hall⟩
  refine ⟨hDl,?_⟩
  by_cases hlt:i < xs.length
  · refine .inr ⟨⟨xs,xs[i],sm.seq hS,by simp [hlt]⟩,?_,fun x H'' y => ?_⟩
    · rw [List.length_map,hlen];exact small1000 (by omega)
    · obtain ⟨e,y⟩:=y
      subst e
      have hx:=y xs (sm.seq hS)
      obtain ⟨ob,hob⟩:∃ ob,obs[i]? = some ob:=⟨_,List.getElem?_eq_getElem (by omega)⟩
      show te (some x :: capt σ caps) _ _
      refine hel i x ob hx hob _ sm _ fun b H2 hb s2 hb2 => ?_
      have hD2:=s2 _ _ hDl
      have nbD:b≠D:=fun z=>by rw [z,hDl] at hb;cases hb
      refine ⟨hD2,xs.length - (i+1),by omega,rfl,hlt,⟨_,rfl⟩,(sm.trans s2).put hD,upd_same,ads ++ [b],by rw [List.map_append];rfl,by rw [List.length_append,hlen];rfl,fun j c hc => ?_⟩
      rcases snoc_at hc with h1 | ⟨h1,h2⟩
      · obtain ⟨o1,k1,k2,k3,k4⟩:=hall j c h1
        exact ⟨o1,k1,by rw [upd_ne k3];exact s2 _ _ k2,k3,k4⟩
      · rw [h1,hlen,h2]
        exact ⟨ob,hob,by rw [upd_ne nbD];exact hb2,nbD,sm.free hb⟩
  · have e:i=xs.length:=by omega
    subst e
    exact .inl ⟨⟨xs,sm.seq hS,Nat.le_refl _⟩,hq D H' ads hD sm hDl hlen fun j b hb=>by obtain ⟨ob,k1,k2,_,k4⟩:=hall j b hb;exact ⟨ob,k1,k2,k4⟩⟩
noncomputable def opD:Option Nat→L2.D
  | none => .non
  | some k => .int (k:Int)
noncomputable def rowD (M:Mx) (n a:Nat):L2.D := .lst ((List.range n).map fun b=>opD (M a b))
noncomputable def rowsD (M:Mx) (n:Nat):List L2.D:=(List.range n).map (rowD M n)
theorem op_den {H:Hp} (o:Option Nat):Den H (opD o) (opV o):=by
  cases o with
  | none=>unfold opD opV;rw [Den]
  | some k=>unfold opD opV;rw [Den];exact .inl rfl
theorem dens_map {α : Type} {H:Hp} (f : α → L2.D) (g : α → V):∀ l:List α,(∀ x∈l,Den H (f x) (g x))→Dens H (l.map f) (l.map g)
  | [],_=>dens_nil
  | x :: l,h=>dens_cons (h x List.mem_cons_self) (dens_map f g l fun y hy=>h y (List.mem_cons_of_mem _ hy))
theorem RowsAt.den {H:Hp} {R:Addr} {rows:List Addr} {n:Nat} {M:Mx} (h:RowsAt H R rows n M):Den H (.lst (rowsD M n)) (.ref R):=by
  rw [Den]
  refine ⟨R,_,rfl,h.at_,?_⟩
  have er:rows.map V.ref=(List.range n).map fun a=>V.ref (rows.getD a 0):=by
    refine List.ext_getElem? fun i => ?_
    rw [List.getElem?_map,List.getElem?_map]
    by_cases hi:i < n
    · have hi':i < rows.length:=by rw [h.len];exact hi
      rw [List.getElem?_range hi,List.getElem?_eq_getElem hi']
      show some (V.ref rows[i])=some (V.ref (rows.getD i 0))
      rw [List.getD_eq_getElem?_getD,List.getElem?_eq_getElem hi'];rfl
    · rw [List.getElem?_eq_none (by rw [h.len];omega),List.getElem?_eq_none (by rw [List.length_range];omega)];rfl
  rw [er]
  unfold rowsD
  refine dens_map _ _ _ fun a ha => ?_
  have hn:=List.mem_range.mp ha
  have hc:rows[a]? = some (rows.getD a 0):=by rw [List.getD_eq_getElem?_getD,List.getElem?_eq_getElem (by rw [h.len];exact hn)];rfl
  unfold rowD
  rw [Den]
  refine ⟨_,_,rfl,h.row a _ hc,?_⟩
  unfold rowV
  exact dens_map _ _ _ fun b _=>op_den _
theorem deeps_le {ds:List L2.D} {k:Nat} (h:∀ d∈ds,d.deep≤k):L2.D.deeps ds≤k:=by
  induction ds with
  | nil=>rw [L2.D.deeps];omega
  | cons d ds ih =>
    rw [L2.D.deeps]
    have:=ih fun x hx=>h x (List.mem_cons_of_mem _ hx)
    have:=h d List.mem_cons_self
    omega
theorem rows_deep (M:Mx) (n:Nat):L2.D.deeps (rowsD M n)≤150:=deeps_le fun d hd=>by
  obtain ⟨a,_,rfl⟩:=List.mem_map.mp hd
  unfold rowD
  rw [L2.D.deep]
  have:L2.D.deeps ((List.range n).map fun b=>opD (M a b))≤0:=deeps_le fun d hd=>by
    obtain ⟨b,_,rfl⟩:=List.mem_map.mp hd
    cases M a b with
    | none=>unfold opD;rw [L2.D.deep];exact Nat.le_refl _
    | some k=>unfold opD;rw [L2.D.deep];exact Nat.le_refl _
  omega
noncomputable def ends1 (es:List WEd):List (Nat × Nat):=es.map fun e=>(e.1,e.2.1)
theorem wed_edges {H:Hp} {vs:List V} {es:List WEd} (h:WEdAt H vs es):Edges H vs (ends1 es):=by
  induction h with
  | nil=>exact .nil
  | cons h _ ih=>obtain ⟨q,c,e,hq⟩:=h;exact .cons ⟨q,_,e,hq⟩ ih
theorem GenOk.ends {ts:List Tm} {es:List WEd} (g:GenOk ts es):∀ a b:Nat,(a,b)∈ends1 es→a < ts.length∧b < ts.length:=fun a b h=>by
  obtain ⟨e,he,heq⟩:=List.mem_map.mp h
  cases heq
  exact ⟨(g.es_ e he).1,(g.es_ e he).2.1⟩
theorem GenOk.len {ts:List Tm} {es:List WEd} {ls:List Nat} (g:GenOk ts es) (c:Closed ts (ends1 es) ls):LenOk ts es ls:=by
  refine ⟨g.few,g.nod,g.arms,fun i x as e=>Nat.le_trans (g.sml i x as e) (by decide),c.1,g.es_,fun a b k d ha hb => ?_⟩
  have:=c.2.2.2 a b ha hb (der_eqv d)
  rw [List.getD_eq_getElem?_getD,List.getD_eq_getElem?_getD,this]
theorem lead_dist {ts:List Tm} {es:List WEd} {ls:List Nat} (hn:ts.Nodup) (c:Closed ts (ends1 es) ls) {a b:Nat} (ha:a < ts.length) (hb:b < ts.length) (e:ls.getD a 0=ls.getD b 0):∃ k,distF ts es a b=some k:=by
  have hl:=c.1
  have e1:ls[a]? = some (ls.getD a 0):=by rw [List.getD_eq_getElem?_getD,List.getElem?_eq_getElem (by omega)];rfl
  have e2:ls[b]? = some (ls.getD a 0):=by rw [e,List.getD_eq_getElem?_getD,List.getElem?_eq_getElem (by omega)];rfl
  obtain ⟨n,d⟩:=eqv_der hn (.trans (c.2.2.1 a _ e1) (.symm (c.2.2.1 b _ e2)))
  cases h:distF ts es a b with
  | none=>exact (dist_none h d).elim
  | some k=>exact ⟨k,rfl⟩
theorem rt_ok {ts:List Tm} {es:List WEd} {ls:List Nat} (g:GenOk ts es) (c:Closed ts (ends1 es) ls):RtOk (distF ts es) ls ts.length:=by
  refine ⟨c.1,fun a b ha hb ne => ?_,fun a b ha hb e => ?_⟩
  · cases h:distF ts es a b with
    | none=>rfl
    | some k=>exact absurd ((g.len c).lead a b k (dist_spec h).1 ha hb) ne
  · obtain ⟨k,hk⟩:=lead_dist g.nod c ha hb e
    refine ⟨k,hk,by rw [dist_symm];exact hk,fun z => ?_,fun z => ?_⟩
    · subst z;exact der_pos (fun e he=>(g.es_ e he).2.2) (dist_spec hk).1 rfl
    · subst z;rw [dist_self] at hk;exact (Option.some.inj hk).symm
theorem eds_dens {H:Hp}:∀ {ev:List V},(∀ v∈ev,EdD H v)→∃ ds,Dens H ds ev∧L2.D.deeps ds≤9
  | [],_=>⟨[],dens_nil,by rw [L2.D.deeps];omega⟩
  | v :: ev,h=>by
    obtain ⟨d,h1,_,h3⟩:=h v List.mem_cons_self
    obtain ⟨ds,h4,h5⟩:=eds_dens (ev:=ev) fun x hx=>h x (List.mem_cons_of_mem _ hx)
    exact ⟨d :: ds,dens_cons h1 h4,by rw [L2.D.deeps];omega⟩
theorem ints_den {H:Hp}:∀ ls:List Nat,Dens H (ls.map fun n:Nat=>L2.D.int (n:Int)) (ls.map nV)
  | []=>dens_nil
  | n :: ls=>dens_cons den_int (ints_den ls)
end

end K21
namespace K21
open PySem L2 Sw
section
variable {P:Program} {w:World} {K:PySem.W.Frag} {mg:Str→Option Value} {base:Heap}
inductive SpLaw (K:PySem.W.Frag) (vs:List V) (H:Hp) (Q:VK):Prop
  | mk (a:Addr) (ns:List Int) (z0:vs = [.ref a]) (z1:SqL K H a (ns.map V.int)) (z2:ns.length≤63) (z3:∀ H',Q (.bl true) H'):SpLaw K vs H Q
noncomputable def spLaw (K:PySem.W.Frag):Sp:=fun vs H Q _=>SpLaw K vs H Q
inductive LxI (H:Hp) (τ : St) (i:Nat) (σ : St) (H':Hp):Prop
  | mk (x8 x9:Option V):(σ = τ ++ [x8,x9,none])→H'=H→LxI H τ i σ H'
inductive LyI (H:Hp) (τ : St) (i:Nat) (σ : St) (H':Hp):Prop
  | mk (x9:Option V):(σ = τ ++ [x9,none])→H'=H→LyI H τ i σ H'
theorem ok_law (B:Blt mg) (h_draw:Has P w K mg base 1 "_law_draw" ["_law_cell", "_law_prime", "_law_many"] spDraw) (h_stuff:Has P w K mg base 4 "_law_stuff" ["_law_script", "_law_most"] (spStuff K)) (h_square:Has P w K mg base 1 "_law_square" ["_law_found", "_law_many"] spSquare) (h_right:Has P w K mg base 2 "_law_right" ["_law_found", "_law_leads", "_law_a", "_law_b"] spRight)
    (h_closed:Has P w K mg base 3 "closed" ["terms", "edges"] (spClosed K)) (h_lengths:Has P w K mg base 5 "lengths" ["terms", "leads", "edges"] spLengths)
    {f:Addr} {fd:FuncData} (F:Fun K "law" "law" s_law f fd):FnOk P w K mg base CX0 6 f fd ["_law_script"] (spLaw K):=by
  refine F.ok sc_law (fun vs H Q E h => ?_) (fun cdv A outer s H vs Q E hr h => ?_)
  · obtain ⟨a,ns,rfl,_⟩:=h;rfl
  obtain ⟨S,ns,rfl,hS,h63,q⟩:=h
  refine ⟨_,(pss_cons (ps_set (i:=1) sc_law.nd rfl (Or.inl rfl) (pe_ifExp (pt_cmpR op_gt (pe_callB call_len_seq rfl B.len_ PySem.boot_len (pa_cons (pv 0) pa_nil)) pe_int (nomark _)) (pe_ix ix_list (pv 0) pe_int (fun _ _=>rfl)) pe_int))
    (pss_cons (ps_set (i:=2) sc_law.nd rfl (Or.inl rfl) (pe_callH h_stuff hr (by omega) rfl (pa_cons (pv 0) (pa_cons (pe_ifExp (pt_cmpR op_eq (pe_callH h_draw hr (by omega) rfl (pa_cons (pv 1) (pa_cons pe_int (pa_cons pe_int pa_nil)))) pe_int (nomark _)) pe_int pe_int) pa_nil))))
    (pss_cons (ps_set (i:=3) sc_law.nd rfl (Or.inl rfl) (pe_ix ix_tup (pv 2) pe_int (fun _ _=>rfl)))
    (pss_cons (ps_set (i:=4) sc_law.nd rfl (Or.inl rfl) (pe_ix ix_tup (pv 2) pe_int (fun _ _=>rfl)))
    (pss_cons (ps_set (i:=5) sc_law.nd rfl (Or.inl rfl) (pe_callH h_closed hr (by omega) rfl (pa_cons (pe_callTy call_list_of rfl B.list_ boot_list_ (pa_cons (pv 3) pa_nil)) (pa_cons (pe_callTy call_list_of rfl B.list_ boot_list_ (pa_cons (pv 4) pa_nil)) pa_nil))))
    (pss_cons (ps_set (i:=6) sc_law.nd rfl (Or.inl rfl) (pe_lst (pa_cons (pe_callTy call_list_of rfl B.list_ boot_list_ (pa_cons (pv 3) pa_nil)) (pa_cons (pe_callTy call_list_of rfl B.list_ boot_list_ (pa_cons (pv 5) pa_nil)) (pa_cons (pe_callTy call_list_of rfl B.list_ boot_list_ (pa_cons (pv 4) pa_nil)) pa_nil)))))
    (pss_cons (ps_set (i:=7) sc_law.nd rfl (Or.inl rfl) (pe_callH h_lengths hr (by omega) rfl (pa_cons (pe_ix ix_list (pv 6) pe_int (fun _ _=>rfl)) (pa_cons (pe_ix ix_list (pv 6) pe_int (fun _ _=>rfl)) (pa_cons (pe_ix ix_list (pv 6) pe_int (fun _ _=>rfl)) pa_nil)))))
    (pss_cons (ps_if (PW.pt (pw_or (pt_cmpR (op_neD (un101 hr)) (pv 6) (pe_lst (pa_cons (pv 3) (pa_cons (pv 5) (pa_cons (pv 4) pa_nil)))) (nomark _)) (pw_or1 (pt_not (pt_val (pe_callH h_square hr (by omega) rfl (pa_cons (pv 7) (pa_cons (pe_callB call_len_seq rfl B.len_ PySem.boot_len (pa_cons (pv 3) pa_nil)) pa_nil)))))))) (pss_one (ps_ret pe_bl)) pss_nil)
    (pss_cons (ps_for PassesOwn.never rfl (pi_range1 rfl B.range_ (pa_cons (pe_callB call_len_seq rfl B.len_ PySem.boot_len (pa_cons (pv 3) pa_nil)) pa_nil)) (pg_name (i:=8) sc_law.nd rfl (Or.inl rfl))
    (pss_one (ps_for PassesOwn.never rfl (pi_range1 rfl B.range_ (pa_cons (pe_callB call_len_seq rfl B.len_ PySem.boot_len (pa_cons (pv 3) pa_nil)) pa_nil)) (pg_name (i:=9) sc_law.nd rfl (Or.inl rfl))
    (pss_one (ps_if (pt_not (pt_val (pe_callH h_right hr (by omega) rfl (pa_cons (pv 7) (pa_cons (pv 5) (pa_cons (pv 8) (pa_cons (pv 9) pa_nil))))))) (pss_one (ps_ret pe_bl)) pss_nil)))))
    (pss_cons (ps_setComp (i:=10) sc_law.nd rfl rfl (te:=(tCB (fun xs H Q=>J_call_list_of K xs H Q) (tCons _ tNil))) (own := ["_law_row"]) (caps := []) (comp_scope (defScope s_law) ["_law_script", "_law_seed", "_law_made", "_law_terms", "_law_edges", "_law_leads", "_law_handed", "_law_found", "_law_a", "_law_b", "_law_kept"] rfl rfl rfl (by decide +kernel)) (pi_list (pv 7)) rfl (fun _ _ _=>pg_name (i:=0) (show (["_law_row"]:List Str).Nodup by decide +kernel) rfl (Or.inl rfl)) (fun _ _ _=>(pe_callTy call_list_of rfl B.list_ boot_list_ (pa_cons (pv 0) pa_nil))) rfl)
    (pss_cons (ps_asg pe_int (pg_sub (pe_ix ix_list (pv 7) pe_int (fun _ _=>rfl)) pe_int set_list))
    (pss_cons (ps_expr (pe_bm0 PySem.F.plainAttrs_list PySem.F.slot_list_clear PySem.F.type_list_clear mt_clear (pe_ix ix_list (pv 7) pe_int (fun _ _=>rfl))))
    (pss_cons (ps_expr (pe_bm PySem.F.plainAttrs_list PySem.F.slot_list_append PySem.F.type_list_append mt_append (pv 7) (pa_cons (pe_lst pa_nil) pa_nil)))
    (pss_one (ps_ret (pe_cmpR (op_eqD (un101 hr)) (pe_callH h_lengths hr (by omega) rfl (pa_cons (pe_ix ix_list (pv 6) pe_int (fun _ _=>rfl)) (pa_cons (pe_ix ix_list (pv 6) pe_int (fun _ _=>rfl)) (pa_cons (pe_ix ix_list (pv 6) pe_int (fun _ _=>rfl)) pa_nil)))) (pv 10) (nomark _))))))))))))))))),?_⟩
  try dsimp only [cxOf]
  refine rd_E (t:=tIf _ _ _) (fun v H'=>H'=H∧∃ sd:Int,v = .int sd) (fun Q' q' => ?_) ?_
  · refine ⟨_,rfl,S,_,rfl,.inl hS,_,_,rfl,rfl,_,rfl,iteD (fun h => ?_) (fun h=>q' _ _ ⟨rfl,0,rfl⟩)⟩
    rw [List.length_map] at h
    obtain ⟨c,hc⟩:∃ c,ns[0]? = some c:=⟨_,List.getElem?_eq_getElem (by omega)⟩
    exact ⟨_,rfl,S,_,_,_,rfl,rfl,hS,atI_nat (j:=0) (by rw [List.getElem?_map,hc];rfl),q' _ _ ⟨rfl,c,rfl⟩⟩
  rintro v H' ⟨rfl,sd,rfl⟩
  dsimp only [gName]
  refine ⟨_,rfl,?_⟩
  refine rd_E (t:=tIf _ _ _) (fun v H=>H=H'∧∃ m:Int,v = .int m∧m≤30) (fun Q' q' => ?_) ?_
  · exact ⟨_,rfl,sd,10321,8,rfl,by decide,by decide,by decide,rfl,_,rfl,iteD (fun _=>q' _ _ ⟨rfl,18,rfl,by decide⟩) (fun _=>q' _ _ ⟨rfl,12,rfl,by decide⟩)⟩
  rintro v H ⟨rfl,most,rfl,hmost⟩
  refine ⟨S,ns,most,rfl,hS,h63,hmost,fun M T Ed us ev ts es H1 s1 hM hT htm hE hwe go el edd => ?_⟩
  dsimp only [gName]
  refine ⟨_,rfl,M,_,0,_,rfl,rfl,SqT.of hM,atI_nat (j:=0) rfl,?_⟩
  dsimp only [gName]
  refine ⟨_,rfl,M,_,1,_,rfl,rfl,SqT.of hM,atI_nat (j:=1) rfl,?_⟩
  dsimp only [gName]
  have lu:us.length=ts.length:=Paired.length htm
  have lv:ev.length=es.length:=Paired.length hwe
  have fw:=go.few
  have tw:=go.two
  clear hM
  have sml:∀ (i:Nat) x as,ts[i]? = some (.of x as)→as.length≤1000:=fun i x as e=>Nat.le_trans (go.sml i x as e) (by decide)
  refine ⟨_,rfl,T,us,rfl,.inl (SqL.of hT),fun c1 hc1 => ?_⟩
  have t1:=same_new hc1 (.lst us)
  have k1:=upd_same (H:=H1) (a:=c1) (o := .lst us)
  generalize upd H1 c1 (.lst us)=H12 at t1 k1 ⊢
  refine ⟨_,rfl,Ed,ev,rfl,.inl (SqL.of (t1 _ _ hE)),fun c2 hc2 => ?_⟩
  have t2:=same_new hc2 (.lst ev)
  have k2:=upd_same (H:=H12) (a:=c2) (o := .lst ev)
  generalize upd H12 c2 (.lst ev)=H13 at t2 k2 ⊢
  have u13:=t1.trans t2
  refine ⟨c1,c2,us,ev,ts,ends1 es,rfl,t2 _ _ k1,tms_same u13 htm,SqL.of k2,wed_edges (weds_keep hwe fun d ys e=>u13 _ _ e),go.arms,by omega,sml,go.ends,fun L ls H14 s14 hL0 hL14 cl => ?_⟩
  dsimp only [gName]
  have u14:=u13.trans s14
  have hT14:=u14 _ _ hT
  have hE14:=u14 _ _ hE
  have htm14:=tms_same u14 htm
  have hwe14:=weds_keep hwe (H':=H14) fun d ys e=>u14 _ _ e
  have edd14:∀ v∈ev,EdD H14 v:=fun v hv=>(edd v hv).keep fun d ys e=>u14 _ _ e
  clear hT hE htm hwe t1 k1 t2 k2 u13 u14 hc1 hc2 hL0 edd
  -- handed
  refine ⟨_,rfl,T,us,rfl,.inl (SqL.of hT14),fun c1 hc1 => ?_⟩
  have t1:=same_new hc1 (.lst us)
  have k1:=upd_same (H:=H14) (a:=c1) (o := .lst us)
  generalize upd H14 c1 (.lst us)=H15 at t1 k1 ⊢
  refine ⟨_,rfl,L,_,rfl,.inl (SqL.of (t1 _ _ hL14)),fun c2 hc2 => ?_⟩
  have t2:=same_new hc2 (.lst (ls.map nV))
  have k2:=upd_same (H:=H15) (a:=c2) (o := .lst (ls.map nV))
  generalize upd H15 c2 (.lst (ls.map nV))=H16 at t2 k2 ⊢
  refine ⟨_,rfl,Ed,ev,rfl,.inl (SqL.of (t2 _ _ (t1 _ _ hE14))),fun c3 hc3 => ?_⟩
  have t3:=same_new hc3 (.lst ev)
  have k3:=upd_same (H:=H16) (a:=c3) (o := .lst ev)
  generalize upd H16 c3 (.lst ev)=H17 at t3 k3 ⊢
  refine ⟨(show 3≤sizeLine by decide),fun Ha hHa => ?_⟩
  have t4:=same_new hHa (.lst [.ref c1,.ref c2,.ref c3])
  have k4:=upd_same (H:=H17) (a:=Ha) (o := .lst [.ref c1,.ref c2,.ref c3])
  generalize upd H17 Ha (.lst [.ref c1,.ref c2,.ref c3])=H18 at t4 k4 ⊢
  have u18:=t1.trans (t2.trans (t3.trans t4))
  have g1:=t4 _ _ (t3 _ _ (t2 _ _ k1))
  have g2:=t4 _ _ (t3 _ _ k2)
  have g3:=t4 _ _ k3
  have hT18:=u18 _ _ hT14
  have hE18:=u18 _ _ hE14
  have hL18:=u18 _ _ hL14
  have htm18:=tms_same u18 htm14
  have hwe18:=weds_keep hwe14 (H':=H18) fun d ys e=>u18 _ _ e
  have edd18:∀ v∈ev,EdD H18 v:=fun v hv=>(edd14 v hv).keep fun d ys e=>u18 _ _ e
  clear t1 t2 t3 t4 k1 k2 k3 u18 hT14 hE14 hL14 htm14 hwe14 edd14 hc1 hc2 hc3 hHa
  dsimp only [gName]
  have ok1:=go.len cl
  refine ⟨_,rfl,Ha,_,0,_,rfl,rfl,SqL.of k4,atI_nat (j:=0) rfl,_,rfl,Ha,_,1,_,rfl,rfl,SqL.of k4,atI_nat (j:=1) rfl,_,rfl,Ha,_,2,_,rfl,rfl,SqL.of k4,atI_nat (j:=2) rfl,?_⟩
  refine ⟨c1,c2,c3,us,ts,ls,ev,es,rfl,g1,htm18,g2,g3,hwe18,ok1,fun R rows H19 s19 hR lR hrows => ?_⟩
  have rB:RowsAt H19 R rows ts.length (distF ts es):=⟨hR,lR,fun a c e=>(hrows a c e).1⟩
  dsimp only [gName]
  have hT19:=s19 _ _ hT18
  have hE19:=s19 _ _ hE18
  have hL19:=s19 _ _ hL18
  have f1:=s19 _ _ g1
  have f2:=s19 _ _ g2
  have f3:=s19 _ _ g3
  have f4:=s19 _ _ k4
  have htm19:=tms_same s19 htm18
  have hwe19:=weds_keep hwe18 (H':=H19) fun d ys e=>s19 _ _ e
  have edd19:∀ v∈ev,EdD H19 v:=fun v hv=>(edd18 v hv).keep fun d ys e=>s19 _ _ e
  have rn:∀ c∈rows,∀ d u,H18 d=some u→d≠c:=fun c hc d u e z=>by
    obtain ⟨i,hi⟩:=List.getElem?_of_mem hc
    rw [z,(hrows i c hi).2] at e;cases e
  have rn1:∀ c∈rows,c1≠c∧c2≠c∧c3≠c∧Ha≠c:=fun c hc=>⟨rn c hc _ _ g1,rn c hc _ _ g2,rn c hc _ _ g3,rn c hc _ _ k4⟩
  clear hT18 hE18 hL18 g1 g2 g3 k4 htm18 hwe18 edd18 hR s19 rn
  refine rd_ifR (fun c Hc=>Same H19 Hc∧c=false) (fun Qc qc => ?_) (fun Hc z => ?_) ?_
  · refine ⟨_,rfl,_,rfl,_,rfl,_,rfl,(show 3≤sizeLine by decide),fun l hl => ?_⟩
    have t1:=same_new hl (.lst [.ref T,.ref L,.ref Ed])
    have k1:=upd_same (H:=H19) (a:=l) (o := .lst [.ref T,.ref L,.ref Ed])
    generalize upd H19 l (.lst [.ref T,.ref L,.ref Ed])=H20 at t1 k1 ⊢
    obtain ⟨ds,dd,dl⟩:=eds_dens edd19
    have dd:=dens_same t1 dd
    have td:=tms_den (tms_same t1 htm19)
    have id_:=ints_den (H:=H20) ls
    refine ⟨[.lst (ts.map tmD),.lst (ls.map fun n:Nat=>L2.D.int (n:Int)),.lst ds], [.lst (ts.map tmD),.lst (ls.map fun n:Nat=>L2.D.int (n:Int)),.lst ds],.inr ⟨den_lst (t1 _ _ f4) (dens_cons (den_lst (t1 _ _ f1) td) (dens_cons (den_lst (t1 _ _ f2) id_) (dens_cons (den_lst (t1 _ _ f3) dd) dens_nil))),den_lst k1 (dens_cons (den_lst (t1 _ _ hT19) td) (dens_cons (den_lst (t1 _ _ hL19) id_) (dens_cons (den_lst (t1 _ _ hE19) dd) dens_nil)))⟩,?_,?_⟩
    · have h1:=tms_deep ts
      have h2:=ints_deep ls
      rw [L2.D.deeps,L2.D.deeps,L2.D.deeps,L2.D.deeps,L2.D.deep,L2.D.deep,L2.D.deep]
      omega
    · rw [decide_eq_true rfl]
      refine ⟨_,rfl,iteF ⟨_,rfl,_,rfl,T,us,rfl,.inl (SqL.of (t1 _ _ hT19)),R,rows,ts.length,distF ts es,(by rw [lu];rfl),rB.same t1,_,rfl,qc _ _ ⟨t1,rfl⟩⟩⟩
  · cases z.2
  rintro H20 ⟨s20,_⟩
  have rB:=rB.same s20
  have hT20:=s20 _ _ hT19
  have hL20:=s20 _ _ hL19
  have g1:=s20 _ _ f1
  have g2:=s20 _ _ f2
  have g3:=s20 _ _ f3
  have g4:=s20 _ _ f4
  have htm20:=tms_same s20 htm19
  have hwe20:=weds_keep hwe19 (H':=H20) fun d ys e=>s20 _ _ e
  clear hT19 hE19 hL19 f1 f2 f3 f4 htm19 hwe19 edd19 s20 hrows
  have rt:=rt_ok go cl
  -- all pairs
  refine ⟨_,rfl,T,us,rfl,.inl (SqL.of hT20),_,rfl,by omega,by omega,?_⟩
  rw [Int.toNat_natCast]
  refine for_range (lo:=0) (LxI H20 [some (.ref S),some (.int sd),some (.ref M),some (.ref T),some (.ref Ed),some (.ref L),some (.ref Ha),some (.ref R)]) ⟨none,none,rfl,rfl⟩ ?_ ?_
  · rintro i σ H' hi ⟨x8,x9,rfl,rfl⟩
    dsimp only [gName]
    rw [Int.zero_add]
    refine ⟨_,rfl,T,us,rfl,.inl (SqL.of hT20),_,rfl,by omega,by omega,?_⟩
    rw [Int.toNat_natCast]
    refine for_range (lo:=0) (LyI H' [some (.ref S),some (.int sd),some (.ref M),some (.ref T),some (.ref Ed),some (.ref L),some (.ref Ha),some (.ref R),some (nV i)]) ⟨_,rfl,rfl⟩ ?_ ?_
    · rintro j σ H'' hj ⟨x9,rfl,rfl⟩
      dsimp only [gName]
      rw [Int.zero_add]
      exact ⟨_,rfl,_,rfl,_,rfl,_,rfl,R,L,rows,ts.length,distF ts es,ls,i,j,rfl,rB,hL20,rt,by omega,by omega,_,rfl,iteF ⟨_,rfl,rfl⟩⟩
    · rintro σ H'' ⟨x9,rfl,rfl⟩
      exact ⟨_,_,rfl,rfl⟩
  rintro σ H' ⟨x8,x9,rfl,rfl⟩
  -- kept
  refine ⟨_,rfl,R,rfl,⟨_,SqL.of rB.at_⟩,?_⟩
  refine comp_newL ((List.range ts.length).map fun a=>HO.lst (rowV (distF ts es) ts.length a)) (SqL.of rB.at_) (by rw [List.length_map,lR];omega) (by rw [List.length_map,List.length_map,List.length_range,lR]) (fun i x ob hx hob H'' sm Q' q' => ?_) (fun R2 H21 rows2 hR20 s21 hR2 lR2 hrows2 => ?_)
  · rw [List.getElem?_map] at hx hob
    obtain ⟨c,hc,rfl⟩:=Option.map_eq_some_iff.mp hx
    obtain ⟨j,hj,rfl⟩:=Option.map_eq_some_iff.mp hob
    have hi:i < ts.length:=by rw [← lR];exact (List.getElem?_eq_some_iff.mp hc).1
    rw [List.getElem?_range hi] at hj
    cases hj
    exact ⟨_,rfl,c,_,rfl,.inl (SqL.of (sm _ _ (rB.row i c hc))),fun l hl=>q' l _ hl (same_new hl _) upd_same⟩
  have lR2:rows2.length=ts.length:=by rw [lR2,List.length_map,lR]
  have rK:RowsAt H21 R2 rows2 ts.length (distF ts es):=⟨hR2,lR2,fun a c e=>by
    obtain ⟨ob,h1,h2,_⟩:=hrows2 a c e
    have hi:a < ts.length:=by rw [← lR2];exact (List.getElem?_eq_some_iff.mp e).1
    rw [List.getElem?_map,List.getElem?_range hi] at h1
    rw [h2, ← Option.some.inj h1]⟩
  have kn:∀ c∈rows2,H' c=none:=fun c hc=>by
    obtain ⟨i,hi⟩:=List.getElem?_of_mem hc
    obtain ⟨_,_,_,h⟩:=hrows2 i c hi
    exact h
  dsimp only [gName]
  obtain ⟨r0,hr0⟩:∃ c,rows[0]? = some c:=⟨_,List.getElem?_eq_getElem (by omega)⟩
  obtain ⟨r1,hr1⟩:∃ c,rows[1]? = some c:=⟨_,List.getElem?_eq_getElem (by omega)⟩
  have m0:=List.mem_of_getElem? hr0
  have m1:=List.mem_of_getElem? hr1
  have row0:=rB.row 0 r0 hr0
  have row1:=rB.row 1 r1 hr1
  -- what is not changed
  have R_1:c1≠R:=fun z=>by
    have e:=g1;rw [z,rB.at_] at e
    have e:rows.map V.ref=us:=by injection (Option.some.inj e)
    have h0:us[0]? = some (.ref r0):=by rw [← e,List.getElem?_map,hr0];rfl
    obtain ⟨t,_,ht⟩:=tms_at htm20 h0
    cases t with
    | of x as=>obtain ⟨p,c,e1,hp,_⟩:=ht;cases e1;rw [row0] at hp;cases hp
    | num n=>obtain ⟨p,e1,hp⟩:=ht;cases e1;rw [row0] at hp;cases hp
    | name n=>obtain ⟨p,e1,hp⟩:=ht;cases e1;rw [row0] at hp;cases hp
  have R_2:c2≠R:=fun z=>by
    have e:=g2;rw [z,rB.at_] at e
    have e:rows.map V.ref=ls.map nV:=by injection (Option.some.inj e)
    have h0:(ls.map nV)[0]? = some (.ref r0):=by rw [← e,List.getElem?_map,hr0];rfl
    rw [List.getElem?_map] at h0
    obtain ⟨n,_,e1⟩:=Option.map_eq_some_iff.mp h0
    cases e1
  have R_3:c3≠R:=fun z=>by
    have e:=g3;rw [z,rB.at_] at e
    have e:rows.map V.ref=ev:=by injection (Option.some.inj e)
    have h0:ev[0]? = some (.ref r0):=by rw [← e,List.getElem?_map,hr0];rfl
    obtain ⟨_,_,q,c,e1,hq⟩:=Paired.at hwe20 h0
    cases e1;rw [row0] at hq;cases hq
  have R_4:Ha≠R:=fun z=>by
    have e:=g4;rw [z,rB.at_] at e
    have e:rows.map V.ref = [.ref c1,.ref c2,.ref c3]:=by injection (Option.some.inj e)
    have h0:([.ref c1,.ref c2,.ref c3]:List V)[0]? = some (.ref r0):=by rw [← e,List.getElem?_map,hr0];rfl
    have:=Option.some.inj h0
    injection this with this
    exact (rn1 r0 m0).1 this
  have R_5:R2≠R:=fun z=>by rw [z,rB.at_] at hR20;cases hR20
  have rB2:=rB.same s21
  have row0':=s21 _ _ row0
  have row1':=s21 _ _ row1
  have r0R:r0≠R:=fun z=>by
    rw [z,rB.at_] at row0
    have e:rows.map V.ref=rowV (distF ts es) ts.length 0:=by injection (Option.some.inj row0)
    have h0:(rowV (distF ts es) ts.length 0)[0]? = some (.ref r0):=by rw [← e,List.getElem?_map,hr0];rfl
    rw [row_at (by omega)] at h0
    cases e1:distF ts es 0 0 with
    | none=>rw [e1] at h0;cases h0
    | some k=>rw [e1] at h0;cases h0
  have r1R:r1≠R:=fun z=>by
    rw [z,rB.at_] at row1
    have e:rows.map V.ref=rowV (distF ts es) ts.length 1:=by injection (Option.some.inj row1)
    have h0:(rowV (distF ts es) ts.length 1)[0]? = some (.ref r0):=by rw [← e,List.getElem?_map,hr0];rfl
    rw [row_at (by omega)] at h0
    cases e1:distF ts es 1 0 with
    | none=>rw [e1] at h0;cases h0
    | some k=>rw [e1] at h0;cases h0
  refine ⟨_,rfl,R,_,0,_,rfl,rfl,SqL.of rB2.at_,atI_nat (j:=0) (by rw [List.getElem?_map,hr0];rfl),r0,_,1,1,rfl,rfl,row0',by rw [rowV_len];unfold ixN;rw [if_pos (by omega),if_pos (by omega)];rfl,?_⟩
  have n1:∀ c u,c≠r0→H21 c=some u→(upd H21 r0 (.lst ((rowV (distF ts es) ts.length 0).set 1 (.int 0)))) c=some u:=fun c u h e=>by rw [upd_ne h];exact e
  obtain ⟨xs1,row1''⟩:∃ xs,(upd H21 r0 (.lst ((rowV (distF ts es) ts.length 0).set 1 (.int 0)))) r1=some (.lst xs):=by
    by_cases h:r1=r0
    · rw [h];exact ⟨_,upd_same⟩
    · exact ⟨_,n1 _ _ h row1'⟩
  generalize upd H21 r0 (.lst ((rowV (distF ts es) ts.length 0).set 1 (.int 0)))=H22 at n1 row1'' ⊢
  have hR22:=n1 _ _ (Ne.symm r0R) rB2.at_
  refine ⟨_,rfl,R,_,1,_,rfl,rfl,SqL.of hR22,atI_nat (j:=1) (by rw [List.getElem?_map,hr1];rfl),(show tyV K "list" (.ref r1) H22 from .inl ⟨rfl,_,SqL.of row1''⟩),r1,_,rfl,rfl,row1'',?_⟩
  have n2:∀ c u,c≠r1→H22 c=some u→(upd H22 r1 (.lst [])) c=some u:=fun c u h e=>by rw [upd_ne h];exact e
  generalize upd H22 r1 (.lst [])=H23 at n2 ⊢
  have hR23:=n2 _ _ (Ne.symm r1R) hR22
  refine ⟨_,rfl,.inl ⟨rfl,_,SqL.of hR23⟩,(show 0≤sizeLine by decide),fun l hl => ?_⟩
  have s24:=same_new hl (.lst [])
  generalize upd H23 l (.lst [])=H24 at s24 ⊢
  refine ⟨R,_,_,rfl,rfl,s24 _ _ hR23,small1000 (by rw [List.length_map];omega),?_⟩
  have n4:∀ c u,c≠R→H24 c=some u→(upd H24 R (.lst (rows.map V.ref ++ [.ref l]))) c=some u:=fun c u h e=>by rw [upd_ne h];exact e
  generalize upd H24 R (.lst (rows.map V.ref ++ [.ref l]))=H25 at n4 ⊢
  have st:∀ c u,c≠R→c≠r0→c≠r1→H21 c=some u→H25 c=some u:=fun c u h h0 h1 e=>n4 _ _ h (s24 _ _ (n2 _ _ h1 (n1 _ _ h0 e)))
  have stt:∀ c ys,H21 c=some (.tup ys)→H25 c=some (.tup ys):=fun c ys e=>st c _ (ne_of e rB2.at_ (fun z=>nomatch z)) (ne_of e row0' (fun z=>nomatch z)) (ne_of e row1' (fun z=>nomatch z)) e
  have G1:=st _ _ R_1 (rn1 r0 m0).1 (rn1 r1 m1).1 (s21 _ _ g1)
  have G2:=st _ _ R_2 (rn1 r0 m0).2.1 (rn1 r1 m1).2.1 (s21 _ _ g2)
  have G3:=st _ _ R_3 (rn1 r0 m0).2.2.1 (rn1 r1 m1).2.2.1 (s21 _ _ g3)
  have G4:=st _ _ R_4 (rn1 r0 m0).2.2.2 (rn1 r1 m1).2.2.2 (s21 _ _ g4)
  have htm25:Tms H25 us ts:=tms_keep stt (tms_same s21 htm20)
  have hwe25:WEdAt H25 ev es:=weds_keep (weds_keep hwe20 fun d ys e=>s21 _ _ e) stt
  have rK25:RowsAt H25 R2 rows2 ts.length (distF ts es):=by
    refine ⟨st _ _ R_5 (fun z => ?_) (fun z => ?_) rK.at_,rK.len,fun a c e => ?_⟩
    · rw [z,row0] at hR20;cases hR20
    · rw [z,row1] at hR20;cases hR20
    · have hn:=kn c (List.mem_of_getElem? e)
      refine st _ _ (fun z => ?_) (fun z => ?_) (fun z => ?_) (rK.row a c e)
      · rw [z,rB.at_] at hn;cases hn
      · rw [z,row0] at hn;cases hn
      · rw [z,row1] at hn;cases hn
  refine ⟨_,rfl,Ha,_,0,_,rfl,rfl,SqL.of G4,atI_nat (j:=0) rfl,_,rfl,Ha,_,1,_,rfl,rfl,SqL.of G4,atI_nat (j:=1) rfl,_,rfl,Ha,_,2,_,rfl,rfl,SqL.of G4,atI_nat (j:=2) rfl,?_⟩
  refine ⟨c1,c2,c3,us,ts,ls,ev,es,rfl,G1,htm25,G2,G3,hwe25,ok1,fun R4 rows4 H29 s29 hR4 lR4 hrows4 => ?_⟩
  have rG:RowsAt H29 R4 rows4 ts.length (distF ts es):=⟨hR4,lR4,fun a c e=>(hrows4 a c e).1⟩
  refine ⟨_,rfl,_,_,.inr ⟨rG.den,(rK25.same s29).den⟩,rows_deep _ _,?_⟩
  rw [decide_eq_true rfl]
  exact q _
end

end K21
namespace K21
open PySem L2
theorem len_s {n:Nat} {us:List Value} (h:us.length=n+1):∃ v vs,us=v :: vs∧vs.length=n:=by cases us with | nil=>cases h | cons v vs=>exact ⟨v,vs,rfl,Nat.succ.inj h⟩
theorem len1_ {fd:FuncData} {ps:List Str} (h:∀ v0:Value,bindArgs fd ⟨[v0], []⟩=pure (ps.zip [v0])):∀ us:List Value,us.length=1→bindArgs fd ⟨us, []⟩=pure (ps.zip us):=fun us h0=>by obtain ⟨v0,us,rfl,h1⟩:=len_s h0;obtain rfl:=List.eq_nil_of_length_eq_zero h1;exact h v0
open PySem L2 Sw
theorem len2_ {fd:FuncData} {ps:List Str} (h:∀ v0 v1:Value,bindArgs fd ⟨[v0,v1], []⟩=pure (ps.zip [v0,v1])):∀ us:List Value,us.length=2→bindArgs fd ⟨us, []⟩=pure (ps.zip us):=fun us h0=>by obtain ⟨v0,us,rfl,h1⟩:=len_s h0;obtain ⟨v1,us,rfl,h2⟩:=len_s h1;obtain rfl:=List.eq_nil_of_length_eq_zero h2;exact h v0 v1
open PySem L2 Sw
theorem len3_ {fd:FuncData} {ps:List Str} (h:∀ v0 v1 v2:Value,bindArgs fd ⟨[v0,v1,v2], []⟩=pure (ps.zip [v0,v1,v2])):∀ us:List Value,us.length=3→bindArgs fd ⟨us, []⟩=pure (ps.zip us):=fun us h0=>by obtain ⟨v0,us,rfl,h1⟩:=len_s h0;obtain ⟨v1,us,rfl,h2⟩:=len_s h1;obtain ⟨v2,us,rfl,h3⟩:=len_s h2;obtain rfl:=List.eq_nil_of_length_eq_zero h3;exact h v0 v1 v2
open PySem L2 Sw
theorem len4_ {fd:FuncData} {ps:List Str} (h:∀ v0 v1 v2 v3:Value,bindArgs fd ⟨[v0,v1,v2,v3], []⟩=pure (ps.zip [v0,v1,v2,v3])):∀ us:List Value,us.length=4→bindArgs fd ⟨us, []⟩=pure (ps.zip us):=fun us h0=>by obtain ⟨v0,us,rfl,h1⟩:=len_s h0;obtain ⟨v1,us,rfl,h2⟩:=len_s h1;obtain ⟨v2,us,rfl,h3⟩:=len_s h2;obtain ⟨v3,us,rfl,h4⟩:=len_s h3;obtain rfl:=List.eq_nil_of_length_eq_zero h4;exact h v0 v1 v2 v3
open PySem L2 Sw
theorem all_mk {l:PySem.W.OpenLaw} {w:World} {K:PySem.W.Frag} {h:Heap} {mg:Str→Option Value} {fa CS f0 f1 f2 f3 f4 f5 f6 f7 f8 f9 f10 f11 f12 f13 f14 f15 f16 f17 f18 f19 f20 f21 f22 f23 f24  : Addr} (X:K.In h) (G:h.Ns mainGlobals mg) (hfa:mg "law" = some (.ref fa))
    {od0 an0 od1 an1 od2 an2 od3 an3 od4 an4 od5 an5 od6 an6 od7 an7 od8 an8 od9 an9 od10 an10 od11 an11 od12 an12 od13 an13 od14 an14 od15 an15 od16 an16 od17 an17 od18 an18 od19 an19 od20 an20 od21 an21 od22 an22 od23 an23 od24 an24:Option Addr} {sl0 sl1 sl2 sl3 sl4 sl5 sl6 sl7 sl8 sl9 sl10 sl11 sl12 sl13 sl14 sl15 sl16 sl17 sl18 sl19 sl20 sl21 sl22 sl23 sl24:Array (Option Value)} {oc0 kV0 dc0 pm0 cd0 ct0 oc1 kV1 dc1 pm1 cd1 ct1 oc2 kV2 dc2 pm2 cd2 ct2 oc3 kV3 dc3 pm3 cd3 ct3 oc4 kV4 dc4 pm4 cd4 ct4 oc5 kV5 dc5 pm5 cd5 ct5 oc6 kV6 dc6 pm6 cd6 ct6 oc7 kV7 dc7 pm7 cd7 ct7 oc8 kV8 dc8 pm8 cd8 ct8 oc9 kV9 dc9 pm9 cd9 ct9 oc10 kV10 dc10 pm10 cd10 ct10 oc11 kV11 dc11 pm11 cd11 ct11 oc12 kV12 dc12 pm12 cd12 ct12 oc13 kV13 dc13 pm13 cd13 ct13 oc14 kV14 dc14 pm14 cd14 ct14 oc15 kV15 dc15 pm15 cd15 ct15 oc16 kV16 dc16 pm16 cd16 ct16 oc17 kV17 dc17 pm17 cd17 ct17 oc18 kV18 dc18 pm18 cd18 ct18 oc19 kV19 dc19 pm19 cd19 ct19 oc20 kV20 dc20 pm20 cd20 ct20 oc21 kV21 dc21 pm21 cd21 ct21 oc22 kV22 dc22 pm22 cd22 ct22 oc23 kV23 dc23 pm23 cd23 ct23 oc24 kV24 dc24 pm24 cd24 ct24:Value}
    (aC:PySem.W.nsIn K mainGlobals "Search" = some (some (.ref CS)))
    (a0:PySem.W.nsIn K mainGlobals "mark" = some (some (.ref f0)))
    (l0:K.lookup f0=some ⟨oc0,od0,.func (PySem.W.fnOf "mark" "mark" (defArgs s_mark) (defBody s_mark) (defScope s_mark) .none kV0 dc0 pm0 an0 cd0 ct0),sl0⟩)
    (c0:PySem.W.codeIn K cd0 "mark" = true)
    (k0:PySem.W.keepIn K (.ref f0)=true)
    (a1:PySem.W.nsIn K mainGlobals "join_classes" = some (some (.ref f1)))
    (l1:K.lookup f1=some ⟨oc1,od1,.func (PySem.W.fnOf "join_classes" "join_classes" (defArgs s_join_classes) (defBody s_join_classes) (defScope s_join_classes) .none kV1 dc1 pm1 an1 cd1 ct1),sl1⟩)
    (c1:PySem.W.codeIn K cd1 "join_classes" = true)
    (k1:PySem.W.keepIn K (.ref f1)=true)
    (a2:PySem.W.nsIn K mainGlobals "join_like" = some (some (.ref f2)))
    (l2:K.lookup f2=some ⟨oc2,od2,.func (PySem.W.fnOf "join_like" "join_like" (defArgs s_join_like) (defBody s_join_like) (defScope s_join_like) .none kV2 dc2 pm2 an2 cd2 ct2),sl2⟩)
    (c2:PySem.W.codeIn K cd2 "join_like" = true)
    (k2:PySem.W.keepIn K (.ref f2)=true)
    (a3:PySem.W.nsIn K mainGlobals "closed" = some (some (.ref f3)))
    (l3:K.lookup f3=some ⟨oc3,od3,.func (PySem.W.fnOf "closed" "closed" (defArgs s_closed) (defBody s_closed) (defScope s_closed) .none kV3 dc3 pm3 an3 cd3 ct3),sl3⟩)
    (c3:PySem.W.codeIn K cd3 "closed" = true)
    (k3:PySem.W.keepIn K (.ref f3)=true)
    (a4:PySem.W.nsIn K mainGlobals "lengths" = some (some (.ref f4)))
    (l4:K.lookup f4=some ⟨oc4,od4,.func (PySem.W.fnOf "lengths" "lengths" (defArgs s_lengths) (defBody s_lengths) (defScope s_lengths) .none kV4 dc4 pm4 an4 cd4 ct4),sl4⟩)
    (c4:PySem.W.codeIn K cd4 "lengths" = true)
    (k4:PySem.W.keepIn K (.ref f4)=true)
    (a5:PySem.W.nsIn K mainGlobals "like_pairs" = some (some (.ref f5)))
    (l5:K.lookup f5=some ⟨oc5,od5,.func (PySem.W.fnOf "like_pairs" "like_pairs" (defArgs s_like_pairs) (defBody s_like_pairs) (defScope s_like_pairs) .none kV5 dc5 pm5 an5 cd5 ct5),sl5⟩)
    (c5:PySem.W.codeIn K cd5 "like_pairs" = true)
    (k5:PySem.W.keepIn K (.ref f5)=true)
    (a6:PySem.W.nsIn K mainGlobals "unlike_arms" = some (some (.ref f6)))
    (l6:K.lookup f6=some ⟨oc6,od6,.func (PySem.W.fnOf "unlike_arms" "unlike_arms" (defArgs s_unlike_arms) (defBody s_unlike_arms) (defScope s_unlike_arms) .none kV6 dc6 pm6 an6 cd6 ct6),sl6⟩)
    (c6:PySem.W.codeIn K cd6 "unlike_arms" = true)
    (k6:PySem.W.keepIn K (.ref f6)=true)
    (a7:PySem.W.nsIn K mainGlobals "like_length" = some (some (.ref f7)))
    (l7:K.lookup f7=some ⟨oc7,od7,.func (PySem.W.fnOf "like_length" "like_length" (defArgs s_like_length) (defBody s_like_length) (defScope s_like_length) .none kV7 dc7 pm7 an7 cd7 ct7),sl7⟩)
    (c7:PySem.W.codeIn K cd7 "like_length" = true)
    (k7:PySem.W.keepIn K (.ref f7)=true)
    (a8:PySem.W.findIn K (.ref CS) "__init__" = some (some (.ref f8)))
    (l8:K.lookup f8=some ⟨oc8,od8,.func (PySem.W.fnOf "__init__" "Search.__init__" (defArgs s_sinit) (defBody s_sinit) (defScope s_sinit) .none kV8 dc8 pm8 an8 cd8 ct8),sl8⟩)
    (c8:PySem.W.codeIn K cd8 "Search.__init__" = true)
    (k8:PySem.W.keepIn K (.ref f8)=true)
    (n8:PySem.W.isFn K (.ref f8)=true)
    (a9:PySem.W.findIn K (.ref CS) "await_arms" = some (some (.ref f9)))
    (l9:K.lookup f9=some ⟨oc9,od9,.func (PySem.W.fnOf "await_arms" "Search.await_arms" (defArgs s_await_arms) (defBody s_await_arms) (defScope s_await_arms) .none kV9 dc9 pm9 an9 cd9 ct9),sl9⟩)
    (c9:PySem.W.codeIn K cd9 "Search.await_arms" = true)
    (k9:PySem.W.keepIn K (.ref f9)=true)
    (n9:PySem.W.isFn K (.ref f9)=true)
    (a10:PySem.W.findIn K (.ref CS) "offer_step" = some (some (.ref f10)))
    (l10:K.lookup f10=some ⟨oc10,od10,.func (PySem.W.fnOf "offer_step" "Search.offer_step" (defArgs s_offer_step) (defBody s_offer_step) (defScope s_offer_step) .none kV10 dc10 pm10 an10 cd10 ct10),sl10⟩)
    (c10:PySem.W.codeIn K cd10 "Search.offer_step" = true)
    (k10:PySem.W.keepIn K (.ref f10)=true)
    (n10:PySem.W.isFn K (.ref f10)=true)
    (a11:PySem.W.findIn K (.ref CS) "offer" = some (some (.ref f11)))
    (l11:K.lookup f11=some ⟨oc11,od11,.func (PySem.W.fnOf "offer" "Search.offer" (defArgs s_offer) (defBody s_offer) (defScope s_offer) .none kV11 dc11 pm11 an11 cd11 ct11),sl11⟩)
    (c11:PySem.W.codeIn K cd11 "Search.offer" = true)
    (k11:PySem.W.keepIn K (.ref f11)=true)
    (n11:PySem.W.isFn K (.ref f11)=true)
    (a12:PySem.W.findIn K (.ref CS) "settle_all" = some (some (.ref f12)))
    (l12:K.lookup f12=some ⟨oc12,od12,.func (PySem.W.fnOf "settle_all" "Search.settle_all" (defArgs s_settle_all) (defBody s_settle_all) (defScope s_settle_all) .none kV12 dc12 pm12 an12 cd12 ct12),sl12⟩)
    (c12:PySem.W.codeIn K cd12 "Search.settle_all" = true)
    (k12:PySem.W.keepIn K (.ref f12)=true)
    (n12:PySem.W.isFn K (.ref f12)=true)
    (a13:PySem.W.findIn K (.ref CS) "settle" = some (some (.ref f13)))
    (l13:K.lookup f13=some ⟨oc13,od13,.func (PySem.W.fnOf "settle" "Search.settle" (defArgs s_settle) (defBody s_settle) (defScope s_settle) .none kV13 dc13 pm13 an13 cd13 ct13),sl13⟩)
    (c13:PySem.W.codeIn K cd13 "Search.settle" = true)
    (k13:PySem.W.keepIn K (.ref f13)=true)
    (n13:PySem.W.isFn K (.ref f13)=true)
    (a14:PySem.W.findIn K (.ref CS) "find_head" = some (some (.ref f14)))
    (l14:K.lookup f14=some ⟨oc14,od14,.func (PySem.W.fnOf "find_head" "Search.find_head" (defArgs s_find_head) (defBody s_find_head) (defScope s_find_head) .none kV14 dc14 pm14 an14 cd14 ct14),sl14⟩)
    (c14:PySem.W.codeIn K cd14 "Search.find_head" = true)
    (k14:PySem.W.keepIn K (.ref f14)=true)
    (n14:PySem.W.isFn K (.ref f14)=true)
    (a15:PySem.W.findIn K (.ref CS) "lengthen" = some (some (.ref f15)))
    (l15:K.lookup f15=some ⟨oc15,od15,.func (PySem.W.fnOf "lengthen" "Search.lengthen" (defArgs s_lengthen) (defBody s_lengthen) (defScope s_lengthen) .none kV15 dc15 pm15 an15 cd15 ct15),sl15⟩)
    (c15:PySem.W.codeIn K cd15 "Search.lengthen" = true)
    (k15:PySem.W.keepIn K (.ref f15)=true)
    (n15:PySem.W.isFn K (.ref f15)=true)
    (a16:PySem.W.nsIn K mainGlobals "_law_draw" = some (some (.ref f16)))
    (l16:K.lookup f16=some ⟨oc16,od16,.func (PySem.W.fnOf "_law_draw" "_law_draw" (defArgs s_draw) (defBody s_draw) (defScope s_draw) .none kV16 dc16 pm16 an16 cd16 ct16),sl16⟩)
    (c16:PySem.W.codeIn K cd16 "_law_draw" = true)
    (k16:PySem.W.keepIn K (.ref f16)=true)
    (a17:PySem.W.nsIn K mainGlobals "_law_word" = some (some (.ref f17)))
    (l17:K.lookup f17=some ⟨oc17,od17,.func (PySem.W.fnOf "_law_word" "_law_word" (defArgs s_word) (defBody s_word) (defScope s_word) .none kV17 dc17 pm17 an17 cd17 ct17),sl17⟩)
    (c17:PySem.W.codeIn K cd17 "_law_word" = true)
    (k17:PySem.W.keepIn K (.ref f17)=true)
    (a18:PySem.W.nsIn K mainGlobals "_law_term" = some (some (.ref f18)))
    (l18:K.lookup f18=some ⟨oc18,od18,.func (PySem.W.fnOf "_law_term" "_law_term" (defArgs s_term) (defBody s_term) (defScope s_term) .none kV18 dc18 pm18 an18 cd18 ct18),sl18⟩)
    (c18:PySem.W.codeIn K cd18 "_law_term" = true)
    (k18:PySem.W.keepIn K (.ref f18)=true)
    (a19:PySem.W.nsIn K mainGlobals "_law_edge" = some (some (.ref f19)))
    (l19:K.lookup f19=some ⟨oc19,od19,.func (PySem.W.fnOf "_law_edge" "_law_edge" (defArgs s_edge) (defBody s_edge) (defScope s_edge) .none kV19 dc19 pm19 an19 cd19 ct19),sl19⟩)
    (c19:PySem.W.codeIn K cd19 "_law_edge" = true)
    (k19:PySem.W.keepIn K (.ref f19)=true)
    (a20:PySem.W.nsIn K mainGlobals "_law_stuff" = some (some (.ref f20)))
    (l20:K.lookup f20=some ⟨oc20,od20,.func (PySem.W.fnOf "_law_stuff" "_law_stuff" (defArgs s_stuff) (defBody s_stuff) (defScope s_stuff) .none kV20 dc20 pm20 an20 cd20 ct20),sl20⟩)
    (c20:PySem.W.codeIn K cd20 "_law_stuff" = true)
    (k20:PySem.W.keepIn K (.ref f20)=true)
    (a21:PySem.W.nsIn K mainGlobals "_law_whole" = some (some (.ref f21)))
    (l21:K.lookup f21=some ⟨oc21,od21,.func (PySem.W.fnOf "_law_whole" "_law_whole" (defArgs s_whole) (defBody s_whole) (defScope s_whole) .none kV21 dc21 pm21 an21 cd21 ct21),sl21⟩)
    (c21:PySem.W.codeIn K cd21 "_law_whole" = true)
    (k21:PySem.W.keepIn K (.ref f21)=true)
    (a22:PySem.W.nsIn K mainGlobals "_law_square" = some (some (.ref f22)))
    (l22:K.lookup f22=some ⟨oc22,od22,.func (PySem.W.fnOf "_law_square" "_law_square" (defArgs s_square) (defBody s_square) (defScope s_square) .none kV22 dc22 pm22 an22 cd22 ct22),sl22⟩)
    (c22:PySem.W.codeIn K cd22 "_law_square" = true)
    (k22:PySem.W.keepIn K (.ref f22)=true)
    (a23:PySem.W.nsIn K mainGlobals "_law_right" = some (some (.ref f23)))
    (l23:K.lookup f23=some ⟨oc23,od23,.func (PySem.W.fnOf "_law_right" "_law_right" (defArgs s_right) (defBody s_right) (defScope s_right) .none kV23 dc23 pm23 an23 cd23 ct23),sl23⟩)
    (c23:PySem.W.codeIn K cd23 "_law_right" = true)
    (k23:PySem.W.keepIn K (.ref f23)=true)
    (a24:PySem.W.nsIn K mainGlobals "law" = some (some (.ref f24)))
    (l24:K.lookup f24=some ⟨oc24,od24,.func (PySem.W.fnOf "law" "law" (defArgs s_law) (defBody s_law) (defScope s_law) .none kV24 dc24 pm24 an24 cd24 ct24),sl24⟩)
    (c24:PySem.W.codeIn K cd24 "law" = true)
    (k24:PySem.W.keepIn K (.ref f24)=true)
    (rMk:PySem.W.makesIn K CS=true)
    (rKp:PySem.W.keepIn K (.ref CS)=true)
    (rPg:PySem.W.plainGet K CS Str.empty=true)
    (rHd:PySem.W.hasDictIn K CS=true)
    (rPo:PySem.W.plainOver K CS=true)
    (rSa:PySem.W.findIn K (.ref CS) "__setattr__" = some (some (.builtin "object.__setattr__")))
    (rN_terms:PySem.W.findIn K (.ref CS) "terms" = some none)
    (rN_least:PySem.W.findIn K (.ref CS) "least" = some none)
    (rN_waiting:PySem.W.findIn K (.ref CS) "waiting" = some none)
    (rN_heads:PySem.W.findIn K (.ref CS) "heads" = some none)
    (rN_single:PySem.W.findIn K (.ref CS) "single" = some none)
    (rN_steps:PySem.W.findIn K (.ref CS) "steps" = some none)
    (rN_awaited:PySem.W.findIn K (.ref CS) "awaited" = some none)
    (rN_lacking:PySem.W.findIn K (.ref CS) "lacking" = some none)
    (z0:PySem.W.nsIn K mainGlobals "len" = some none)
    (z1:PySem.W.nsIn K mainGlobals "min" = some none)
    (z2:PySem.W.nsIn K mainGlobals "max" = some none)
    (z3:PySem.W.nsIn K mainGlobals "sum" = some none)
    (z4:PySem.W.nsIn K mainGlobals "range" = some none)
    (z5:PySem.W.nsIn K mainGlobals "enumerate" = some none)
    (z6:PySem.W.nsIn K mainGlobals "isinstance" = some none)
    (z7:PySem.W.nsIn K mainGlobals "tuple" = some none)
    (z8:PySem.W.nsIn K mainGlobals "int" = some none)
    (z9:PySem.W.nsIn K mainGlobals "bool" = some none)
    (z10:PySem.W.nsIn K mainGlobals "str" = some none)
    (z11:PySem.W.nsIn K mainGlobals "list" = some none)
    (z12:PySem.W.nsIn K mainGlobals "dict" = some none)
    (z13:PySem.W.nsIn K mainGlobals "zip" = some none)
    (z14:PySem.W.nsIn K mainGlobals "sum" = some none) :
    ∃ fd:FuncData,(∀ (s:Shared) (v:Value),BindsTo s fd ⟨[v], []⟩ [("_law_script",v)])∧∀ base:Heap,K.In base→base.Ns mainGlobals mg→FnOk l.prog w K mg base CX0 6 fa fd ["_law_script"] (spLaw K):=by
  have e:=hfa.symm.trans (PySem.W.mg_of X G a24)
  cases e
  have B:Blt mg:=⟨PySem.W.mg_none_of X G z0,PySem.W.mg_none_of X G z1,PySem.W.mg_none_of X G z2,PySem.W.mg_none_of X G z3,PySem.W.mg_none_of X G z4,PySem.W.mg_none_of X G z5,PySem.W.mg_none_of X G z6,PySem.W.mg_none_of X G z7,PySem.W.mg_none_of X G z8,PySem.W.mg_none_of X G z9,PySem.W.mg_none_of X G z10,PySem.W.mg_none_of X G z11⟩
  have b_dict:=PySem.W.mg_none_of X G z12
  have b_zip:=PySem.W.mg_none_of X G z13
  have b_sum:=PySem.W.mg_none_of X G z14
  have Z:TopSe K mg CS:=⟨⟨rPg,rHd,rPo,rSa⟩,rN_terms,rN_least,rN_waiting,rN_heads,rN_single,rN_steps,rN_awaited,rN_lacking⟩
  have F_mark:=fun_mk (st:=s_mark) l0 c0 k0
  have D_mark:Def K mg "mark" s_mark ["term", "leads"]:=⟨_,_,F_mark,PySem.W.mg_of X G a0,F_mark.binds fun _ _ _ _ _ _ us hl=>len2_ (fun _ _=>rfl) us hl⟩
  have F_join_classes:=fun_mk (st:=s_join_classes) l1 c1 k1
  have D_join_classes:Def K mg "join_classes" s_join_classes ["leads", "a", "b"]:=⟨_,_,F_join_classes,PySem.W.mg_of X G a1,F_join_classes.binds fun _ _ _ _ _ _ us hl=>len3_ (fun _ _ _=>rfl) us hl⟩
  have F_join_like:=fun_mk (st:=s_join_like) l2 c2 k2
  have D_join_like:Def K mg "join_like" s_join_like ["terms", "leads"]:=⟨_,_,F_join_like,PySem.W.mg_of X G a2,F_join_like.binds fun _ _ _ _ _ _ us hl=>len2_ (fun _ _=>rfl) us hl⟩
  have F_closed:=fun_mk (st:=s_closed) l3 c3 k3
  have D_closed:Def K mg "closed" s_closed ["terms", "edges"]:=⟨_,_,F_closed,PySem.W.mg_of X G a3,F_closed.binds fun _ _ _ _ _ _ us hl=>len2_ (fun _ _=>rfl) us hl⟩
  have F_lengths:=fun_mk (st:=s_lengths) l4 c4 k4
  have D_lengths:Def K mg "lengths" s_lengths ["terms", "leads", "edges"]:=⟨_,_,F_lengths,PySem.W.mg_of X G a4,F_lengths.binds fun _ _ _ _ _ _ us hl=>len3_ (fun _ _ _=>rfl) us hl⟩
  have F_like_pairs:=fun_mk (st:=s_like_pairs) l5 c5 k5
  have D_like_pairs:Def K mg "like_pairs" s_like_pairs ["terms", "leads"]:=⟨_,_,F_like_pairs,PySem.W.mg_of X G a5,F_like_pairs.binds fun _ _ _ _ _ _ us hl=>len2_ (fun _ _=>rfl) us hl⟩
  have F_unlike_arms:=fun_mk (st:=s_unlike_arms) l6 c6 k6
  have D_unlike_arms:Def K mg "unlike_arms" s_unlike_arms ["terms", "a", "b"]:=⟨_,_,F_unlike_arms,PySem.W.mg_of X G a6,F_unlike_arms.binds fun _ _ _ _ _ _ us hl=>len3_ (fun _ _ _=>rfl) us hl⟩
  have F_like_length:=fun_mk (st:=s_like_length) l7 c7 k7
  have D_like_length:Def K mg "like_length" s_like_length ["terms", "least", "a", "b"]:=⟨_,_,F_like_length,PySem.W.mg_of X G a7,F_like_length.binds fun _ _ _ _ _ _ us hl=>len4_ (fun _ _ _ _=>rfl) us hl⟩
  have F_sinit:=fun_mk (st:=s_sinit) l8 c8 k8
  have D_sinit:DefC K mg "Search" CS "Search.__init__" s_sinit ["self", "terms"]:=⟨_,_,F_sinit,PySem.W.mg_of X G aC,⟨rMk,a8,n8,rKp⟩,F_sinit.binds fun _ _ _ _ _ _ us hl=>len2_ (fun _ _=>rfl) us hl⟩
  have F_await_arms:=fun_mk (st:=s_await_arms) l9 c9 k9
  have D_await_arms:DefM K CS "await_arms" "Search.await_arms" s_await_arms ["self", "a", "b"]:=⟨_,_,F_await_arms,⟨a9,n9,k9⟩,F_await_arms.binds fun _ _ _ _ _ _ us hl=>len3_ (fun _ _ _=>rfl) us hl⟩
  have F_offer_step:=fun_mk (st:=s_offer_step) l10 c10 k10
  have D_offer_step:DefM K CS "offer_step" "Search.offer_step" s_offer_step ["self", "a", "b", "length"]:=⟨_,_,F_offer_step,⟨a10,n10,k10⟩,F_offer_step.binds fun _ _ _ _ _ _ us hl=>len4_ (fun _ _ _ _=>rfl) us hl⟩
  have F_offer:=fun_mk (st:=s_offer) l11 c11 k11
  have D_offer:DefM K CS "offer" "Search.offer" s_offer ["self", "a", "b", "length"]:=⟨_,_,F_offer,⟨a11,n11,k11⟩,F_offer.binds fun _ _ _ _ _ _ us hl=>len4_ (fun _ _ _ _=>rfl) us hl⟩
  have F_settle_all:=fun_mk (st:=s_settle_all) l12 c12 k12
  have D_settle_all:DefM K CS "settle_all" "Search.settle_all" s_settle_all ["self"]:=⟨_,_,F_settle_all,⟨a12,n12,k12⟩,F_settle_all.binds fun _ _ _ _ _ _ us hl=>len1_ (fun _=>rfl) us hl⟩
  have F_settle:=fun_mk (st:=s_settle) l13 c13 k13
  have D_settle:DefM K CS "settle" "Search.settle" s_settle ["self", "a", "b", "length"]:=⟨_,_,F_settle,⟨a13,n13,k13⟩,F_settle.binds fun _ _ _ _ _ _ us hl=>len4_ (fun _ _ _ _=>rfl) us hl⟩
  have F_find_head:=fun_mk (st:=s_find_head) l14 c14 k14
  have D_find_head:DefM K CS "find_head" "Search.find_head" s_find_head ["self", "a"]:=⟨_,_,F_find_head,⟨a14,n14,k14⟩,F_find_head.binds fun _ _ _ _ _ _ us hl=>len2_ (fun _ _=>rfl) us hl⟩
  have F_lengthen:=fun_mk (st:=s_lengthen) l15 c15 k15
  have D_lengthen:DefM K CS "lengthen" "Search.lengthen" s_lengthen ["self", "a", "b", "length"]:=⟨_,_,F_lengthen,⟨a15,n15,k15⟩,F_lengthen.binds fun _ _ _ _ _ _ us hl=>len4_ (fun _ _ _ _=>rfl) us hl⟩
  have F_draw:=fun_mk (st:=s_draw) l16 c16 k16
  have D_draw:Def K mg "_law_draw" s_draw ["_law_cell", "_law_prime", "_law_many"]:=⟨_,_,F_draw,PySem.W.mg_of X G a16,F_draw.binds fun _ _ _ _ _ _ us hl=>len3_ (fun _ _ _=>rfl) us hl⟩
  have F_word:=fun_mk (st:=s_word) l17 c17 k17
  have D_word:Def K mg "_law_word" s_word ["_law_k", "_law_cell"]:=⟨_,_,F_word,PySem.W.mg_of X G a17,F_word.binds fun _ _ _ _ _ _ us hl=>len2_ (fun _ _=>rfl) us hl⟩
  have F_term:=fun_mk (st:=s_term) l18 c18 k18
  have D_term:Def K mg "_law_term" s_term ["_law_cell", "_law_seed", "_law_many"]:=⟨_,_,F_term,PySem.W.mg_of X G a18,F_term.binds fun _ _ _ _ _ _ us hl=>len3_ (fun _ _ _=>rfl) us hl⟩
  have F_edge:=fun_mk (st:=s_edge) l19 c19 k19
  have D_edge:Def K mg "_law_edge" s_edge ["_law_cell", "_law_many", "_law_colours"]:=⟨_,_,F_edge,PySem.W.mg_of X G a19,F_edge.binds fun _ _ _ _ _ _ us hl=>len3_ (fun _ _ _=>rfl) us hl⟩
  have F_stuff:=fun_mk (st:=s_stuff) l20 c20 k20
  have D_stuff:Def K mg "_law_stuff" s_stuff ["_law_script", "_law_most"]:=⟨_,_,F_stuff,PySem.W.mg_of X G a20,F_stuff.binds fun _ _ _ _ _ _ us hl=>len2_ (fun _ _=>rfl) us hl⟩
  have F_whole:=fun_mk (st:=s_whole) l21 c21 k21
  have D_whole:Def K mg "_law_whole" s_whole ["_law_found"]:=⟨_,_,F_whole,PySem.W.mg_of X G a21,F_whole.binds fun _ _ _ _ _ _ us hl=>len1_ (fun _=>rfl) us hl⟩
  have F_square:=fun_mk (st:=s_square) l22 c22 k22
  have D_square:Def K mg "_law_square" s_square ["_law_found", "_law_many"]:=⟨_,_,F_square,PySem.W.mg_of X G a22,F_square.binds fun _ _ _ _ _ _ us hl=>len2_ (fun _ _=>rfl) us hl⟩
  have F_right:=fun_mk (st:=s_right) l23 c23 k23
  have D_right:Def K mg "_law_right" s_right ["_law_found", "_law_leads", "_law_a", "_law_b"]:=⟨_,_,F_right,PySem.W.mg_of X G a23,F_right.binds fun _ _ _ _ _ _ us hl=>len4_ (fun _ _ _ _=>rfl) us hl⟩
  have F_law:=fun_mk (st:=s_law) l24 c24 k24
  refine ⟨PySem.W.fnOf "law" "law" (defArgs s_law) (defBody s_law) (defScope s_law) .none kV24 dc24 pm24 an24 cd24 ct24,fun s v => .of_eq rfl,fun base _ _ => ?_⟩
  have h_mark:=ok_mark (P:=l.prog) (w:=w) (base:=base) B D_mark
  have h_join_classes:=ok_join_classes (P:=l.prog) (w:=w) (base:=base) B D_join_classes
  have h_join_like:=ok_join_like B h_mark h_join_classes D_join_like
  have h_closed:=ok_closed B h_join_classes h_join_like D_closed
  have h_offer:=ok_offer (P:=l.prog) (w:=w) (base:=base) B Z D_offer
  have h_offer_step:=ok_offer_step B Z h_offer D_offer_step
  have h_lengthen:=ok_lengthen B Z h_offer D_lengthen
  have h_find_head:=ok_find_head (P:=l.prog) (w:=w) (base:=base) B Z D_find_head
  have h_unlike_arms:=ok_unlike_arms (P:=l.prog) (w:=w) (base:=base) b_zip D_unlike_arms
  have h_like_length:=ok_like_length h_unlike_arms D_like_length
  have h_settle:=ok_settle B Z h_find_head h_lengthen h_offer_step h_like_length D_settle
  have h_settle_all:=ok_settle_all B Z h_settle D_settle_all
  have h_await_arms:=ok_await_arms B Z h_unlike_arms D_await_arms
  have h_init:=ok_sinit (P:=l.prog) (w:=w) (base:=base) B Z D_sinit
  have h_like_pairs:=ok_like_pairs B h_mark D_like_pairs
  have h_lengths:=ok_lengths B Z h_init h_offer_step h_like_pairs h_await_arms h_settle_all D_lengths
  have h_draw:=ok_draw (P:=l.prog) (w:=w) (base:=base) D_draw
  have h_word:=ok_word B h_draw D_word
  have h_term:=ok_term B h_draw h_word D_term
  have h_edge:=ok_edge B h_draw D_edge
  have h_stuff:=ok_stuff B h_draw h_word h_term h_edge D_stuff
  have h_whole:=ok_whole (P:=l.prog) (w:=w) (base:=base) B D_whole
  have h_square:=ok_square (P:=l.prog) (w:=w) (base:=base) B D_square
  have h_right:=ok_right B h_whole D_right
  exact ok_law B h_draw h_stuff h_square h_right h_closed h_lengths F_law
theorem walk {l:PySem.W.OpenLaw} {q:Program} {loose:List Str} {XP:(Str→Option Value)→Heap→Prop} {YP:World→Heap→Prop} {d:DefRec} {K:Params→PySem.W.Frag} (hn:l.most=some 63) (hdf:d.params.defaults = [])
    (hY:∀ (w:World) (h:Heap),YP w h→(K w.params).In h)
    (F:∀ (w:World) (mg:Str→Option Value) (fa:Addr) (h:Heap),(K w.params).In h→h.Ns mainGlobals mg→mg d.name=some (.ref fa) →
      ∃ fd:FuncData,(∀ (s:Shared) (u:Value),BindsTo s fd ⟨[u], []⟩ [("_law_script",u)])∧∀ base:Heap,(K w.params).In base→base.Ns mainGlobals mg→FnOk l.prog w (K w.params) mg base CX0 6 fa fd ["_law_script"] (spLaw (K w.params))) :
    PySem.W.WalkO q loose XP YP l.row.toRowW d [] (fun f vs=>PySem.call f vs) :=
  L2.walk_of (n:=63) (k:=6) (x := "_law_script") (CX:=fun _=>CX0) (sp:=fun w=>spLaw (K w.params)) hn (by decide) hdf ⟨rfl,by decide,by decide⟩ hY F (fun _ _ a ns hl _ hS=>⟨a,ns,rfl,hS,hl,fun _=>rfl⟩) fun _ _ _ _ _ z=>z
end K21
open PySem PySem.W PyProof.Rows
set_option maxRecDepth 100000 in
set_option maxHeartbeats 0 in
theorem PySem.Challenge.cw_samewise_k21_lengths_apart_holds : PySem.Challenge.rw_samewise_k21_lengths_apart.Holds := by
  w_on;o_law;k_head; (case hw=>w_witness2)
  k_fill
  refine K21.walk (l:=PySem.Challenge.rw_samewise_k21_lengths_apart) rfl rfl (fun w h Y=>PySem.W.kIn_of Y) ?F
  case F =>
    intro w mg fa h KX G hmg
    refine' K21.all_mk KX G hmg ?aC ?a0 ?l0 ?c0 ?k0 ?a1 ?l1 ?c1 ?k1 ?a2 ?l2 ?c2 ?k2 ?a3 ?l3 ?c3 ?k3 ?a4 ?l4 ?c4 ?k4 ?a5 ?l5 ?c5 ?k5 ?a6 ?l6 ?c6 ?k6 ?a7 ?l7 ?c7 ?k7 ?a8 ?l8 ?c8 ?k8 ?n8 ?a9 ?l9 ?c9 ?k9 ?n9 ?a10 ?l10 ?c10 ?k10 ?n10 ?a11 ?l11 ?c11 ?k11 ?n11 ?a12 ?l12 ?c12 ?k12 ?n12 ?a13 ?l13 ?c13 ?k13 ?n13 ?a14 ?l14 ?c14 ?k14 ?n14 ?a15 ?l15 ?c15 ?k15 ?n15 ?a16 ?l16 ?c16 ?k16 ?a17 ?l17 ?c17 ?k17 ?a18 ?l18 ?c18 ?k18 ?a19 ?l19 ?c19 ?k19 ?a20 ?l20 ?c20 ?k20 ?a21 ?l21 ?c21 ?k21 ?a22 ?l22 ?c22 ?k22 ?a23 ?l23 ?c23 ?k23 ?a24 ?l24 ?c24 ?k24 ?rMk ?rKp ?rPg ?rHd ?rPo ?rSa ?rN_terms ?rN_least ?rN_waiting ?rN_heads ?rN_single ?rN_steps ?rN_awaited ?rN_lacking ?z0 ?z1 ?z2 ?z3 ?z4 ?z5 ?z6 ?z7 ?z8 ?z9 ?z10 ?z11 ?z12 ?z13 ?z14
    (case aC=>k_is)
    (case a0=>k_is)
    (case l0=>k_is)
    (case c0=>k_is)
    (case k0=>k_is)
    (case a1=>k_is)
    (case l1=>k_is)
    (case c1=>k_is)
    (case k1=>k_is)
    (case a2=>k_is)
    (case l2=>k_is)
    (case c2=>k_is)
    (case k2=>k_is)
    (case a3=>k_is)
    (case l3=>k_is)
    (case c3=>k_is)
    (case k3=>k_is)
    (case a4=>k_is)
    (case l4=>k_is)
    (case c4=>k_is)
    (case k4=>k_is)
    (case a5=>k_is)
    (case l5=>k_is)
    (case c5=>k_is)
    (case k5=>k_is)
    (case a6=>k_is)
    (case l6=>k_is)
    (case c6=>k_is)
    (case k6=>k_is)
    (case a7=>k_is)
    (case l7=>k_is)
    (case c7=>k_is)
    (case k7=>k_is)
    (case a8=>k_is)
    (case l8=>k_is)
    (case c8=>k_is)
    (case k8=>k_is)
    (case n8=>k_is)
    (case a9=>k_is)
    (case l9=>k_is)
    (case c9=>k_is)
    (case k9=>k_is)
    (case n9=>k_is)
    (case a10=>k_is)
    (case l10=>k_is)
    (case c10=>k_is)
    (case k10=>k_is)
    (case n10=>k_is)
    (case a11=>k_is)
    (case l11=>k_is)
    (case c11=>k_is)
    (case k11=>k_is)
    (case n11=>k_is)
    (case a12=>k_is)
    (case l12=>k_is)
    (case c12=>k_is)
    (case k12=>k_is)
    (case n12=>k_is)
    (case a13=>k_is)
    (case l13=>k_is)
    (case c13=>k_is)
    (case k13=>k_is)
    (case n13=>k_is)
    (case a14=>k_is)
    (case l14=>k_is)
    (case c14=>k_is)
    (case k14=>k_is)
    (case n14=>k_is)
    (case a15=>k_is)
    (case l15=>k_is)
    (case c15=>k_is)
    (case k15=>k_is)
    (case n15=>k_is)
    (case a16=>k_is)
    (case l16=>k_is)
    (case c16=>k_is)
    (case k16=>k_is)
    (case a17=>k_is)
    (case l17=>k_is)
    (case c17=>k_is)
    (case k17=>k_is)
    (case a18=>k_is)
    (case l18=>k_is)
    (case c18=>k_is)
    (case k18=>k_is)
    (case a19=>k_is)
    (case l19=>k_is)
    (case c19=>k_is)
    (case k19=>k_is)
    (case a20=>k_is)
    (case l20=>k_is)
    (case c20=>k_is)
    (case k20=>k_is)
    (case a21=>k_is)
    (case l21=>k_is)
    (case c21=>k_is)
    (case k21=>k_is)
    (case a22=>k_is)
    (case l22=>k_is)
    (case c22=>k_is)
    (case k22=>k_is)
    (case a23=>k_is)
    (case l23=>k_is)
    (case c23=>k_is)
    (case k23=>k_is)
    (case a24=>k_is)
    (case l24=>k_is)
    (case c24=>k_is)
    (case k24=>k_is)
    (case rMk=>k_is)
    (case rKp=>k_is)
    (case rPg=>k_is)
    (case rHd=>k_is)
    (case rPo=>k_is)
    (case rSa=>k_is)
    (case rN_terms=>k_is)
    (case rN_least=>k_is)
    (case rN_waiting=>k_is)
    (case rN_heads=>k_is)
    (case rN_single=>k_is)
    (case rN_steps=>k_is)
    (case rN_awaited=>k_is)
    (case rN_lacking=>k_is)
    (case z0=>k_is)
    (case z1=>k_is)
    (case z2=>k_is)
    (case z3=>k_is)
    (case z4=>k_is)
    (case z5=>k_is)
    (case z6=>k_is)
    (case z7=>k_is)
    (case z8=>k_is)
    (case z9=>k_is)
    (case z10=>k_is)
    (case z11=>k_is)
    (case z12=>k_is)
    (case z13=>k_is)
    (case z14=>k_is)
#print axioms PySem.Challenge.cw_samewise_k21_lengths_apart_holds
