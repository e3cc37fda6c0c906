import PyProof.Rows.All
import Wide.All
import OpenK.AllK
import Wide.FinOn
import Lean
import PyProof.EqAt
import PyProof.EqKinds
import PyProof.TupleCall
import KE.KTryMore
import KE.KIntText
import KE.RegKTryMore
import PySem.Challenge.RW_samewise_k65_sharing_walked
set_option Elab.async false
set_option linter.all false
set_option maxRecDepth 100000
set_option maxHeartbeats 4000000
namespace L2
open PySem PySem.Spec PyProof.Rows

noncomputable abbrev Key:=Sum Int Str
noncomputable def keyIs:Key→Value→Bool
  | .inl k,v=>Value.isInt k v
  | .inr x,v=>Value.isStrOf x v
noncomputable def keyH (w:World):Key→Int
  | .inl k=>hashInt k
  | .inr x=>hashStr w x
theorem keyIs_shape:∀ {k:Key} {v:Value},keyIs k v=true→(∃ i t,k=Sum.inl i∧v=Value.int i t)∨(∃ x t,k=Sum.inr x∧v=Value.str x t)
  | .inl i,v,h=>by
    obtain ⟨t,e⟩:=Value.isInt_shape (k:=i) (v:=v) h
    exact .inl ⟨i,t,rfl,e⟩
  | .inr x,v,h=>by
    obtain ⟨t,e⟩:=Value.isStrOf_shape (x:=x) (v:=v) h
    exact .inr ⟨x,t,rfl,e⟩
theorem keyIs_int (i:Int) (t:Tok):keyIs (.inl i) (.int i t)=true:=by simp [keyIs,Value.isInt]
theorem keyIs_str (x:Str) (t:Tok):keyIs (.inr x) (.str x t)=true:=by simp [keyIs,Value.isStrOf]
theorem key_ll (a b:Int):decide ((Sum.inl a:Key)=Sum.inl b)=(a == b):=by
  by_cases e:a=b
  · subst e;simp
  · have h:¬ (Sum.inl a:Key)=Sum.inl b:=fun q=>e (Sum.inl.inj q)
    rw [decide_eq_false h]
    exact (beq_eq_false_iff_ne.mpr e).symm
theorem key_rr (a b:Str):decide ((Sum.inr a:Key)=Sum.inr b)=decide (a=b):=by
  by_cases e:a=b
  · subst e;simp
  · have h:¬ (Sum.inr a:Key)=Sum.inr b:=fun q=>e (Sum.inr.inj q)
    rw [decide_eq_false h,decide_eq_false e]
theorem key_lr (a:Int) (b:Str):decide ((Sum.inl a:Key)=Sum.inr b)=false:=decide_eq_false (fun q=>nomatch q)
theorem key_rl (a:Str) (b:Int):decide ((Sum.inr a:Key)=Sum.inl b)=false:=decide_eq_false (fun q=>nomatch q)

noncomputable def mixKind (prog:Program) (w:World):PySem.KeyKind prog w Key where
  is:=keyIs
  hash:=keyH w
  inj:=fun v a b ha hb=>by
    rcases keyIs_shape ha with ⟨i,t,rfl,rfl⟩ | ⟨x,t,rfl,rfl⟩
    · rcases keyIs_shape hb with ⟨j,u,rfl,e⟩ | ⟨y,u,rfl,e⟩
      · injection e with e1 _;rw [e1]
      · exact nomatch e
    · rcases keyIs_shape hb with ⟨j,u,rfl,e⟩ | ⟨y,u,rfl,e⟩
      · exact nomatch e
      · injection e with e1 _;rw [e1]
  byValue:=fun k v h=>by
    rcases keyIs_shape h with ⟨i,t,rfl,rfl⟩ | ⟨x,t,rfl,rfl⟩ <;> rfl
  pyHash:=fun hv h=>by
    rcases keyIs_shape hv with ⟨i,t,rfl,rfl⟩ | ⟨x,t,rfl,rfl⟩
    · exact wpAny_pyHash_int h
    · exact wpAny_pyHash_str h
  eqBool:=fun hu hv h=>by
    rcases keyIs_shape hu with ⟨i,t,rfl,rfl⟩ | ⟨x,t,rfl,rfl⟩
    · rcases keyIs_shape hv with ⟨j,u,rfl,rfl⟩ | ⟨y,u,rfl,rfl⟩
      · rw [key_ll] at h;exact wpAny_eqBool_int h
      · rw [key_lr] at h;exact SeqAt.EqAt.int_str i t y u _ _ _ _ h
    · rcases keyIs_shape hv with ⟨j,u,rfl,rfl⟩ | ⟨y,u,rfl,rfl⟩
      · rw [key_rl] at h;exact SeqAt.EqAt.str_int x t j u _ _ _ _ h
      · rw [key_rr] at h;exact wpAny_eqBool_str h
  «strs» := fun k x t v h=>by
    rcases keyIs_shape h with ⟨i,u,rfl,e⟩ | ⟨y,u,rfl,e⟩
    · exact nomatch e
    · injection e with e1 _
      subst e1
      cases v <;> rfl

theorem mixKind_int (prog:Program) (w:World) (i:Int) (t:Tok):(mixKind prog w).is (.inl i) (.int i t)=true:=keyIs_int i t
theorem mixKind_str (prog:Program) (w:World) (x:Str) (t:Tok):(mixKind prog w).is (.inr x) (.str x t)=true:=keyIs_str x t
end L2

namespace L2
open PySem PySem.Spec PyProof.Rows

inductive V where
  | non | bl (b:Bool) | int (i:Int) | str (x:Str) | byt (b:Array UInt8) | flt (b:UInt64) | ref (a:Addr) | ty (n:String)
  deriving DecidableEq

noncomputable def RelV:V→Value→Prop
  | .non,u=>u=Value.none
  | .bl b,u=>u=Value.bool b
  | .int i,u=>∃ t,u=Value.int i t
  | .str x,u=>∃ t,u=Value.str x t
  | .byt b,u=>∃ t,u=Value.bytes b t
  | .flt b,u=>∃ t,u=Value.float b t
  | .ref a,u=>u=Value.ref a
  | .ty n,u=>u=Value.type n

noncomputable abbrev Vals:List V→List Value→Prop:=Paired RelV
theorem Vals.length {xs:List V} {us:List Value} (r:Vals xs us):xs.length=us.length:=Paired.length r
theorem Vals.get:∀ {xs:List V} {us:List Value} {i:Nat} {x:V},Vals xs us→xs[i]? = some x→∃ u,us[i]? = some u∧RelV x u
  | _,_,_,_,.nil,e=>by simp at e
  | _,_,0,_,.cons r _,e=>by simp at e;subst e;exact ⟨_,rfl,r⟩
  | _,_,i+1,x,.cons _ t,e=>by
    obtain ⟨u,h1,h2⟩:=Vals.get (i:=i) (x:=x) t (by simpa using e)
    exact ⟨u,by simpa using h1,h2⟩
theorem Vals.set {x:V} {u:Value} (r:RelV x u):∀ {xs:List V} {us:List Value} (i:Nat),Vals xs us→Vals (xs.set i x) (us.set i u)
  | _,_,_,.nil => .nil
  | _,_,0,.cons _ t => .cons r t
  | _,_,i+1,.cons q t => .cons q (Vals.set r i t)
theorem Vals.append:∀ {xs ys:List V} {us ws:List Value},Vals xs us→Vals ys ws→Vals (xs ++ ys) (us ++ ws)
  | _,_,_,_,.nil,s=>s
  | _,_,_,_,.cons r t,s => .cons r (Vals.append t s)
theorem Vals.take:∀ {xs:List V} {us:List Value} (n:Nat),Vals xs us→Vals (xs.take n) (us.take n)
  | _,_,0,_ => .nil
  | _,_,_+1,.nil => .nil
  | _,_,n+1,.cons r t => .cons r (Vals.take n t)
theorem Vals.drop:∀ {xs:List V} {us:List Value} (n:Nat),Vals xs us→Vals (xs.drop n) (us.drop n)
  | _,_,0,r=>r
  | _,_,_+1,.nil => .nil
  | _,_,n+1,.cons _ t=>Vals.drop n t

noncomputable def RelO:Option V→Option Value→Prop
  | some v,some u=>RelV v u
  | none,none=>True
  | _,_=>False
noncomputable def KV {κ : Type}:List (κ × V)→List (κ × Value)→Prop:=Paired fun (p : κ × V) (q : κ × Value)=>p.1=q.1∧RelV p.2 q.2

noncomputable def kV:Key→V
  | .inl i => .int i
  | .inr x => .str x

inductive HO where
    | lst (xs:List V)
    | tup (xs:List V)
    | dK (kvs:List (Key × V)) | dT (kvs:List (List Key × V))
    | set (S:Int→Bool) (n:Nat)
    | ins (C dx:Addr) (fs:List (Str × V))
    | own (x:Addr)
    | xd (fs:List (Str × V))
    | met (f x:Addr)
    | rng (lo hi:Int)
    | frz (o:Obj) (u:HO)
    | tbl (ps:Array Value)
    | ext (φ : Heap→Prop)

noncomputable abbrev Hp:=Addr→Option HO
noncomputable def upd (H:Hp) (a:Addr) (o:HO):Hp:=fun b=>if b=a then some o else H b
theorem upd_same {H:Hp} {a:Addr} {o:HO}:upd H a o a=some o:=by unfold upd;rw [if_pos rfl]
theorem upd_ne {H:Hp} {a b:Addr} {o:HO} (h:b≠a):upd H a o b=H b:=by unfold upd;rw [if_neg h]
theorem upd_upd {H:Hp} {a:Addr} {o u:HO}:upd (upd H a o) a u=upd H a u:=by
  funext b;unfold upd;split <;> rfl
theorem ne_of {H:Hp} {a b:Addr} {o u:HO} (h:H a=some o) (h':H b=some u) (d:o≠u):a≠b:=by
  intro e;subst e;rw [h] at h';exact d (Option.some.inj h')
theorem ne_of_none {H:Hp} {a b:Addr} {o:HO} (h:H a=some o) (h':H b=none):a≠b:=by
  intro e;subst e;rw [h] at h';cases h'

noncomputable def IsTupN (h:Heap) (a:Addr) (items:Array Value):Prop := ∃ o,h.get? a=some o∧o.cls = .type "tuple" ∧ ∃ n,o.data = .seq items n∧o.dict=none
theorem IsTupN.tup {h:Heap} {a:Addr} {items:Array Value} (x:IsTupN h a items):IsTup h a items:=let ⟨o,e,c,n,d,_⟩:=x; ⟨o,e,c,n,d⟩
theorem IsTupN.new (h:Heap) (items:Array Value):IsTupN (h.push { cls := .type "tuple",data := .seq items }) h.objs.size items:=⟨_,Heap.get?_push_size _ rfl,rfl,_,rfl,rfl⟩
section
variable (P:Program) (w:World)
noncomputable def ObjOk (H:Hp) (h:Heap) (a:Addr):HO→Prop
  | .lst xs=>xs.length≤sizeLine∧∃ (its:List Value) (n:Nat),Vals xs its∧h.get? a=some { cls := .type "list",data := .seq its.toArray n }
  | .tup xs=>xs.length≤sizeLine∧∃ its:List Value,Vals xs its∧IsTupN h a its.toArray
  | .dK kvs=>kvs.length≤sizeLine∧(a == sysModules)=false∧∃ vs,KV kvs vs∧h.DictOf (mixKind P w) a vs
  | .dT kvs=>kvs.length≤sizeLine∧(a == sysModules)=false∧∃ xs:List (List Key × Addr × Value),
      Paired (fun (p:List Key × V) (q:List Key × Addr × Value)=>p.1=q.1∧H q.2.1=some (.tup (p.1.map kV))∧RelV p.2 q.2.2) kvs xs ∧
      ∃ o es ep,h.get? a=some o∧o.ExactDict∧o.data = .dict es ep∧es.toList=xs.map (entryOfKey (tupleKind (mixKind P w)))∧(xs.map (·.1)).Nodup
  | .set S n=>h.SetOf (intKind P w) a S n
  | .ins C dx fs=>H dx=some (.own a)∧fs.length≤1000∧dx≠a∧h.get? a=some (PySem.W.instObj C dx) ∧
      ∃ mA,h.Ns1 dx mA∧(∀ f,RelO (fs.lookup f) (mA f))∧PySem.Within mA (fs.map (·.1))
  | .own _=>∃ o,h.get? a=some o
  | .xd fs=>∃ mA,h.Ns1 a mA∧∀ f,RelO (fs.lookup f) (mA f)
  | .rng lo hi=>∃ t u v,h.get? a=some { cls := .type "range",data := .fields #[.int lo t,.int hi u,.int 1 v] }
  | .frz o u=>h.get? a=some o∧ObjOk H h a u
  | .tbl ps=>h.get? a=some { cls := .none,data := .fields ps }
  | .met f x=>h.get? a=some (PySem.W.methodObj (.ref f) (.ref x))
  | .ext φ => φ h∧(∃ o,h.get? a=some o)∧∀ h1 h2:Heap, φ h1→(∀ o,h1.get? a=some o→h2.get? a=some o) → φ h2
noncomputable def HOk (H:Hp) (h:Heap):Prop := ∀ a o,H a=some o→ObjOk P w H h a o
end

section
variable {P:Program} {w:World} {H H':Hp} {h h':Heap} {a:Addr} {o:HO}
theorem ObjOk.lt (x:ObjOk P w H h a o):a < h.objs.size:=by
  cases o with
  | lst xs=>obtain ⟨_,_,_,_,e⟩:=x;exact Heap.lt_size e
  | tup xs=>obtain ⟨_,_,_,p⟩:=x;exact p.tup.lt
  | dK kvs=>obtain ⟨_,_,_,_,o,_,_,e,_⟩:=x;exact Heap.lt_size e
  | dT kvs=>obtain ⟨_,_,_,_,o,_,_,e,_⟩:=x;exact Heap.lt_size e
  | set S n=>obtain ⟨o,_,_,_,e,_⟩:=x;exact Heap.lt_size e
  | ins C dx fs=>obtain ⟨_,_,_,e,_⟩:=x;exact Heap.lt_size e
  | own y=>obtain ⟨_,e⟩:=x;exact Heap.lt_size e
  | xd fs=>obtain ⟨_,⟨_,_,_,e,_⟩,_⟩:=x;exact Heap.lt_size e
  | rng lo hi=>obtain ⟨_,_,_,e⟩:=x;exact Heap.lt_size e
  | frz ob u=>obtain ⟨e,_⟩:=x;exact Heap.lt_size e
  | tbl ps=>exact Heap.lt_size (show h.get? a=some _ from x)
  | met f y=>exact Heap.lt_size (show h.get? a=some _ from x)
  | ext φ => obtain ⟨_,⟨_,e⟩,_⟩:=x;exact Heap.lt_size e
theorem Paired.mapP {α β : Type} {F G : α → β → Prop}:∀ {l₁ : List α} {l₂ : List β},Paired F l₁ l₂ → (∀ a b,F a b→G a b)→Paired G l₁ l₂
  | _,_,.nil,_ => .nil
  | _,_,.cons r t,f => .cons (f _ _ r) (Paired.mapP t f)
theorem ObjOk.stay (x:ObjOk P w H h a o) (k:∀ b u,(b=a∨H b=some (.own a))→h.get? b=some u→h'.get? b=some u)
    (ho:∀ b,H b=some (.own a)→H' b=some (.own a)) (ht:∀ b xs,H b=some (.tup xs)→H' b=some (.tup xs)):ObjOk P w H' h' a o:=by
  induction o with
  | lst xs=>obtain ⟨z,its,n,r,e⟩:=x;exact ⟨z,its,n,r,k _ _ (.inl rfl) e⟩
  | tup xs=>obtain ⟨z,its,r,ob,e,c⟩:=x;exact ⟨z,its,r,ob,k _ _ (.inl rfl) e,c⟩
  | dK kvs=>obtain ⟨z,y,vs,r,ob,es,ep,e,c⟩:=x;exact ⟨z,y,vs,r,ob,es,ep,k _ _ (.inl rfl) e,c⟩
  | dT kvs =>
    obtain ⟨z,y,xs,r,ob,es,ep,e,c⟩:=x
    exact ⟨z,y,xs,Paired.mapP r fun p q z=>⟨z.1,ht _ _ z.2.1,z.2.2⟩,ob,es,ep,k _ _ (.inl rfl) e,c⟩
  | set S n=>obtain ⟨ob,es,ep,t,e,c⟩:=x;exact ⟨ob,es,ep,t,k _ _ (.inl rfl) e,c⟩
  | ins C dx fs =>
    obtain ⟨d,z,ne,e,mA,⟨od,es,ep,e2,c⟩,r⟩:=x
    exact ⟨ho _ d,z,ne,k _ _ (.inl rfl) e,mA,⟨od,es,ep,k _ _ (.inr d) e2,c⟩,r⟩
  | own y=>obtain ⟨ob,e⟩:=x;exact ⟨ob,k _ _ (.inl rfl) e⟩
  | xd fs=>obtain ⟨mA,⟨od,es,ep,e,c⟩,r⟩:=x;exact ⟨mA,⟨od,es,ep,k _ _ (.inl rfl) e,c⟩,r⟩
  | rng lo hi=>obtain ⟨t,u,v,e⟩:=x;exact ⟨t,u,v,k _ _ (.inl rfl) e⟩
  | frz ob u ih=>obtain ⟨e,q⟩:=x;exact ⟨k _ _ (.inl rfl) e,ih q⟩
  | tbl ps =>
    have e:h.get? a=some { cls := .none,data := .fields ps }:=x
    show h'.get? a=some { cls := .none,data := .fields ps }
    exact k a _ (.inl rfl) e
  | met f y =>
    have e:h.get? a=some (PySem.W.methodObj (.ref f) (.ref y)):=x
    show h'.get? a=some (PySem.W.methodObj (.ref f) (.ref y))
    exact k a _ (.inl rfl) e
  | ext φ => obtain ⟨p,⟨o,e⟩,st⟩:=x;exact ⟨st _ _ p fun o q=>k _ _ (.inl rfl) q,⟨o,k _ _ (.inl rfl) e⟩,st⟩
theorem HOk.lt (x:HOk P w H h) (e:H a=some o):a < h.objs.size:=(x a o e).lt
theorem HOk.fresh (x:HOk P w H h) (e:h.objs.size≤a):H a=none:=by
  cases q:H a with
  | none=>rfl
  | some u=>exact absurd (Nat.lt_of_lt_of_le (x.lt q) e) (Nat.lt_irrefl _)
theorem HOk.kept (x:HOk P w H h) (k:∀ b u,h.get? b=some u→h'.get? b=some u):HOk P w H h':=fun a o e =>
  (x a o e).stay (fun b u _ q=>k b u q) (fun _ q=>q) fun _ _ q=>q
theorem HOk.laid (x:HOk P w H h) (k:∀ b u,h.get? b=some u→h'.get? b=some u) (hp:h.objs.size≤a) (new:ObjOk P w (upd H a o) h' a o):HOk P w (upd H a o) h':=fun b u e=>by
  have hn:=x.fresh hp
  by_cases hb:b=a
  · subst hb;rw [upd_same] at e;cases e;exact new
  · rw [upd_ne hb] at e
    exact (x b u e).stay (fun c v _ q=>k c v q) (fun c q=>by rw [upd_ne (ne_of_none q hn)];exact q) fun c xs q=>by rw [upd_ne (ne_of_none q hn)];exact q
end

noncomputable def Rd (H:Hp) (a:Addr) (u:HO):Prop:=H a=some u∨∃ o,H a=some (.frz o u)
theorem Rd.ok {P:Program} {w:World} {H:Hp} {h:Heap} {a:Addr} {u:HO} (r:Rd H a u) (x:HOk P w H h):ObjOk P w H h a u:=by
  rcases r with r | ⟨o,r⟩
  · exact x a u r
  · obtain ⟨_,q⟩:=x a _ r
    exact q
noncomputable def Mut:Option HO→Prop
  | some (.lst _)=>True
  | some (.dK _)=>True
  | some (.dT _)=>True
  | some (.set _ _)=>True
  | some (.ins _ _ _)=>True
  | some (.ext _)=>True
  | _=>False
section
variable {P:Program} {w:World} {H:Hp} {h h':Heap} {x e:Addr} {o':HO}
theorem HOk.write (ok:HOk P w H h) (mu:Mut (H x)) (he:e=x∨H e=some (.own x)) (k:∀ b u,b≠e→h.get? b=some u→h'.get? b=some u) (heo:∃ u,h'.get? e=some u)
    (new:ObjOk P w (upd H x o') h' x o'):HOk P w (upd H x o') h':=fun b u q=>by
  have nown:∀ c y,H c=some (.own y)→c≠x:=fun c y r z=>by subst z;rw [r] at mu;exact mu
  have ntup:∀ c xs,H c=some (.tup xs)→c≠x:=fun c xs r z=>by subst z;rw [r] at mu;exact mu
  by_cases hb:b=x
  · subst hb;rw [upd_same] at q;cases q;exact new
  · rw [upd_ne hb] at q
    by_cases hbe:b=e
    · have q':H b=some (.own x):=by
        rcases he with z | z
        · exact absurd (hbe.trans z) hb
        · rw [hbe];exact z
      rw [q] at q';cases q'
      obtain ⟨v,hv⟩:=heo
      exact ⟨v,by rw [hbe];exact hv⟩
    · refine (ok b u q).stay (fun c v hc r=>k c v ?_ r) (fun c r=>by rw [upd_ne (nown c b r)];exact r) fun c xs r=>by rw [upd_ne (ntup c xs r)];exact r
      rcases hc with rfl | hc
      · exact hbe
      · rintro rfl
        rcases he with z | z
        · exact nown c b hc z
        · rw [hc] at z;cases z;exact hb rfl
end

structure Un (fs ex:List Addr) (H H':Hp) (h h':Heap):Prop where
  keep:∀ b o,h.get? b=some o→H b=none→b ∉ fs→b ∉ ex→h'.get? b=some o
  slot:∀ b o,h.get? b=some o→H b=none→b∈fs→b ∉ ex→∃ sl,h'.get? b=some { o with slots:=sl }
  free:∀ b o,h.get? b=some o→H b=none→b ∉ ex→H' b=none
  there:∀ b o,h.get? b=some o→b ∉ ex→∃ o',h'.get? b=some o'
  tups:∀ b xs,H b=some (.tup xs)→H' b=some (.tup xs)
  frzs:∀ b o u,H b=some (.frz o u)→H' b=some (.frz o u)
  tbls:∀ b ps,H b=some (.tbl ps)→∃ more,H' b=some (.tbl (ps ++ more))
section
variable {fs fs' ex ex':List Addr} {H H1 H2:Hp} {h h1 h2 h':Heap} {a x e:Addr} {o:HO}
theorem Un.any (u:Un fs ex H H1 h h1) {b:Addr} {ob:Obj} (q:h.get? b=some ob) (n:H b=none) (hx:b ∉ ex):∃ sl,h1.get? b=some { ob with slots:=sl }:=by
  by_cases hb:b∈fs
  · exact u.slot b ob q n hb hx
  · exact ⟨ob.slots,u.keep b ob q n hb hx⟩
theorem Un.kept (k:∀ b u,h.get? b=some u→h'.get? b=some u):Un fs ex H H h h' :=
  ⟨fun b ob q _ _ _=>k b ob q,fun b ob q _ _ _=>⟨ob.slots,k b ob q⟩,fun _ _ _ n _=>n,fun b ob q _=>⟨ob,k b ob q⟩,fun _ _ q=>q,fun _ _ _ q=>q,fun _ ps q=>⟨#[],by rw [q];simp⟩⟩
theorem Un.refl:Un fs ex H H h h:=Un.kept fun _ _ q=>q
theorem Un.laid (k:∀ b u,h.get? b=some u→h'.get? b=some u) (hp:h.objs.size≤a) (hn:H a=none):Un fs ex H (upd H a o) h h' where
  keep:=fun b u q _ _ _=>k b u q
  slot:=fun b u q _ _ _=>⟨u.slots,k b u q⟩
  free:=fun b u q n _=>by rw [upd_ne (Nat.ne_of_lt (Nat.lt_of_lt_of_le (Heap.lt_size q) hp))];exact n
  there:=fun b u q _=>⟨u,k b u q⟩
  tups:=fun b xs q=>by rw [upd_ne (ne_of_none q hn)];exact q
  frzs:=fun b u xs q=>by rw [upd_ne (ne_of_none q hn)];exact q
  tbls:=fun b ps q=>⟨#[],by rw [upd_ne (ne_of_none q hn),q];simp⟩
theorem Un.write (mu:Mut (H x)) (he:e=x∨H e=some (.own x)) (k:∀ b u,b≠e→h.get? b=some u→h'.get? b=some u) (heo:∃ u,h'.get? e=some u):Un fs ex H (upd H x o) h h':=by
  have hx:∀ b,H b=none→b≠x:=fun b n z=>by subst z;rw [n] at mu;exact mu
  have hb:∀ b,H b=none→b≠e:=fun b n z=>by
    subst z
    rcases he with r | r
    · exact hx b n r
    · rw [n] at r;cases r
  have hm:∀ b u,H b=some u→¬ Mut (some u)→b≠x:=fun b u q nm z=>by subst z;rw [q] at mu;exact nm mu
  refine ⟨fun b u q n _ _=>k b u (hb b n) q,fun b u q n _ _=>⟨u.slots,k b u (hb b n) q⟩,fun b u q n _=>by rw [upd_ne (hx b n)];exact n,fun b u q _ => ?_,
    fun b xs q=>by rw [upd_ne (hm b _ q fun z=>z)];exact q,fun b u xs q=>by rw [upd_ne (hm b _ q fun z=>z)];exact q,fun b ps q=>⟨#[],by rw [upd_ne (hm b _ q fun z=>z),q];simp⟩⟩
  by_cases hbe:b=e
  · subst hbe;exact heo
  · exact ⟨u,k b u hbe q⟩
end

noncomputable def trk (h:Heap) (H:Hp):List Addr:=(List.range h.objs.size).filter fun a=>(H a).isSome
noncomputable def hidT (h:Heap) (H:Hp):Heap:=PySem.W.hideAll h (trk h H)
theorem hidT_size (h:Heap) (H:Hp):(hidT h H).objs.size=h.objs.size:=PySem.W.hideAll_size _ _
theorem hidT_get {h:Heap} {H:Hp} {b:Addr} {o:Obj} (e:h.get? b=some o) (n:H b=none):(hidT h H).get? b=some o :=
  PySem.W.hideAll_get _ e fun hm=>by
    have q:(H b).isSome=true:=(List.mem_filter.mp hm).2
    rw [n] at q;simp at q
theorem of_hidT {h:Heap} {H:Hp} {b:Addr} {o:Obj} (e:(hidT h H).get? b=some o):h.get? b=some o∧H b=none:=by
  have e':h.get? b=some o:=PySem.W.of_hideAll (trk h H) e
  refine ⟨e',?_⟩
  cases q:H b with
  | none=>rfl
  | some x =>
    have hm:b∈trk h H:=List.mem_filter.mpr ⟨List.mem_range.mpr (Heap.lt_size e'),by simp [q]⟩
    have z:(hidT h H).get? b=none:=PySem.W.hideAll_none (trk h H) hm
    rw [z] at e;cases e

end L2

namespace L2
open PySem PySem.Spec PyProof.Rows

structure Mod (K:PySem.W.Frag) (mg:Str→Option Value) (base:Heap):Prop where
  kin:K.In base
  glob:base.Ns mainGlobals mg
  blt:∃ mb,base.Ns builtinsNs mb∧∀ x:Str,x ≠ "__name__" → mb x=bootBuiltins x
  nolimit:base.NoLimit

structure Cx where
  prog:Program
  w:World
  K:PySem.W.Frag
  mg:Str→Option Value
  base:Heap
  A:Around
  N:List Str
  s₀ : Shared
  H₀ : Hp
  env:Env
  outer:List Env
  stack:List Env
  ex:List Addr
  fn:Str→Bool
  calm:Bool
  pn:List (Addr × Obj)
  xe:Value→Shared→Prop
noncomputable def frs (l:List Env):List Addr:=l.filterMap (·.frame)
noncomputable abbrev Cx.fs (X:Cx):List Addr:=frs X.outer

noncomputable def Vis (sc:Scope) (x:Str):Prop:=sc.names.lookup x=some .local∨sc.names.lookup x=some .cell∨sc.names.lookup x=some .free
noncomputable def Loc (sc:Scope) (x:Str):Prop:=sc.names.lookup x=some .local∨sc.names.lookup x=some .cell
noncomputable def Look (env:Env) (h:Heap) (m:Str→Option Value) (x:Str) (u:Value):Prop :=
  (env.kindOf x=some .local∧m x=some u)∨((env.kindOf x=some .cell∨env.kindOf x=some .free)∧∃ c,env.cells.lookup x=some c∧h.IsCell c (some u))

structure Cx.Ok (X:Cx):Prop where
  mod:Mod X.K X.mg X.base
  kind:X.env.scope.kind = .function
  glob:X.env.globals=mainGlobals
  blt:X.env.builtins=builtinsNs
  above:X.s₀.heap.objs.size≤X.env.locals
  inj:∀ x y c,X.env.cells.lookup x=some c→X.env.cells.lookup y=some c→x=y
  has:∀ x,(X.env.kindOf x=some .cell∨X.env.kindOf x=some .free)→∃ c,X.env.cells.lookup x=some c
  cab:∀ x c,X.fn x=true→X.env.cells.lookup x=some c→X.s₀.heap.objs.size≤c
  hd:X.calm=true→X.A.handled=none
  frames:X.A.frames=some X.stack
  stk:X.stack=X.outer∨(X.stack=X.env :: X.outer∧X.env.frame=some X.env.locals)
  exf:∀ b∈X.ex,b≠X.env.locals∧∀ x c,X.env.cells.lookup x=some c→c≠b
  bs:∀ b o,X.base.get? b=some o→X.s₀.heap.get? b=some o∧X.H₀ b=none
  bsz:X.base.objs.size≤X.s₀.heap.objs.size
  noex:∀ b o,X.base.get? b=some o→b ∉ X.ex
  exfs:∀ b∈X.ex,b ∉ X.fs
  funs:X.s₀.heap.FunFrames X.base X.outer
  frf:∀ b∈X.fs,X.H₀ b=none

structure Inv (X:Cx) (pins:List (Addr × Obj)) (σ : List (Option V)) (H:Hp) (s:Shared):Prop where
  ok:X.Ok
  os:s.os=X.s₀.os
  bare:AllBare s.gens
  base:Un X.fs X.ex X.H₀ H X.s₀.heap s.heap
  loc:∃ m,s.heap.Ns X.env.locals m∧∀ (i:Nat) (x:Str) (v:V),X.N[i]? = some x → σ[i]? = some (some v)→Vis X.env.scope x→∃ u,RelV v u∧Look X.env s.heap m x u
  cell:∀ x c,X.env.cells.lookup x=some c→∃ v,s.heap.IsCell c v
  free:H X.env.locals=none
  freeC:∀ x c,X.env.cells.lookup x=some c→H c=none
  pin:∀ p∈X.pn ++ pins,s.heap.get? p.1=some p.2∧H p.1=none∧p.1≠X.env.locals∧p.1 ∉ X.fs∧∀ v,p.2.data ≠ .cell v
  hok:HOk X.prog X.w H s.heap
  len : σ.length=X.N.length

section
variable {X:Cx} {pins:List (Addr × Obj)} {σ : List (Option V)} {H H':Hp} {s:Shared} {h':Heap}

theorem Cx.Ok.nofr (ok:X.Ok) {b:Addr} {o:Obj} (e:X.base.get? b=some o):b ∉ X.fs:=fun hb=>by
  have:=(ok.funs.mem hb).1
  rw [e] at this;cases this
theorem Inv.bs (I:Inv X pins σ H s):∀ b o,X.base.get? b=some o→s.heap.get? b=some o∧H b=none:=fun b o e =>
  ⟨I.base.keep b o (I.ok.bs b o e).1 (I.ok.bs b o e).2 (I.ok.nofr e) (I.ok.noex b o e),I.base.free b o (I.ok.bs b o e).1 (I.ok.bs b o e).2 (I.ok.noex b o e)⟩
theorem Inv.bk (I:Inv X pins σ H s):∀ b o,X.base.get? b=some o→s.heap.get? b=some o:=fun b o e=>(I.bs b o e).1
theorem Inv.mod (I:Inv X pins σ H s):Mod X.K X.mg X.base:=I.ok.mod
theorem Inv.kIn (I:Inv X pins σ H s):X.K.In s.heap:=I.ok.mod.kin.keeps I.bk
theorem Inv.lt (I:Inv X pins σ H s):X.env.locals < s.heap.objs.size:=let ⟨_,hn,_⟩:=I.loc;hn.lt
theorem Inv.sz (I:Inv X pins σ H s):X.s₀.heap.objs.size≤s.heap.objs.size:=Nat.le_trans I.ok.above (Nat.le_of_lt I.lt)
theorem Inv.nofs (I:Inv X pins σ H s) {a:Addr} (h:s.heap.objs.size≤a):a ∉ X.fs:=fun hb=>by
  obtain ⟨_,o,ho,_⟩:=I.ok.funs.mem hb
  exact absurd (Nat.lt_of_lt_of_le (Heap.lt_size ho) (Nat.le_trans I.sz h)) (Nat.lt_irrefl _)
theorem Inv.cne (I:Inv X pins σ H s):∀ x c,X.env.cells.lookup x=some c→c≠X.env.locals:=fun x c e z=>by
  obtain ⟨v,o,ho,hd⟩:=I.cell x c e
  obtain ⟨m,⟨o',es,ep,ho',hd',_⟩,_⟩:=I.loc
  rw [z,ho'] at ho;cases ho;rw [hd'] at hd;cases hd
theorem Inv.funs (I:Inv X pins σ H s):s.heap.FunFrames X.base X.outer:=by
  have all:∀ (l:List Env),(∀ b∈frs l,b∈X.fs)→X.s₀.heap.FunFrames X.base l→s.heap.FunFrames X.base l:=by
    intro l
    induction l with
    | nil=>intro _ _;trivial
    | cons env r ih =>
      intro hs hl
      obtain ⟨hk,⟨L,o,hf,hn,ho,hd⟩,hr⟩:=hl
      have hL:L∈X.fs:=hs L (by unfold frs;rw [List.filterMap_cons,hf];exact List.mem_cons_self)
      obtain ⟨sl,e⟩:=I.base.slot L o ho (I.ok.frf L hL) hL fun z=>I.ok.exfs L z hL
      exact ⟨hk,⟨L,_,hf,hn,e,hd⟩,ih (fun b hb=>hs b (by unfold frs;rw [List.filterMap_cons,hf];exact List.mem_cons_of_mem _ hb)) hr⟩
  exact all X.outer (fun _ hb=>hb) I.ok.funs

theorem Inv.stack (I:Inv X pins σ H s):s.heap.FunFrames X.base X.stack:=by
  rcases I.ok.stk with e | ⟨e,hf⟩
  · rw [e];exact I.funs
  · rw [e]
    obtain ⟨m,hn,_⟩:=I.loc
    refine .cons (by rw [I.ok.kind];decide) hf hn ?_ I.funs
    exact Heap.get?_none_of_le (Nat.le_trans I.ok.bsz I.ok.above)
theorem Inv.stkSub (I:Inv X pins σ H s):∀ b∈frs X.stack,b∈X.env.locals :: X.fs:=fun b hb=>by
  rcases I.ok.stk with e | ⟨e,hf⟩
  · rw [e] at hb;exact List.mem_cons_of_mem _ hb
  · rw [e] at hb
    unfold frs at hb
    rw [List.filterMap_cons,hf] at hb
    exact hb
theorem Inv.stkFree (I:Inv X pins σ H s):∀ b∈frs X.stack,H b=none:=fun b hb=>by
  rcases List.mem_cons.mp (I.stkSub b hb) with e | hb
  · rw [e];exact I.free
  · obtain ⟨_,o,ho,_⟩:=I.ok.funs.mem hb
    exact I.base.free b o ho (I.ok.frf b hb) fun z=>I.ok.exfs b z hb

theorem Inv.step {g':Array GenState} {t':Nat} {d':Drawn} {ch:List Addr} (I:Inv X pins σ H s)
    (hch:∀ b∈ch,(b∈X.ex∨X.s₀.heap.objs.size≤b)∧b≠X.env.locals∧(∀ x c,X.env.cells.lookup x=some c→c≠b)∧∀ p∈X.pn ++ pins,p.1≠b)
    (keep:∀ b o,b≠X.env.locals→b ∉ X.fs→b ∉ ch→s.heap.get? b=some o→H b=none→h'.get? b=some o)
    (slot:∀ b o,b≠X.env.locals→b∈X.fs→b ∉ ch→s.heap.get? b=some o→H b=none→∃ sl,h'.get? b=some { o with slots:=sl }) (free:∀ b o,b ∉ ch→s.heap.get? b=some o→H b=none→H' b=none)
    (there:∀ b o,b ∉ ch→s.heap.get? b=some o→∃ o',h'.get? b=some o')
    (tups:∀ b xs,H b=some (.tup xs)→H' b=some (.tup xs)) (frzs:∀ b o u,H b=some (.frz o u)→H' b=some (.frz o u)) (tbls:∀ b ps,H b=some (.tbl ps)→∃ more,H' b=some (.tbl (ps ++ more)))
    (ns:∀ m,s.heap.Ns X.env.locals m→h'.Ns X.env.locals m) (hok:HOk X.prog X.w H' h') (hg:AllBare g') :
    Inv X pins σ H' { s with heap:=h',gens:=g',drawn:=d',toks:=t' }:=by
  have neL:∀ b o,X.s₀.heap.get? b=some o→b≠X.env.locals:=fun b o e=>Nat.ne_of_lt (Nat.lt_of_lt_of_le (Heap.lt_size e) I.ok.above)
  have neC:∀ b o,X.s₀.heap.get? b=some o→b ∉ X.ex→b ∉ ch:=fun b o e hx hb=>by
    rcases (hch b hb).1 with z | z
    · exact hx z
    · exact absurd (Nat.lt_of_lt_of_le (Heap.lt_size e) z) (Nat.lt_irrefl _)
  have cellK:∀ x c,X.env.cells.lookup x=some c→∀ v,s.heap.IsCell c v→h'.IsCell c v:=fun x c e v ⟨o,ho,hd⟩=>by
    have nch:c ∉ ch:=fun z=>(hch c z).2.2.1 x c e rfl
    by_cases hc:c∈X.fs
    · obtain ⟨sl,q⟩:=slot c o (I.cne x c e) hc nch ho (I.freeC x c e)
      exact ⟨_,q,hd⟩
    · exact ⟨o,keep c o (I.cne x c e) hc nch ho (I.freeC x c e),hd⟩
  refine ⟨I.ok,I.os,hg,⟨fun b o e n hb hx => ?_,fun b o e n hb hx => ?_,fun b o e n hx => ?_,fun b o e hx => ?_,fun b xs e=>tups b xs (I.base.tups b xs e),fun b o xs e=>frzs b o xs (I.base.frzs b o xs e),fun b ps e => ?_⟩,?_,fun x c e => ?_,?_,fun x c e => ?_,fun p hp => ?_,hok,I.len⟩
  · exact keep b o (neL b o e) hb (neC b o e hx) (I.base.keep b o e n hb hx) (I.base.free b o e n hx)
  · obtain ⟨sl,e1⟩:=I.base.slot b o e n hb hx
    obtain ⟨sl',e2⟩:=slot b _ (neL b o e) hb (neC b o e hx) e1 (I.base.free b o e n hx)
    exact ⟨sl',e2⟩
  · obtain ⟨o',e1⟩:=I.base.there b o e hx
    exact free b o' (neC b o e hx) e1 (I.base.free b o e n hx)
  · obtain ⟨o',e1⟩:=I.base.there b o e hx
    exact there b o' (neC b o e hx) e1
  · obtain ⟨m1,e1⟩:=I.base.tbls b ps e
    obtain ⟨m2,e2⟩:=tbls b _ e1
    exact ⟨m1 ++ m2,by rw [e2,Array.append_assoc]⟩
  · obtain ⟨m,hn,hl⟩:=I.loc
    refine ⟨m,ns m hn,fun i x v e1 e2 e3 => ?_⟩
    obtain ⟨u,r,l⟩:=hl i x v e1 e2 e3
    refine ⟨u,r,?_⟩
    rcases l with l | ⟨k,c,e,z⟩
    · exact .inl l
    · exact .inr ⟨k,c,e,cellK x c e _ z⟩
  · obtain ⟨v,z⟩:=I.cell x c e
    exact ⟨v,cellK x c e v z⟩
  · obtain ⟨m,⟨o,_,_,ho,_⟩,_⟩:=I.loc
    exact free _ o (fun z=>(hch _ z).2.1 rfl) ho I.free
  · obtain ⟨v,o,ho,hd⟩:=I.cell x c e
    exact free c o (fun z=>(hch c z).2.2.1 x c e rfl) ho (I.freeC x c e)
  · obtain ⟨e,n,ne,nf,d⟩:=I.pin p hp
    have nch:p.1 ∉ ch:=fun z=>(hch p.1 z).2.2.2 p hp rfl
    exact ⟨keep p.1 p.2 ne nf nch e n,free p.1 p.2 nch e n,ne,nf,d⟩
theorem Inv.un {t':Nat} (I:Inv X pins σ H s) (u:Un X.fs [] H H' s.heap h') (hok:HOk X.prog X.w H' h'):Inv X pins σ H' { s with heap:=h',toks:=t' }:=by
  obtain ⟨m,⟨o,es,ep,ho,r⟩,_⟩:=id I.loc
  obtain ⟨sl,hL⟩:=u.any ho I.free (by simp)
  exact I.step (g':=s.gens) (d':=s.drawn) (ch := []) (fun _ z=>nomatch z) (fun b o _ hb _ e n=>u.keep b o e n hb (by simp)) (fun b o _ hb _ e n=>u.slot b o e n hb (by simp)) (fun b o _ e n=>u.free b o e n (by simp)) (fun b o _ e=>u.there b o e (by simp)) u.tups u.frzs u.tbls (fun m' hm=>by
    obtain ⟨o',es',ep',ho',r'⟩:=hm
    rw [ho] at ho';cases ho'
    exact ⟨_,es',ep',hL,r'⟩) hok I.bare
theorem Inv.call {g':Array GenState} {t':Nat} {d':Drawn} {ch:List Addr} (I:Inv X pins σ H s) (u:Un (frs X.stack) ch H H' s.heap h') (hok:HOk X.prog X.w H' h') (hg:AllBare g')
    (hch:∀ b∈ch,(b∈X.ex∨X.s₀.heap.objs.size≤b)∧b≠X.env.locals∧(∀ x c,X.env.cells.lookup x=some c→c≠b)∧∀ p∈X.pn ++ pins,p.1≠b) :
    Inv X pins σ H' { s with heap:=h',gens:=g',drawn:=d',toks:=t' }:=by
  obtain ⟨m,⟨o,es,ep,ho,r⟩,_⟩:=id I.loc
  obtain ⟨sl,hL⟩:=u.any ho I.free fun z=>(hch _ z).2.1 rfl
  exact I.step (ch:=ch) hch (fun b o hL hb hc e n=>u.keep b o e n (fun z=>(List.mem_cons.mp (I.stkSub b z)).elim hL hb) hc) (fun b o _ _ hc e n=>u.any e n hc) (fun b o hc e n=>u.free b o e n hc) (fun b o hc e=>u.there b o e hc) u.tups u.frzs u.tbls (fun m' hm=>by
    obtain ⟨o',es',ep',ho',r'⟩:=hm
    rw [ho] at ho';cases ho'
    exact ⟨_,es',ep',hL,r'⟩) hok hg
theorem Inv.turned {t':Nat} {it:Addr} (I:Inv X pins σ H s) (k:∀ b o,b≠it→s.heap.get? b=some o→h'.get? b=some o) (hn:H it=none) (hL:it≠X.env.locals)
    (h1:it∈X.ex∨X.s₀.heap.objs.size≤it) (h2:∀ x c,X.env.cells.lookup x=some c→c≠it) (h3:∀ p∈X.pn ++ pins,p.1≠it):Inv X pins σ H { s with heap:=h',toks:=t' }:=by
  have nit:∀ b u,H b=some u→b≠it:=fun b u e z=>by rw [z,hn] at e;cases e
  refine I.step (g':=s.gens) (d':=s.drawn) (ch := [it]) (fun b hb => ?_) (fun b o _ _ hc e _=>k b o (fun z=>hc (by simp [z])) e) (fun b o _ _ hc e _=>⟨o.slots,k b o (fun z=>hc (by simp [z])) e⟩) (fun _ _ _ _ n=>n)
    (fun b o hc e=>⟨o,k b o (fun z=>hc (by simp [z])) e⟩) (fun _ _ e=>e) (fun _ _ _ e=>e) (fun b ps e=>⟨#[],by rw [e];simp⟩) (fun m hm => ?_) (fun b u e => ?_) I.bare
  · have e:b=it:=by simpa using hb
    subst e
    exact ⟨h1,hL,h2,h3⟩
  · obtain ⟨o,es,ep,ho,r⟩:=hm
    exact ⟨o,es,ep,k _ o (Ne.symm hL) ho,r⟩
  · refine (I.hok b u e).stay (fun c v hc q=>k c v ?_ q) (fun _ q=>q) fun _ _ q=>q
    rcases hc with z | z
    · rw [z];exact nit b u e
    · exact nit c _ z
theorem Inv.tok (I:Inv X pins σ H s) (t:Nat):Inv X pins σ H { s with toks:=t }:=I.un (h':=s.heap) (t':=t) Un.refl I.hok
theorem Inv.kept {t':Nat} (I:Inv X pins σ H s) (k:∀ b u,s.heap.get? b=some u→h'.get? b=some u):Inv X pins σ H { s with heap:=h',toks:=t' }:=I.un (Un.kept k) (I.hok.kept k)
theorem Inv.laid {a:Addr} {o:HO} {t':Nat} (I:Inv X pins σ H s) (k:∀ b u,s.heap.get? b=some u→h'.get? b=some u) (hp:s.heap.objs.size≤a) (new:ObjOk X.prog X.w (upd H a o) h' a o) :
    Inv X pins σ (upd H a o) { s with heap:=h',toks:=t' }:=I.un (Un.laid k hp (I.hok.fresh hp)) (I.hok.laid k hp new)
theorem Inv.write {x e:Addr} {o:HO} {t':Nat} (I:Inv X pins σ H s) (mu:Mut (H x)) (he:e=x∨H e=some (.own x)) (k:∀ b u,b≠e→s.heap.get? b=some u→h'.get? b=some u) (heo:∃ u,h'.get? e=some u)
    (new:ObjOk X.prog X.w (upd H x o) h' x o):Inv X pins σ (upd H x o) { s with heap:=h',toks:=t' }:=I.un (Un.write mu he k heo) (I.hok.write mu he k heo new)
theorem Inv.pins_of {pins':List (Addr × Obj)} (I:Inv X pins σ H s) (h:∀ p∈pins',s.heap.get? p.1=some p.2∧H p.1=none∧p.1≠X.env.locals∧p.1 ∉ X.fs∧∀ v,p.2.data ≠ .cell v):Inv X pins' σ H s :=
  ⟨I.ok,I.os,I.bare,I.base,I.loc,I.cell,I.free,I.freeC,fun p hp=>(List.mem_append.mp hp).elim (fun z=>I.pin p (List.mem_append_left _ z)) (h p),I.hok,I.len⟩

theorem nodup_ix {N:List Str} (hN:N.Nodup) {i j:Nat} {x:Str} (a:N[i]? = some x) (b:N[j]? = some x):i=j:=by
  obtain ⟨h1,e1⟩:=List.getElem?_eq_some_iff.mp a
  obtain ⟨h2,e2⟩:=List.getElem?_eq_some_iff.mp b
  exact (List.getElem_inj hN).mp (e1.trans e2.symm)

theorem store_ok2 {M:Model} {A:Around} {E:Value→Shared→Prop} {i:Nat} {x:Str} {v:V} {u:Value} {Q:Unit→Shared→Prop} (I:Inv X pins σ H s) (hN:X.N.Nodup) (hi:X.N[i]? = some x) (hx:Loc X.env.scope x) (r:RelV v u)
    (h:∀ s',Inv X pins (σ.set i (some v)) H s'→(∃ a,Heap.SameBut a s.heap s'.heap∧(a=X.env.locals∨X.env.cells.lookup x=some a))→Q () s') (hf:X.fn x=true∨X.env.scope.names.lookup x=some .local:=by first | exact .inl rfl | exact .inr rfl | assumption):wpAny M A (storeName X.env x u) Q E s:=by
  obtain ⟨m,hn,hl⟩:=id I.loc
  have hcls:(X.env.scope.kind == .class || (X.env.scope.kind == .module && X.env.locals != X.env.globals))=false:=by rw [I.ok.kind];rfl
  have hiσ : i < σ.length:=by rw [I.len];exact (List.getElem?_eq_some_iff.mp hi).1
  have cne:=I.cne
  have tracked:∀ {a:Addr} {h':Heap},(∃ o,s.heap.get? a=some o∧H a=none)→Heap.SameBut a s.heap h'→HOk X.prog X.w H h':=fun {a h'} ha hs b ob e=>by
    obtain ⟨_,_,hfree⟩:=ha
    refine (I.hok b ob e).stay (fun c w' hc q=>(hs.2 c ?_).trans q) (fun _ q=>q) fun _ _ q=>q
    rintro rfl
    rcases hc with rfl | hc
    · rw [hfree] at e;cases e
    · rw [hfree] at hc;cases hc
  rcases hx with hk | hk
  · refine wpAny_storeName_local hk hn (fun h' hn' hs => ?_) hcls
    obtain ⟨oL,_,_,hoL,_⟩:=id hn
    refine h _ ⟨I.ok,I.os,I.bare,⟨fun b o e n hb hx => ?_,fun b o e n hb hx => ?_,I.base.free,fun b o e hx => ?_,I.base.tups,I.base.frzs,I.base.tbls⟩,⟨_,hn',fun j y v' e1 e2 e3 => ?_⟩,fun y c e => ?_,I.free,I.freeC,fun p hp => ?_,tracked ⟨oL,hoL,I.free⟩ hs,by simpa using I.len⟩ ⟨_,hs,.inl rfl⟩
    · exact (hs.2 b (Nat.ne_of_lt (Nat.lt_of_lt_of_le (Heap.lt_size e) I.ok.above))).trans (I.base.keep b o e n hb hx)
    · obtain ⟨sl,e1⟩:=I.base.slot b o e n hb hx
      exact ⟨sl,(hs.2 b (Nat.ne_of_lt (Nat.lt_of_lt_of_le (Heap.lt_size e) I.ok.above))).trans e1⟩
    · obtain ⟨o',e1⟩:=I.base.there b o e hx
      exact ⟨o',(hs.2 b (Nat.ne_of_lt (Nat.lt_of_lt_of_le (Heap.lt_size e) I.ok.above))).trans e1⟩
    · by_cases hj:j=i
      · subst hj
        rw [hi] at e1;cases e1
        rw [List.getElem?_set_self hiσ] at e2
        cases e2
        exact ⟨u,r,.inl ⟨hk,by simp⟩⟩
      · rw [List.getElem?_set_ne (Ne.symm hj)] at e2
        obtain ⟨u',r',q⟩:=hl j y v' e1 e2 e3
        refine ⟨u',r',?_⟩
        rcases q with ⟨k,e⟩ | ⟨k,c,e,z⟩
        · refine .inl ⟨k,?_⟩
          have:y≠x:=fun e=>hj (nodup_ix hN e1 (e ▸ hi))
          simp [this,e]
        · exact .inr ⟨k,c,e,z.sameBut hs (cne y c e)⟩
    · obtain ⟨w',z⟩:=I.cell y c e
      exact ⟨w',z.sameBut hs (cne y c e)⟩
    · obtain ⟨e,n,ne,nf,d⟩:=I.pin p hp
      exact ⟨(hs.2 p.1 ne).trans e,n,ne,nf,d⟩
  · have hfn:X.fn x=true:=by
      rcases hf with z | z
      · exact z
      · rw [z] at hk;cases hk
    obtain ⟨c,hc⟩:=I.ok.has x (.inl hk)
    obtain ⟨w',z⟩:=I.cell x c hc
    refine wpAny_storeName_cell I.ok.kind hk hc z (fun h' hc' hs => ?_)
    obtain ⟨oc,hoc,hocd⟩:=id z
    refine h { s with heap:=h' } ⟨I.ok,I.os,I.bare,⟨fun b o e n hb hx => ?_,fun b o e n hb hx => ?_,I.base.free,fun b o e hx => ?_,I.base.tups,I.base.frzs,I.base.tbls⟩,⟨m,hn.sameBut hs (Ne.symm (cne x c hc)),fun j y v' e1 e2 e3 => ?_⟩,fun y c' e => ?_,I.free,I.freeC,fun p hp => ?_,tracked ⟨oc,hoc,I.freeC x c hc⟩ hs,by simpa using I.len⟩ ⟨c,hs,.inr hc⟩
    · exact (hs.2 b (Nat.ne_of_lt (Nat.lt_of_lt_of_le (Heap.lt_size e) (I.ok.cab x c hfn hc)))).trans (I.base.keep b o e n hb hx)
    · obtain ⟨sl,e1⟩:=I.base.slot b o e n hb hx
      exact ⟨sl,(hs.2 b (Nat.ne_of_lt (Nat.lt_of_lt_of_le (Heap.lt_size e) (I.ok.cab x c hfn hc)))).trans e1⟩
    · obtain ⟨o',e1⟩:=I.base.there b o e hx
      exact ⟨o',(hs.2 b (Nat.ne_of_lt (Nat.lt_of_lt_of_le (Heap.lt_size e) (I.ok.cab x c hfn hc)))).trans e1⟩
    · by_cases hj:j=i
      · subst hj
        rw [hi] at e1;cases e1
        rw [List.getElem?_set_self hiσ] at e2
        cases e2
        exact ⟨u,r,.inr ⟨.inl hk,c,hc,hc'⟩⟩
      · rw [List.getElem?_set_ne (Ne.symm hj)] at e2
        obtain ⟨u',r',q⟩:=hl j y v' e1 e2 e3
        refine ⟨u',r',?_⟩
        rcases q with q | ⟨k,c',e,z'⟩
        · exact .inl q
        · refine .inr ⟨k,c',e,z'.sameBut hs ?_⟩
          rintro rfl
          exact hj (nodup_ix hN e1 (I.ok.inj _ _ _ e hc ▸ hi))
    · by_cases hcc:c'=c
      · subst hcc;exact ⟨_,hc'⟩
      · obtain ⟨w2,z2⟩:=I.cell y c' e
        exact ⟨w2,z2.sameBut hs hcc⟩
    · obtain ⟨e,n,ne,nf,d⟩:=I.pin p hp
      refine ⟨(hs.2 p.1 ?_).trans e,n,ne,nf,d⟩
      intro q
      rw [q,hoc] at e
      have q':oc=p.2:=Option.some.inj e
      exact d w' (by rw [← q'];exact hocd)
theorem store_ok {M:Model} {A:Around} {E:Value→Shared→Prop} {i:Nat} {x:Str} {v:V} {u:Value} {Q:Unit→Shared→Prop} (I:Inv X pins σ H s) (hN:X.N.Nodup) (hi:X.N[i]? = some x) (hx:Loc X.env.scope x) (r:RelV v u)
    (h:∀ s',Inv X pins (σ.set i (some v)) H s'→Q () s') (hf:X.fn x=true∨X.env.scope.names.lookup x=some .local:=by first | exact .inl rfl | exact .inr rfl | assumption):wpAny M A (storeName X.env x u) Q E s :=
  store_ok2 I hN hi hx r (fun s' I' _=>h s' I') hf
theorem Inv.call' {s':Shared} {ch:List Addr} (I:Inv X pins σ H s) (ho:s'.os=s.os) (u:Un (frs X.stack) ch H H' s.heap s'.heap) (hok:HOk X.prog X.w H' s'.heap) (hg:AllBare s'.gens)
    (hch:∀ b∈ch,(b∈X.ex∨X.s₀.heap.objs.size≤b)∧b≠X.env.locals∧(∀ x c,X.env.cells.lookup x=some c→c≠b)∧∀ p∈X.pn ++ pins,p.1≠b):Inv X pins σ H' s':=by
  obtain ⟨h',g',d',t',o'⟩:=s'
  have e:o'=s.os:=ho
  subst e
  exact I.call (g':=g') (t':=t') (d':=d') u hok hg hch
end

noncomputable abbrev XK:=Value→Option Addr→Hp→Prop
noncomputable abbrev St:=List (Option V)
noncomputable abbrev VK:=V→Hp→Prop
noncomputable abbrev TE:=St→Hp→VK→Prop
noncomputable abbrev TT:=St→Hp→(Bool→Hp→Prop)→Prop
noncomputable abbrev TA:=St→Hp→(List V→Hp→Prop)→Prop
structure Ends where
  nx:St→Hp→Prop
  rt:VK
  bk:St→Hp→Prop:=fun _ _=>False
  ct:St→Hp→Prop:=fun _ _=>False
noncomputable abbrev TS:=Ends→St→Hp→Prop

noncomputable def EP (X:Cx) (pins:List (Addr × Obj)) (σ : St) (Q:VK) (u:Value) (s':Shared):Prop := ∃ v H',Inv X pins σ H' s'∧RelV v u∧Q v H'
noncomputable def TP (X:Cx) (pins:List (Addr × Obj)) (σ : St) (Q:Bool→Hp→Prop) (b:Bool) (s':Shared):Prop := ∃ H',Inv X pins σ H' s'∧Q b H'
noncomputable def AP (X:Cx) (pins:List (Addr × Obj)) (σ : St) (Q:List V→Hp→Prop) (us:List Value) (s':Shared):Prop := ∃ vs H',Inv X pins σ H' s'∧Vals vs us∧Q vs H'
noncomputable def SP (X:Cx) (pins:List (Addr × Obj)) (D:Ends) (f:Flow) (s':Shared):Prop :=
  match f with
  | .next=>∃ σ' H',Inv X pins σ' H' s'∧D.nx σ' H'
  | .brk=>∃ σ' H',Inv X pins σ' H' s'∧D.bk σ' H'
  | .cont=>∃ σ' H',Inv X pins σ' H' s'∧D.ct σ' H'
  | .ret u=>∃ v σ' H',Inv X pins σ' H' s'∧RelV v u∧D.rt v H'

noncomputable def PE (X:Cx) (e:Expr) (t:TE):Prop :=
  ∀ (pins:List (Addr × Obj)) (s:Shared) (σ : St) (H:Hp) (Q:VK),Inv X pins σ H s→t σ H Q→wpAny (model X.prog X.w) X.A (eval e X.env) (EP X pins σ Q) X.xe s
noncomputable def PT (X:Cx) (e:Expr) (t:TT):Prop :=
  ∀ (pins:List (Addr × Obj)) (s:Shared) (σ : St) (H:Hp) (Q:Bool→Hp→Prop),Inv X pins σ H s→t σ H Q→wpAny (model X.prog X.w) X.A (isTrue e X.env (eval e X.env)) (TP X pins σ Q) X.xe s
noncomputable def PW (X:Cx) (e:Expr) (t:TT):Prop :=
  ∀ (whole:Sem Value) (pins:List (Addr × Obj)) (s:Shared) (σ : St) (H:Hp) (Q:Bool→Hp→Prop),Inv X pins σ H s→t σ H Q→wpAny (model X.prog X.w) X.A (isTrue e X.env whole) (TP X pins σ Q) X.xe s
theorem PW.pt {X:Cx} {e:Expr} {t:TT} (h:PW X e t):PT X e t:=h _
noncomputable def PA (X:Cx) (es:List Expr) (t:TA):Prop :=
  ∀ (pos:Pos) (pins:List (Addr × Obj)) (s:Shared) (σ : St) (H:Hp) (Q:List V→Hp→Prop),Inv X pins σ H s→t σ H Q→wpAny (model X.prog X.w) X.A (spliced (backTo pos (starEach es X.env))) (AP X pins σ Q) X.xe s
noncomputable def PS (X:Cx) (st:Stmt) (t:TS):Prop :=
  ∀ (pins:List (Addr × Obj)) (s:Shared) (σ : St) (H:Hp) (D:Ends),Inv X pins σ H s→t D σ H→wpAny (model X.prog X.w) X.A (exec st X.env) (SP X pins D) X.xe s
noncomputable def PSs (X:Cx) (st:List Stmt) (t:TS):Prop :=
  ∀ (pins:List (Addr × Obj)) (s:Shared) (σ : St) (H:Hp) (D:Ends),Inv X pins σ H s→t D σ H→wpAny (model X.prog X.w) X.A (execs st X.env) (SP X pins D) X.xe s
theorem thn {α : Type} {t:Sem α} {Q Q' : α → Shared→Prop} {M:Model} {A:Around} {E:Value→Shared→Prop} {s:Shared} (h:wpAny M A t Q E s) (hQ:∀ a s,Q a s→Q' a s):wpAny M A t Q' E s:=wpAny_mono h hQ fun _ _ x=>x
end L2

namespace L2
open PySem PySem.Spec PyProof.Rows
section
variable {X:Cx}


inductive TVar (i:Nat) (σ : St) (H:Hp) (Q:VK):Prop
  | mk (v:V) (e : σ[i]? = some (some v)) (q:Q v H):TVar i σ H Q
noncomputable def tVar (i:Nat):TE:=fun σ H Q=>TVar i σ H Q
noncomputable def tC (v:V):TE:=fun _ H Q=>Q v H
theorem pe_var {i:Nat} {x:Str} {pos:Pos} (hN:X.N[i]? = some x) (hv:Vis X.env.scope x) (hd:(x == ("__debug__" : Str))=false:=by decide) (hcd:(x == ("__classdict__" : Str))=false:=by decide):PE X (.Name x pos) (tVar i):=by
  intro pins s σ H Q I h
  obtain ⟨v,e,h⟩:=h
  obtain ⟨m,hn,hl⟩:=I.loc
  obtain ⟨u,r,l⟩:=hl i x v hN e hv
  have fin:EP X pins σ Q u s:=⟨v,H,I,r,h⟩
  rcases l with ⟨hk,hm⟩ | ⟨hk,c,hc,hcell⟩
  · exact wpAny_Name (wpAny_loadName_local I.ok.kind hk hn hm fin) hd
  · rcases hk with hk | hk
    · exact wpAny_Name (wpAny_loadName_cell I.ok.kind hk hc hcell fin) hd
    · exact wpAny_Name (wpAny_loadName_free I.ok.kind hk hc hcell fin hcd) hd
theorem pe_int {i j pos}:PE X (.Constant (.int i) j pos) (tC (.int i)):=fun _ _ _ H _ I h=>wpAny_Constant_int ⟨.int i,H,I.tok _,⟨_,rfl⟩,h⟩
theorem pe_bl {b j pos}:PE X (.Constant (.bool b) j pos) (tC (.bl b)):=fun _ _ _ H _ I h=>Constant_bool ⟨.bl b,H,I,rfl,h⟩
theorem pe_non {j pos}:PE X (.Constant .none j pos) (tC .non):=fun _ _ _ H _ I h=>Constant_none ⟨.non,H,I,rfl,h⟩
theorem pe_str {x j pos}:PE X (.Constant (.str x) j pos) (tC (.str x)):=fun _ _ _ H _ I h=>Calls.Constant_str ⟨.str x,H,I.tok _,⟨_,rfl⟩,h⟩

noncomputable def Gl (X:Cx) (x:Str):Prop:=X.env.kindOf x=some .globalImplicit
theorem ld_glob {E:Value→Shared→Prop} {pins:List (Addr × Obj)} {s:Shared} {σ : St} {H:Hp} {x:Str} {u:Value} {pos:Pos} {Q:Value→Shared→Prop} (I:Inv X pins σ H s) (hg:Gl X x) (hm:X.mg x=some u) (h:Q u s)
    (hd:(x == ("__debug__" : Str))=false:=by decide):wpAny (model X.prog X.w) X.A (eval (.Name x pos) X.env) Q E s :=
  Calls.Name_function_global I.ok.kind hg (Calls.loadGlobal_global (by rw [I.ok.glob];exact I.mod.glob.keeps I.bk) hm h) hd
theorem ld_blt {E:Value→Shared→Prop} {pins:List (Addr × Obj)} {s:Shared} {σ : St} {H:Hp} {x:Str} {u:Value} {pos:Pos} {Q:Value→Shared→Prop} (I:Inv X pins σ H s) (hg:Gl X x) (hm:X.mg x=none) (hv:bootBuiltins x=some u) (h:Q u s)
    (hn:x ≠ "__name__" := by decide) (hd:(x == ("__debug__" : Str))=false:=by decide):wpAny (model X.prog X.w) X.A (eval (.Name x pos) X.env) Q E s:=by
  obtain ⟨mb,h1,h2⟩:=I.mod.blt
  exact Calls.Name_function_global I.ok.kind hg (Calls.loadGlobal_builtin (by rw [I.ok.glob];exact I.mod.glob.keeps I.bk) hm (by rw [I.ok.blt];exact h1.keeps I.bk) ((h2 x hn).trans hv) h) hd
theorem pe_glob {x:Str} {v:V} {u:Value} {pos:Pos} (hg:Gl X x) (hm:X.mg x=some u) (r:RelV v u) (hd:(x == ("__debug__" : Str))=false:=by decide):PE X (.Name x pos) (tC v) :=
  fun _ _ _ H _ I h=>ld_glob I hg hm ⟨v,H,I,r,h⟩ hd
theorem pe_bltn {x:Str} {v:V} {u:Value} {pos:Pos} (hg:Gl X x) (hm:X.mg x=none) (hv:bootBuiltins x=some u) (r:RelV v u) (hn:x ≠ "__name__" := by decide) (hd:(x == ("__debug__" : Str))=false:=by decide):PE X (.Name x pos) (tC v) :=
  fun _ _ _ H _ I h=>ld_blt I hg hm hv ⟨v,H,I,r,h⟩ hn hd

variable {a b:Expr} {ta tb:TE} {pos:Pos}

noncomputable def PC (X:Cx) (op:CmpOp) (a b:Expr) (t:TE):Prop :=
  ∀ (pins:List (Addr × Obj)) (s:Shared) (σ : St) (H:Hp) (Q:VK),Inv X pins σ H s→t σ H Q →
    wpAny (model X.prog X.w) X.A (eval a X.env) (fun v s₁ => wpAny (model X.prog X.w) X.A (eval b X.env) (fun u s₂ => wpAny (model X.prog X.w) X.A (compareOp op v u) (EP X pins σ Q) X.xe s₂) X.xe s₁) X.xe s
inductive J_tB (Q:Bool→Hp→Prop) (x:V) (H1:Hp):Prop
  | mk:∀ c,(x = .bl c)→(Q c H1)→J_tB Q x H1
noncomputable def tB (t:TE):TT:=fun σ H Q=>t σ H fun x H1=>J_tB Q x H1
theorem pe_cmp {op:CmpOp} {t:TE} (h:PC X op a b t) (h1:behindInMarks op b=false:=by first | exact nobehind _ (by decide) (by decide) | rfl):PE X (.Compare a [op] [b] pos) t:=fun pins s σ H Q I hw=>wpAny_Compare1 (h pins s σ H Q I hw) h1
theorem pt_cmp {op:CmpOp} {t:TE} (h:PC X op a b t) (h1:behindInMarks op b=false:=by first | exact nobehind _ (by decide) (by decide) | rfl):PT X (.Compare a [op] [b] pos) (tB t):=by
  intro pins s σ H Q I hw
  refine wpAny_isTrue_Compare1 (thn (h pins s σ H _ I hw) fun v s1 h1=>thn h1 fun u s2 h2=>thn h2 fun c s3 ⟨x,H1,I1,r1,q1⟩ => ?_) h1
  obtain ⟨d,rfl,q⟩:=q1
  cases r1
  exact wpAny_truthy_bool ⟨H1,I1,q⟩
theorem pt_val {e:Expr} {t:TE} (h:PE X e t) (he:∀ whole,isTrue e X.env whole=(do let v ← whole;standAt e.pos;holding [v] (truthy v)):=by intro _;rfl):PT X e (tB t):=by
  intro pins s σ H Q I hw
  refine isTrue_plain (thn (h pins s σ H _ I hw) fun v s1 ⟨x,H1,I1,r1,q1⟩ => ?_) (he _)
  obtain ⟨d,rfl,q⟩:=q1
  cases r1
  exact wpAny_truthy_bool ⟨H1,I1,q⟩

variable {tA tB':TT} {rest:List Expr}
noncomputable def tAnd (t u:TT):TT:=fun σ H Q=>t σ H fun c H1=>if c=true then u σ H1 Q else Q false H1
noncomputable def tOr (t u:TT):TT:=fun σ H Q=>t σ H fun c H1=>if c=true then Q true H1 else u σ H1 Q
noncomputable def tNot (t:TT):TT:=fun σ H Q=>t σ H fun c H1=>Q (!c) H1
theorem pw_and1 (ha:PT X a tA):PW X (.BoolOp .And [a] pos) tA:=by
  intro wh pins s σ H Q I h
  refine isTrue_and (thn (ha pins s σ H Q I h) fun c s1 e => ?_)
  cases c with
  | true=>exact isTrue_and_nil e
  | false=>exact e
theorem pw_or1 (ha:PT X a tA):PW X (.BoolOp .Or [a] pos) tA:=by
  intro wh pins s σ H Q I h
  refine isTrue_or (thn (ha pins s σ H Q I h) fun c s1 e => ?_)
  cases c with
  | false=>exact isTrue_or_nil e
  | true=>exact e
theorem pw_and (ha:PT X a tA) (hb:PW X (.BoolOp .And (b :: rest) pos) tB'):PW X (.BoolOp .And (a :: b :: rest) pos) (tAnd tA tB'):=by
  intro wh pins s σ H Q I h
  refine isTrue_and (thn (ha pins s σ H _ I h) fun c s1 ⟨H1,I1,q1⟩ => ?_)
  cases c with
  | true=>exact hb wh pins s1 σ H1 Q I1 q1
  | false=>exact ⟨H1,I1,q1⟩
theorem pw_or (ha:PT X a tA) (hb:PW X (.BoolOp .Or (b :: rest) pos) tB'):PW X (.BoolOp .Or (a :: b :: rest) pos) (tOr tA tB'):=by
  intro wh pins s σ H Q I h
  refine isTrue_or (thn (ha pins s σ H _ I h) fun c s1 ⟨H1,I1,q1⟩ => ?_)
  cases c with
  | true=>exact ⟨H1,I1,q1⟩
  | false=>exact hb wh pins s1 σ H1 Q I1 q1
theorem pt_not (ha:PT X a tA):PT X (.UnaryOp .Not a pos) (tNot tA):=by
  intro pins s σ H Q I h
  exact isTrue_not (ha pins s σ H (fun c H1=>Q (!c) H1) I h)
noncomputable def tAndV (ta tb:TE):TE:=fun σ H Q=>ta σ H fun x H1=>∃ c,x = .bl c∧if c=true then tb σ H1 Q else Q (.bl false) H1
inductive J_tNotV (Q:VK) (x:V) (H1:Hp):Prop
  | mk:∀ c,(x = .bl c)→(Q (.bl (!c)) H1)→J_tNotV Q x H1
noncomputable def tNotV (ta:TE):TE:=fun σ H Q=>ta σ H fun x H1=>J_tNotV Q x H1
theorem pe_one {op} {t:TE} (h:PE X a t):PE X (.BoolOp op [a] pos) t:=fun pins s σ H Q I hw=>BoolOp_one (h pins s σ H Q I hw)
theorem pe_and (ha:PE X a ta) (hb:PE X (.BoolOp .And (b :: rest) pos) tb):PE X (.BoolOp .And (a :: b :: rest) pos) (tAndV ta tb):=by
  intro pins s σ H Q I h
  refine BoolOp_and (thn (ha pins s σ H _ I h) fun v s1 ⟨x,H1,I1,r1,q1⟩ => ?_)
  obtain ⟨c,rfl,q1⟩:=q1
  cases r1
  refine wpAny_truthy_bool ?_
  cases c with
  | true=>exact hb pins s1 σ H1 Q I1 q1
  | false=>exact ⟨.bl false,H1,I1,rfl,q1⟩
theorem pe_not (ha:PE X a ta):PE X (.UnaryOp .Not a pos) (tNotV ta):=by
  intro pins s σ H Q I h
  refine UnaryOp_ (thn (ha pins s σ H _ I h) fun v s1 ⟨x,H1,I1,r1,q1⟩ => ?_)
  obtain ⟨c,rfl,q1⟩:=q1
  cases r1
  exact not_of (wpAny_truthy_bool ⟨.bl (!c),H1,I1,rfl,q1⟩)
end
end L2

namespace L2
open PySem PySem.Spec PyProof.Rows

noncomputable def SqL (K:PySem.W.Frag) (H:Hp) (a:Addr) (xs:List V):Prop :=
  Rd H a (.lst xs) ∨
    ∃ (o:Obj) (its:Array Value) (n:Nat),K.lookup a=some o∧o.cls = .type "list" ∧ o.dict=none∧o.data = .seq its n∧its.size≤sizeLine∧Vals xs its.toList
noncomputable def SqT (K:PySem.W.Frag) (H:Hp) (a:Addr) (xs:List V):Prop :=
  Rd H a (.tup xs) ∨
    ∃ (o:Obj) (its:Array Value) (n:Nat),K.lookup a=some o∧o.cls = .type "tuple" ∧ o.data = .seq its n∧its.size≤sizeLine∧Vals xs its.toList
noncomputable def absV:Value→Option V
  | .none=>some .non
  | .bool b=>some (.bl b)
  | .int i _=>some (.int i)
  | .str x _=>some (.str x)
  | .bytes b _=>some (.byt b)
  | .float b _=>some (.flt b)
  | .ref a=>some (.ref a)
  | .type n=>some (.ty n)
  | _=>none
theorem RelV.abs {x:V} {u:Value} (r:RelV x u):absV u=some x:=by
  cases x with
  | non=>cases r;rfl
  | bl _=>cases r;rfl
  | int _=>obtain ⟨t,rfl⟩:=r;rfl
  | str _=>obtain ⟨t,rfl⟩:=r;rfl
  | byt _=>obtain ⟨t,rfl⟩:=r;rfl
  | flt _=>obtain ⟨t,rfl⟩:=r;rfl
  | ref _=>cases r;rfl
  | ty _=>cases r;rfl
theorem RelV.inj {x y:V} {u:Value} (r:RelV x u) (q:RelV y u):x=y:=Option.some.inj (r.abs.symm.trans q.abs)
theorem Vals.inj:∀ {xs ys:List V} {us:List Value},Vals xs us→Vals ys us→xs=ys
  | _,_,_,.nil,.nil=>rfl
  | _,_,_,.cons r t,.cons r' t'=>by rw [r.inj r',Vals.inj t t']
section
variable {X:Cx} {pins:List (Addr × Obj)} {σ : St} {H:Hp} {s:Shared} {a:Addr} {xs ys:List V}
theorem SqL.of {K:PySem.W.Frag} (h:H a=some (.lst xs)):SqL K H a xs := .inl (.inl h)
theorem SqT.of {K:PySem.W.Frag} (h:H a=some (.tup xs)):SqT K H a xs := .inl (.inl h)
theorem Inv.list (I:Inv X pins σ H s) (h:SqL X.K H a xs):∃ its:List Value,Vals xs its∧PlainL s.heap a its.toArray∧xs.length≤sizeLine:=by
  rcases h with h | ⟨o,its,n,hk,hc,hd,hs,hz,r⟩
  · obtain ⟨z,its,n,r,e⟩:=h.ok I.hok
    exact ⟨its,r,⟨_,n,e,rfl,rfl,rfl⟩,z⟩
  · refine ⟨its.toList,r,⟨o,n,I.kIn a o hk,hc,hd,by simpa using hs⟩,?_⟩
    have e:=r.length
    simp only [Array.length_toList] at e
    omega
theorem Inv.tuple (I:Inv X pins σ H s) (h:SqT X.K H a xs):∃ its:List Value,Vals xs its∧IsTup s.heap a its.toArray∧xs.length≤sizeLine:=by
  rcases h with h | ⟨o,its,n,hk,hc,hs,hz,r⟩
  · obtain ⟨z,its,r,p⟩:=h.ok I.hok
    exact ⟨its,r,p.tup,z⟩
  · refine ⟨its.toList,r,⟨o,I.kIn a o hk,hc,n,by simpa using hs⟩,?_⟩
    have e:=r.length
    simp only [Array.length_toList] at e
    omega
theorem Inv.list_inj (I:Inv X pins σ H s) (h:SqL X.K H a xs) (h':SqL X.K H a ys):xs=ys:=by
  obtain ⟨its,r,⟨o,n,e,_,_,d⟩,_⟩:=I.list h
  obtain ⟨its',r',⟨o',n',e',_,_,d'⟩,_⟩:=I.list h'
  rw [e] at e';cases e'
  rw [d] at d'
  injection d' with d1 _
  have:its=its':=by simpa using congrArg Array.toList d1
  subst this
  exact r.inj r'
theorem Inv.tuple_inj (I:Inv X pins σ H s) (h:SqT X.K H a xs) (h':SqT X.K H a ys):xs=ys:=by
  obtain ⟨its,r,⟨o,e,_,n,d⟩,_⟩:=I.tuple h
  obtain ⟨its',r',⟨o',e',_,n',d'⟩,_⟩:=I.tuple h'
  rw [e] at e';cases e'
  rw [d] at d'
  injection d' with d1 _
  have:its=its':=by simpa using congrArg Array.toList d1
  subst this
  exact r.inj r'
end

noncomputable abbrev Cx.wish (X:Cx) (E:Value→Shared→Prop):Cx := { X with xe:=E }
noncomputable abbrev Cx.nox (X:Cx):Cx:=X.wish fun _ _=>False
theorem Cx.Ok.wish {X:Cx} (ok:X.Ok) (E:Value→Shared→Prop):(X.wish E).Ok :=
  ⟨ok.mod,ok.kind,ok.glob,ok.blt,ok.above,ok.inj,ok.has,ok.cab,ok.hd,ok.frames,ok.stk,ok.exf,ok.bs,ok.bsz,ok.noex,ok.exfs,ok.funs,ok.frf⟩
theorem Cx.Ok.unwish {X:Cx} {E:Value→Shared→Prop} (ok:(X.wish E).Ok):X.Ok :=
  ⟨ok.mod,ok.kind,ok.glob,ok.blt,ok.above,ok.inj,ok.has,ok.cab,ok.hd,ok.frames,ok.stk,ok.exf,ok.bs,ok.bsz,ok.noex,ok.exfs,ok.funs,ok.frf⟩
section
variable {X:Cx} {pins:List (Addr × Obj)} {σ : St} {H:Hp} {s:Shared} {E:Value→Shared→Prop}
theorem Inv.wish (I:Inv X pins σ H s) (E:Value→Shared→Prop):Inv (X.wish E) pins σ H s:=⟨I.ok.wish E,I.os,I.bare,I.base,I.loc,I.cell,I.free,I.freeC,I.pin,I.hok,I.len⟩
theorem Inv.unwish (I:Inv (X.wish E) pins σ H s):Inv X pins σ H s:=⟨I.ok.unwish,I.os,I.bare,I.base,I.loc,I.cell,I.free,I.freeC,I.pin,I.hok,I.len⟩
theorem SP.unwish {D:Ends} {f:Flow} {s':Shared} (h:SP (X.wish E) pins D f s'):SP X pins D f s':=by
  cases f with
  | next=>obtain ⟨σ',H',I,q⟩:=h;exact ⟨σ',H',I.unwish,q⟩
  | brk=>obtain ⟨σ',H',I,q⟩:=h;exact ⟨σ',H',I.unwish,q⟩
  | cont=>obtain ⟨σ',H',I,q⟩:=h;exact ⟨σ',H',I.unwish,q⟩
  | ret u=>obtain ⟨v, σ',H',I,r,q⟩:=h;exact ⟨v, σ',H',I.unwish,r,q⟩
theorem PSs.nox {st:List Stmt} {t:TS} (h:PSs X.nox st t):PSs X st t:=fun pins s σ H D I hw =>
  wpAny_mono (h pins s σ H D (I.wish _) hw) (fun _ _ q=>q.unwish) fun _ _ z=>False.elim z
end

section
variable {X:Cx} {st:Stmt} {rest:List Stmt} {t u:TS} {e:Expr} {te:TE} {pos:Pos}
noncomputable def tNext:TS:=fun D σ H=>D.nx σ H
noncomputable def tSeq (t u:TS):TS:=fun D σ H=>t { D with nx:=u D } σ H
theorem pss_nil:PSs X [] tNext:=fun _ _ σ H _ I h=>wpAny_execs_nil ⟨σ,H,I,h⟩
theorem pss_cons (h1:PS X st t) (h2:PSs X rest u):PSs X (st :: rest) (tSeq t u):=by
  intro pins s σ H D I h
  refine wpAny_execs_cons (thn (h1 pins s σ H { D with nx:=u D } I h) fun f s1 q => ?_)
  cases f with
  | next =>
    obtain ⟨σ',H',I',q⟩:=q
    exact h2 pins s1 σ' H' D I' q
  | ret v=>exact q
  | brk=>exact q
  | cont=>exact q
theorem pss_one (h1:PS X st t):PSs X [st] t:=by
  intro pins s σ H D I h
  refine wpAny_execs_cons (thn (h1 pins s σ H D I h) fun f s1 q => ?_)
  cases f with
  | next=>exact wpAny_execs_nil q
  | ret v=>exact q
  | brk=>exact q
  | cont=>exact q
theorem ps_pass:PS X (.Pass pos) tNext:=fun _ _ σ H _ I h=>wpAny_Pass ⟨σ,H,I,h⟩
theorem Inv.quiet {pins:List (Addr × Obj)} {σ : St} {H:Hp} {s:Shared} (I:Inv X pins σ H s):interactive X.env=false:=by simp [interactive,I.ok.kind]
noncomputable def tDrop (te:TE):TS:=fun D σ H=>te σ H fun _ H1=>D.nx σ H1
theorem ps_expr (he:PE X e te) (hs:swapsWith e none pos.line X.env=pure false:=by rfl):PS X (.Expr e pos) (tDrop te):=by
  intro pins s σ H D I h
  exact wpAny_Expr_any (thn (he pins s σ H _ I h) fun v s1 ⟨x,H1,I1,r1,q1⟩=>⟨σ,H1,I1,q1⟩) I.quiet hs
noncomputable def tRet (te:TE):TS:=fun D σ H=>te σ H D.rt
theorem ps_ret (he:PE X e te):PS X (.Return (some e) pos) (tRet te):=by
  intro pins s σ H D I h
  exact wpAny_Return_some (thn (he pins s σ H _ I h) fun v s1 ⟨x,H1,I1,r1,q1⟩=>⟨x, σ,H1,I1,r1,q1⟩)
noncomputable def tIfS (c:TT) (t u:TS):TS:=fun D σ H=>c σ H fun b H1=>if b=true then t D σ H1 else u D σ H1
theorem ps_if {c:Expr} {a b:List Stmt} {tc:TT} (hc:PT X c tc) (ha:PSs X a t) (hb:PSs X b u):PS X (.If c a b pos) (tIfS tc t u):=by
  intro pins s σ H D I h
  refine wpAny_If (thn (hc pins s σ H _ I h) fun d s1 ⟨H1,I1,q1⟩ => ?_)
  cases d with
  | true=>exact ha pins s1 σ H1 D I1 q1
  | false=>exact hb pins s1 σ H1 D I1 q1
end

noncomputable abbrev TG:=V→St→Hp→(St→Hp→Prop)→Prop
noncomputable abbrev TGs:=List V→St→Hp→(St→Hp→Prop)→Prop
noncomputable def PG (X:Cx) (target:Expr) (t:TG):Prop :=
  ∀ (pins:List (Addr × Obj)) (s:Shared) (σ : St) (H:Hp) (v:V) (u:Value) (Q:St→Hp→Prop),Inv X pins σ H s→RelV v u→t v σ H Q →
    wpAny (model X.prog X.w) X.A (assign target X.env u) (fun _ s'=>∃ σ' H',Inv X pins σ' H' s'∧Q σ' H') X.xe s
noncomputable def PGs (X:Cx) (ts:List Expr) (t:TGs):Prop :=
  ∀ (pins:List (Addr × Obj)) (s:Shared) (σ : St) (H:Hp) (vs:List V) (us:List Value) (Q:St→Hp→Prop),Inv X pins σ H s→Vals vs us→t vs σ H Q →
    wpAny (model X.prog X.w) X.A (assignInOrder ((assignEach ts X.env).map (·.2)) us) (fun _ s'=>∃ σ' H',Inv X pins σ' H' s'∧Q σ' H') X.xe s
noncomputable abbrev TSet:=V→V→V→Hp→(Hp→Prop)→Prop
noncomputable def PSet (X:Cx) (t:TSet):Prop :=
  ∀ (pins:List (Addr × Obj)) (s:Shared) (σ : St) (H:Hp) (o i v:V) (ov iv u:Value) (Q:Hp→Prop),Inv X pins σ H s→RelV o ov→RelV i iv→RelV v u→t o i v H Q →
    wpAny (model X.prog X.w) X.A (setItem ov iv u) (fun _ s'=>∃ H',Inv X pins σ H' s'∧Q H') X.xe s
noncomputable abbrev TIp:=V→V→Hp→VK→Prop
noncomputable def PIp (X:Cx) (op:Operator) (t:TIp):Prop :=
  ∀ (pins:List (Addr × Obj)) (s:Shared) (σ : St) (H:Hp) (x y:V) (v u:Value) (Q:VK),Inv X pins σ H s→RelV x v→RelV y u→t x y H Q →
    wpAny (model X.prog X.w) X.A (inplaceOp op v u) (EP X pins σ Q) X.xe s
section
variable {X:Cx} {pos:Pos}
noncomputable def gName (i:Nat):TG:=fun v σ H Q=>Q (σ.set i (some v)) H
theorem pg_name {i:Nat} {x:Str} (hN:X.N.Nodup) (hi:X.N[i]? = some x) (hx:Loc X.env.scope x) (hf:X.fn x=true∨X.env.scope.names.lookup x=some .local:=by first | exact .inl rfl | exact .inr rfl | assumption):PG X (.Name x pos) (gName i):=by
  intro pins s σ H v u Q I r h
  exact wpAny_assign_Name (store_ok I hN hi hx r (fun s' I'=>⟨_,H,I',h⟩) hf)
noncomputable def gNil:TGs:=fun vs σ H Q=>vs = []∧Q σ H
inductive J_gCons (t:TG) (u:TGs) (vs:List V) (σ : St) (H:Hp) (Q:St→Hp→Prop):Prop
  | mk:∀ v r,(vs=v :: r)→(t v σ H fun σ' H'=>u r σ' H' Q)→J_gCons t u vs σ H Q
noncomputable def gCons (t:TG) (u:TGs):TGs:=fun vs σ H Q=>J_gCons t u vs σ H Q
theorem pgs_nil:PGs X [] gNil:=by
  intro pins s σ H vs us Q I r h
  obtain ⟨e,h⟩:=h
  subst e
  cases r
  exact assignInOrder_nil ⟨σ,H,I,h⟩
theorem pgs_cons {e:Expr} {es:List Expr} {t:TG} {u:TGs} (h1:PG X e t) (h2:PGs X es u)
    (hs:(assignEach (e :: es) X.env).map (·.2)=assign e X.env :: (assignEach es X.env).map (·.2):=by rfl):PGs X (e :: es) (gCons t u):=by
  intro pins s σ H vs us Q I r h
  obtain ⟨v,vr,e1,h⟩:=h
  subst e1
  cases r with
  | cons r rr =>
    rw [hs]
    refine assignInOrder_cons (thn (h1 pins s σ H _ _ _ I r h) fun _ s1 ⟨σ1,H1,I1,q1⟩ => ?_)
    exact h2 pins s1 σ1 H1 _ _ Q I1 rr q1
inductive J_gTup (K:PySem.W.Frag) (n:Nat) (t:TGs) (v:V) (σ : St) (H:Hp) (Q:St→Hp→Prop):Prop
  | mk:∀ a xs,(v = .ref a)→(SqT K H a xs)→(xs.length=n)→(t xs σ H Q)→J_gTup K n t v σ H Q
noncomputable def gTup (K:PySem.W.Frag) (n:Nat) (t:TGs):TG:=fun v σ H Q=>J_gTup K n t v σ H Q
theorem pg_tup {es:List Expr} {k:Nat} {t:TGs} {n:Nat} (hc:X.calm=true) (h:PGs X es t)
    (hn:(assignEach es X.env).length=n:=by rfl) (hst:(assignEach es X.env).findIdx? (·.1)=none:=by rfl):PG X (.Tuple es k pos) (gTup X.K n t):=by
  intro pins s σ H v u Q I r hw
  obtain ⟨a,xs,e1,hq,hl,hw⟩:=hw
  subst e1
  cases r
  obtain ⟨its,rv,ht,hz⟩:=I.tuple hq
  refine assign_Tuple_tuple (I.ok.hd hc) ht (by simp [hn, ← hl,rv.length]) hst fun h' hx => ?_
  have I1:Inv X pins σ H { s with heap:=h' }:=I.kept (t':=s.toks) fun b o e=>hx b o (Nat.ne_of_lt (Heap.lt_size e)) e
  exact h pins _ σ H xs _ Q I1 (by simpa using rv) hw
noncomputable def gSub (to ti:TE) (t:TSet):TG:=fun v σ H Q=>to σ H fun o H1=>ti σ H1 fun i H2=>t o i v H2 fun H3=>Q σ H3
theorem pg_sub {o i:Expr} {to ti:TE} {t:TSet} (ho:PE X o to) (hi:PE X i ti) (hs:PSet X t)
    (ha:∀ v,assign (.Subscript o i pos) X.env v=(do
      let ov ← holding [v] (eval o X.env)
      let iv ← holding [v,ov] (eval i X.env)
      standAt pos
      holding [v,ov,iv] (setItem ov iv v)
      release [v,ov,iv] []):=by intro _;rfl):PG X (.Subscript o i pos) (gSub to ti t):=by
  intro pins s σ H v u Q I r h
  rw [ha]
  refine wpAny_bind (wpAny_holding (thn (ho pins s σ H _ I h) fun ov s1 ⟨x,H1,I1,r1,q1⟩ => ?_))
  refine wpAny_bind (wpAny_holding (thn (hi pins s1 σ H1 _ I1 q1) fun iv s2 ⟨y,H2,I2,r2,q2⟩ => ?_))
  refine wpAny_bind (wpAny_standAt (wpAny_bind (wpAny_holding (thn (hs pins s2 σ H2 x y v ov iv u _ I2 r1 r2 r q2) fun _ s3 ⟨H3,I3,q3⟩ => ?_))))
  exact wpAny_release ⟨σ,H3,I3,q3⟩
noncomputable def tAsg (te:TE) (g:TG):TS:=fun D σ H=>te σ H fun x H1=>g x σ H1 D.nx
theorem ps_asg {tg e:Expr} {te:TE} {g:TG} (he:PE X e te) (hg:PG X tg g) (hs:swapsWithSole [tg] e pos.line X.env=pure false:=by rfl) (hw:swappedStores [tg] e X.env=pure none:=by rfl)
    (h1:(assignEach [tg] X.env).map (·.2) = [assign tg X.env]:=by rfl):PS X (.Assign [tg] e pos) (tAsg te g):=by
  intro pins s σ H D I h
  refine wpAny_Assign_stores (thn (he pins s σ H _ I h) fun v s1 ⟨x,H1,I1,r1,q1⟩ => ?_) hs hw
  rw [h1]
  exact thn (hg pins s1 σ H1 x v _ I1 r1 q1) fun _ s2 q=>q
theorem ps_set {i:Nat} {x:Str} {e:Expr} {te:TE} {pos':Pos} (hN:X.N.Nodup) (hi:X.N[i]? = some x) (hx:Loc X.env.scope x) (he:PE X e te) (hs:swapsWith e (some (.Name x pos')) pos.line X.env=pure false:=by rfl) (hf:X.fn x=true∨X.env.scope.names.lookup x=some .local:=by first | exact .inl rfl | exact .inr rfl | assumption) :
    PS X (.Assign [.Name x pos'] e pos) (tAsg te (gName i)):=by
  intro pins s σ H D I h
  refine wpAny_Assign_Name (thn (he pins s σ H _ I h) fun v s1 ⟨y,H1,I1,r1,q1⟩ => ?_) hs
  exact store_ok I1 hN hi hx r1 (fun s2 I2=>⟨_,H1,I2,q1⟩) hf
inductive J_tAug (i:Nat) (te:TE) (ti:TIp) (D:Ends) (σ : St) (H:Hp):Prop
  | mk:∀ x,(σ[i]? = some (some x))→(te σ H fun y H1=>ti x y H1 fun z H2=>D.nx (σ.set i (some z)) H2)→J_tAug i te ti D σ H
noncomputable def tAug (i:Nat) (te:TE) (ti:TIp):TS:=fun D σ H=>J_tAug i te ti D σ H
theorem ps_aug {i:Nat} {x:Str} {e:Expr} {te:TE} {op:Operator} {ti:TIp} {pos':Pos} (hN:X.N.Nodup) (hi:X.N[i]? = some x) (hx:Loc X.env.scope x) (he:PE X e te) (ho:PIp X op ti) (hf:X.fn x=true∨X.env.scope.names.lookup x=some .local:=by first | exact .inl rfl | exact .inr rfl | assumption) :
    PS X (.AugAssign (.Name x pos') op e pos) (tAug i te ti):=by
  intro pins s σ H D I h
  obtain ⟨v,e1,h⟩:=h
  obtain ⟨m,hn,hl⟩:=I.loc
  have vis:Vis X.env.scope x:=by rcases hx with k | k;exact .inl k;exact .inr (.inl k)
  obtain ⟨u,r,l⟩:=hl i x v hi e1 vis
  refine wpAny_AugAssign_Name ?_
  have go:wpAny (model X.prog X.w) X.A (eval e X.env) (fun w s₂ => wpAny (model X.prog X.w) X.A (inplaceOp op u w) (fun r s₃ => wpAny (model X.prog X.w) X.A (storeName X.env x r) (fun _=>SP X pins D .next) X.xe s₃) X.xe s₂) X.xe s:=by
    refine thn (he pins s σ H _ I h) fun w s1 ⟨y,H1,I1,r1,q1⟩ => ?_
    refine thn (ho pins s1 σ H1 v y u w _ I1 r r1 q1) fun z s2 ⟨zv,H2,I2,r2,q2⟩ => ?_
    exact store_ok I2 hN hi hx r2 (fun s3 I3=>⟨_,H2,I3,q2⟩) hf
  rcases l with ⟨hk,hm⟩ | ⟨hk,c,hc,hcell⟩
  · exact wpAny_loadName_local I.ok.kind hk hn hm go
  · rcases hk with hk | hk
    · exact wpAny_loadName_cell I.ok.kind hk hc hcell go
    · rcases hx with k | k
      · have:X.env.scope.names.lookup x=some .free:=hk
        rw [k] at this;cases this
      · have:X.env.scope.names.lookup x=some .free:=hk
        rw [k] at this;cases this
noncomputable def ipI (f:Int→Int→Int):TIp:=fun x y H Q=>∃ i j,x = .int i∧y = .int j∧Q (.int (f i j)) H
theorem ip_add:PIp X .Add (ipI fun i j=>i+j):=by
  intro pins s σ H x y v u Q I r1 r2 h
  obtain ⟨i,j,e1,e2,q⟩:=h
  subst e1;subst e2
  obtain ⟨t,rfl⟩:=r1
  obtain ⟨t',rfl⟩:=r2
  exact iadd_int ⟨.int _,H,I.tok _,⟨_,rfl⟩,q⟩
end

section
variable {X:Cx} {pos:Pos}
noncomputable def tWhile (c:TT) (tb:TS):TS:=fun D σ H=>∃ W:Nat→St→Hp→Prop,(∃ m,W m σ H)∧∀ m σ H,W m σ H →
  c σ H fun b H1=>if b=true then ∃ N:St→Hp→Prop,(∀ σ' H',N σ' H'→∃ m',m' < m∧W m' σ' H')∧tb { D with nx:=N,ct:=N,bk:=D.nx } σ H1 else D.nx σ H1
theorem ps_while {c:Expr} {body:List Stmt} {tc:TT} {tb:TS} (hp:PassesOwn (model X.prog X.w) X.A X.env X.xe) (hc:PT X c tc) (hb:PSs X body tb):PS X (.While c body [] pos) (tWhile tc tb):=by
  intro pins s σ H D I h
  obtain ⟨W,⟨m0,w0⟩,turn⟩:=h
  refine wpAny_While (codeAny_whileLoop (fun n s'=>∃ σ' H',Inv X pins σ' H' s'∧W n σ' H') ?_ m0 ⟨σ,H,I,w0⟩)
  rintro n s1 ⟨σ1,H1,I1,w1⟩
  refine wpAny_passesOwn hp (thn (hc pins s1 σ1 H1 _ I1 (turn n σ1 H1 w1)) fun b s2 ⟨H2,I2,q2⟩ => ?_)
  cases b with
  | true =>
    obtain ⟨N,hN,q2⟩:=q2
    rw [if_pos rfl]
    refine wpAny_passesOwn hp (thn (hb pins s2 σ1 H2 _ I2 q2) fun f s3 q3 => ?_)
    cases f with
    | next =>
      obtain ⟨σ3,H3,I3,n3⟩:=q3
      obtain ⟨m',hm,w3⟩:=hN σ3 H3 n3
      exact ⟨m',hm, σ3,H3,I3,w3⟩
    | cont =>
      obtain ⟨σ3,H3,I3,n3⟩:=q3
      obtain ⟨m',hm,w3⟩:=hN σ3 H3 n3
      exact ⟨m',hm, σ3,H3,I3,w3⟩
    | brk=>exact q3
    | ret v=>exact q3
  | false =>
    rw [if_neg Bool.false_ne_true]
    exact wpAny_execs_nil ⟨σ1,H2,I2,q2⟩
end

structure It where
  go:Nat→Hp→Prop
  yld:Nat→Hp→V→Hp→Prop
  stop:Nat→Hp→Prop
noncomputable def FpOk (X:Cx) (pins:List (Addr × Obj)) (H:Hp) (b:Addr):Prop :=
  H b=none∧b≠X.env.locals∧b ∉ X.fs∧(b∈X.ex∨X.s₀.heap.objs.size≤b)∧(∀ x c,X.env.cells.lookup x=some c→c≠b)∧∀ p∈X.pn ++ pins,p.1≠b
theorem Inv.fpOk {X:Cx} {pins:List (Addr × Obj)} {σ : St} {H H':Hp} {s:Shared} {b:Addr} (I:Inv X pins σ H s) (hb:s.heap.objs.size≤b) (hn:H' b=none):FpOk X pins H' b:=by
  refine ⟨hn,Nat.ne_of_gt (Nat.lt_of_lt_of_le I.lt hb),I.nofs hb,.inr (Nat.le_trans I.sz hb),fun x c e z => ?_,fun p hp z => ?_⟩
  · obtain ⟨v,q⟩:=I.cell x c e
    exact absurd (Nat.lt_of_lt_of_le q.lt (by rw [z];exact hb)) (Nat.lt_irrefl _)
  · exact absurd (Nat.lt_of_lt_of_le (Heap.lt_size (I.pin p hp).1) (by rw [z];exact hb)) (Nat.lt_irrefl _)
structure Turn (P:Program) (w:World) (K:PySem.W.Frag) (tg:Expr) (J:It) (fp:List Addr) (it:Addr) (tn:Nat→Heap→Prop):Prop where
  mem:it∈fp
  obj:∀ i h,tn i h→∀ b∈fp,∃ o,h.get? b=some o∧∀ v,o.data ≠ .cell v
  keep:∀ i h h',tn i h→(∀ b∈fp,∀ o,h.get? b=some o→h'.get? b=some o)→tn i h'
  item:∀ (X:Cx),X.prog=P→X.w=w→X.K=K→X.calm=true→∀ (i:Nat) (pins:List (Addr × Obj)) (s:Shared) (σ : St) (H:Hp) (E:Value→Shared→Prop),Inv X pins σ H s→(∀ b∈fp,FpOk X pins H b)→tn i s.heap→J.go i H →
    wpAny (model P w) X.A (pyNext (.ref it)) (fun r s1=>∃ u,r=some u ∧
      wpAny (model P w) X.A (letOwnedTupleGo tg (.ref it) u) (fun _ s2=>∃ x H',Inv X pins σ H' s2∧RelV x u∧J.yld i H x H'∧tn (i+1) s2.heap∧∀ b∈fp,H' b=none) E s1) E s
  done:∀ (X:Cx),X.prog=P→X.w=w→X.K=K→X.calm=true→∀ (i:Nat) (pins:List (Addr × Obj)) (s:Shared) (σ : St) (H:Hp) (E:Value→Shared→Prop),Inv X pins σ H s→(∀ b∈fp,FpOk X pins H b)→tn i s.heap→J.stop i H →
    wpAny (model P w) X.A (pyNext (.ref it)) (fun r s1=>r=none∧Inv X pins σ H s1) E s
  self:∀ (A:Around) (i:Nat) (s:Shared) (Q:Value→Shared→Prop) (E:Value→Shared→Prop),tn i s.heap→Q (.ref it) s→wpAny (model P w) A (pyIter (.ref it)) Q E s
noncomputable abbrev TI:=St→Hp→(It→Hp→Prop)→Prop
noncomputable def PIE (X:Cx) (pins:List (Addr × Obj)) (σ : St) (tg:Expr) (R:It→Hp→Prop) (itv:Value) (s2:Shared):Prop :=
  ∃ (it:Addr) (fp:List Addr) (tn:Nat→Heap→Prop) (J:It) (H':Hp),itv = .ref it∧Inv X pins σ H' s2∧Turn X.prog X.w X.K tg J fp it tn∧tn 0 s2.heap∧(∀ b∈fp,FpOk X pins H' b)∧R J H'
noncomputable def PI (X:Cx) (tg iter:Expr) (wi:TI):Prop :=
  ∀ (pins:List (Addr × Obj)) (s:Shared) (σ : St) (H:Hp) (R:It→Hp→Prop),Inv X pins σ H s→wi σ H R →
    wpAny (model X.prog X.w) X.A (eval iter X.env) (fun v s1=>wpAny (model X.prog X.w) X.A (pyIter v) (PIE X pins σ tg R) X.xe s1) X.xe s

theorem go_of {M:Model} {A:Around} {E:Value→Shared→Prop} {s:Shared} {tg:Expr} {it:Addr} {u:Value} {o:Obj} {n:String} {vs:Array Value} {Q:Unit→Shared→Prop} (ho:s.heap.get? it=some o) (hc:o.cls = .type n) (hd:o.data = .fields vs)
    (hn : ["enumerate", "zip", "dict_itemiterator", "dict_reverseitemiterator", "odict_iterator", "itertools.zip_longest", "itertools.pairwise"].contains n=false) (hQ:Q () s):wpAny M A (letOwnedTupleGo tg (.ref it) u) Q E s:=by
  unfold letOwnedTupleGo
  cases tg <;> first
    | exact wpAny_pure hQ
    | (cases u <;> first
        | exact wpAny_pure hQ
        | (refine wpAny_bind (wpAny_load ho ?_)
           rw [hc,hd]
           show wpAny M A (if (["enumerate", "zip", "dict_itemiterator", "dict_reverseitemiterator", "odict_iterator", "itertools.zip_longest", "itertools.pairwise"].contains n && vs[0]? == some (rawInt _))=true then _ else _) Q E s
           rw [if_neg (by intro h;rw [hn,Bool.false_and] at h;cases h)]
           exact wpAny_pure hQ))

noncomputable def Itl (K:PySem.W.Frag) (a:Addr):It :=
  ⟨fun i H=>∃ xs x,SqL K H a xs∧xs[i]? = some x,fun i H x H'=>H'=H∧∀ xs,SqL K H a xs→xs[i]? = some x,fun i H=>∃ xs,SqL K H a xs∧xs.length≤i⟩
noncomputable def Itt (K:PySem.W.Frag) (a:Addr):It :=
  ⟨fun i H=>∃ xs x,SqT K H a xs∧xs[i]? = some x,fun i H x H'=>H'=H∧∀ xs,SqT K H a xs→xs[i]? = some x,fun i H=>∃ xs,SqT K H a xs∧xs.length≤i⟩
noncomputable def Itr (lo:Int) (n:Nat):It:=⟨fun i _=>i < n,fun i H x H'=>H'=H∧x = .int (lo+i),fun i _=>n≤i⟩
theorem turn_list {P:Program} {w:World} {K:PySem.W.Frag} {tg:Expr} (a it:Addr):Turn P w K tg (Itl K a) [it] it (fun i h=>h.IsListIter it a i) where
  mem:=by simp
  obj:=fun i h st b hb=>by
    have e:b=it:=by simpa using hb
    subst e
    obtain ⟨o,e,c,d⟩:=st
    exact ⟨o,e,fun v z=>by rw [d] at z;cases z⟩
  keep:=fun i h h' st k=>st.at fun o e=>k it (by simp) o e
  item:=by
    intro X hP hw hK hc i pins s σ H E I hf st hg
    subst hP hw hK
    obtain ⟨xs,x,hq,hx⟩:=hg
    obtain ⟨its,rv,p,hz⟩:=I.list hq
    obtain ⟨u,hu,ru⟩:=rv.get hx
    obtain ⟨f0,f1,f2,f3,f4,f5⟩:=hf it (by simp)
    refine wpAny_pyNext_list_item st p.isList (x:=u) (by simpa using hu) fun h' st' sb => ?_
    have I1:Inv X pins σ H { s with heap:=h' }:=I.turned (t':=s.toks) (fun b o hb e=>(sb.2 b hb).trans e) f0 f1 f3 f4 f5
    obtain ⟨o,e,c,d⟩:=id st'
    exact ⟨u,rfl,go_of (s := { s with heap:=h' }) e c d (by decide) ⟨x,H,I1,ru,⟨rfl,fun ys hy=>by rw [I.list_inj hy hq];exact hx⟩,st',fun b hb=>(hf b hb).1⟩⟩
  done:=by
    intro X hP hw hK hc i pins s σ H E I hf st hg
    subst hP hw hK
    obtain ⟨xs,hq,hx⟩:=hg
    obtain ⟨its,rv,p,hz⟩:=I.list hq
    obtain ⟨f0,f1,f2,f3,f4,f5⟩:=hf it (by simp)
    have hl:=rv.length
    exact wpAny_pyNext_list_end (I.ok.hd hc) st p.isList (by simp;omega) fun h' eb=>⟨rfl,I.turned (t':=s.toks) (fun b o hb e=>eb b o hb e) f0 f1 f3 f4 f5⟩
  self:=fun _ _ _ _ _ st h=>wpAny_pyIter_listiter st h
theorem turn_tuple {P:Program} {w:World} {K:PySem.W.Frag} {tg:Expr} (a it:Addr):Turn P w K tg (Itt K a) [it] it (fun i h=>h.IsTupleIter it a i) where
  mem:=by simp
  obj:=fun i h st b hb=>by
    have e:b=it:=by simpa using hb
    subst e
    obtain ⟨o,e,c,d⟩:=st
    exact ⟨o,e,fun v z=>by rw [d] at z;cases z⟩
  keep:=fun i h h' st k=>st.at fun o e=>k it (by simp) o e
  item:=by
    intro X hP hw hK hc i pins s σ H E I hf st hg
    subst hP hw hK
    obtain ⟨xs,x,hq,hx⟩:=hg
    obtain ⟨its,rv,p,hz⟩:=I.tuple hq
    obtain ⟨u,hu,ru⟩:=rv.get hx
    obtain ⟨f0,f1,f2,f3,f4,f5⟩:=hf it (by simp)
    refine wpAny_pyNext_tuple_item st (show s.heap.IsTuple a its.toArray from p) (x:=u) (by simpa using hu) fun h' st' sb => ?_
    have I1:Inv X pins σ H { s with heap:=h' }:=I.turned (t':=s.toks) (fun b o hb e=>(sb.2 b hb).trans e) f0 f1 f3 f4 f5
    obtain ⟨o,e,c,d⟩:=id st'
    exact ⟨u,rfl,go_of (s := { s with heap:=h' }) e c d (by decide) ⟨x,H,I1,ru,⟨rfl,fun ys hy=>by rw [I.tuple_inj hy hq];exact hx⟩,st',fun b hb=>(hf b hb).1⟩⟩
  done:=by
    intro X hP hw hK hc i pins s σ H E I hf st hg
    subst hP hw hK
    obtain ⟨xs,hq,hx⟩:=hg
    obtain ⟨its,rv,p,hz⟩:=I.tuple hq
    obtain ⟨f0,f1,f2,f3,f4,f5⟩:=hf it (by simp)
    have hl:=rv.length
    exact wpAny_pyNext_tuple_end (I.ok.hd hc) st (show s.heap.IsTuple a its.toArray from p) (by simp;omega) fun h' eb=>⟨rfl,I.turned (t':=s.toks) (fun b o hb e=>eb b o hb e) f0 f1 f3 f4 f5⟩
  self:=fun _ _ _ _ _ st h=>wpAny_pyIter_tupleiter st h
theorem turn_range {P:Program} {w:World} {K:PySem.W.Frag} {tg:Expr} (it:Addr) (lo:Int) (n:Nat):Turn P w K tg (Itr lo n) [it] it (fun i h=>IsRangeIter h it (lo+(i:Nat) * 1) ((n:Int) - (i:Nat)) 1) where
  mem:=by simp
  obj:=fun i h st b hb=>by
    have e:b=it:=by simpa using hb
    subst e
    exact ⟨_,st,fun v z=>by
      have z':Data.fields _=Data.cell v:=z
      cases z'⟩
  keep:=fun i h h' st k=>k it (by simp) _ st
  item:=by
    intro X hP hw hK hc i pins s σ H E I hf st hg
    subst hP hw hK
    obtain ⟨f0,f1,f2,f3,f4,f5⟩:=hf it (by simp)
    have W:=Walks.range (prog:=X.prog) (w:=X.w) (I.ok.hd hc) it lo 1 n
    refine W.item i s _ _ hg st fun v h' tk hv st' kk => ?_
    obtain ⟨t,rfl⟩:=hv
    have I1:Inv X pins σ H { s with heap:=h',toks:=tk }:=I.turned (fun b o hb e=>kk b o (by simpa using hb) e) f0 f1 f3 f4 f5
    refine ⟨_,rfl,go_of (s := { s with heap:=h',toks:=tk }) (n := "range_iterator") st' rfl rfl (by decide) ⟨.int (lo+i),H,I1,⟨t,?_⟩,⟨rfl,rfl⟩,st',fun b hb=>(hf b hb).1⟩⟩
    rw [Int.mul_one]
  done:=by
    intro X hP hw hK hc i pins s σ H E I hf st hg
    subst hP hw hK
    obtain ⟨f0,f1,f2,f3,f4,f5⟩:=hf it (by simp)
    exact wpAny_pyNext_range_end (I.ok.hd hc) st (by have:n≤i:=hg;omega) fun h' eb=>⟨rfl,I.turned (t':=s.toks) (fun b o hb e=>eb b o hb e) f0 f1 f3 f4 f5⟩
  self:=fun _ _ _ _ _ st h=>wpAny_pyIter_rangeiter st h
end L2

namespace L2
open PySem PySem.Spec PyProof.Rows
section
variable {X:Cx} {tg:Expr}
inductive J_iList (K:PySem.W.Frag) (R:It→Hp→Prop) (x:V) (H1:Hp):Prop
  | mk:∀ a,(x = .ref a)→((∃ xs,SqL K H1 a xs))→(R (Itl K a) H1)→J_iList K R x H1
noncomputable def iList (K:PySem.W.Frag) (tl:TE):TI:=fun σ H R=>tl σ H fun x H1=>J_iList K R x H1
inductive J_iTup (K:PySem.W.Frag) (R:It→Hp→Prop) (x:V) (H1:Hp):Prop
  | mk:∀ a,(x = .ref a)→((∃ xs,SqT K H1 a xs))→(R (Itt K a) H1)→J_iTup K R x H1
noncomputable def iTup (K:PySem.W.Frag) (tl:TE):TI:=fun σ H R=>tl σ H fun x H1=>J_iTup K R x H1
theorem pi_list {l:Expr} {tl:TE} (hl:PE X l tl):PI X tg l (iList X.K tl):=by
  intro pins s σ H R I h
  refine thn (hl pins s σ H _ I h) fun v s1 ⟨x,H1,I1,r1,q1⟩ => ?_
  obtain ⟨a,e,⟨xs,hq⟩,q⟩:=q1
  subst e
  cases r1
  obtain ⟨its,rv,p,hz⟩:=I1.list hq
  refine wpAny_pyIter_list p.isList ?_
  refine ⟨s1.heap.objs.size, [s1.heap.objs.size],_,_,H1,rfl,I1.kept (t':=s1.toks) fun b o e=>Heap.get?_push_of_some _ e,turn_list a _,⟨_,Heap.get?_push_size _ rfl,rfl,rfl⟩,fun b hb => ?_,q⟩
  have e:b=s1.heap.objs.size:=by simpa using hb
  subst e
  exact I1.fpOk (Nat.le_refl _) (I1.hok.fresh (Nat.le_refl _))
theorem pi_tup {l:Expr} {tl:TE} (hl:PE X l tl):PI X tg l (iTup X.K tl):=by
  intro pins s σ H R I h
  refine thn (hl pins s σ H _ I h) fun v s1 ⟨x,H1,I1,r1,q1⟩ => ?_
  obtain ⟨a,e,⟨xs,hq⟩,q⟩:=q1
  subst e
  cases r1
  obtain ⟨its,rv,p,hz⟩:=I1.tuple hq
  refine wpAny_pyIter_tuple (show s1.heap.IsTuple a its.toArray from p) ?_
  refine ⟨s1.heap.objs.size, [s1.heap.objs.size],_,_,H1,rfl,I1.kept (t':=s1.toks) fun b o e=>Heap.get?_push_of_some _ e,turn_tuple a _,⟨_,Heap.get?_push_size _ rfl,rfl,rfl⟩,fun b hb => ?_,q⟩
  have e:b=s1.heap.objs.size:=by simpa using hb
  subst e
  exact I1.fpOk (Nat.le_refl _) (I1.hok.fresh (Nat.le_refl _))
theorem range_it {pins:List (Addr × Obj)} {σ : St} {H:Hp} {s:Shared} {R:It→Hp→Prop} {E:Value→Shared→Prop} {lo hi:Int} {t u v:Tok} {tk:Nat} (I:Inv X pins σ H s) (h1 : -(2 ^ 62)≤lo) (h2:lo < 2 ^ 62) (h3 : -(2 ^ 62)≤hi) (h4:hi < 2 ^ 62)
    (q:R (Itr lo (hi - lo).toNat) H):wpAny (model X.prog X.w) X.A (pyIter (.ref s.heap.objs.size)) (PIE X pins σ tg R) E { s with heap:=s.heap.push { cls := .type "range",data := .fields #[.int lo t,.int hi u,.int 1 v] },toks:=tk }:=by
  refine wpAny_pyIter_range (IsRange.new ..) (small_one h1 h2 h3 h4) ?_
  have I1:Inv X pins σ H { s with heap:=s.heap.push { cls := .type "range",data := .fields #[.int lo t,.int hi u,.int 1 v] },toks:=tk }:=I.kept fun b o e=>Heap.get?_push_of_some _ e
  refine ⟨(s.heap.push { cls := .type "range",data := .fields #[.int lo t,.int hi u,.int 1 v] }).objs.size, [(s.heap.push { cls := .type "range",data := .fields #[.int lo t,.int hi u,.int 1 v] }).objs.size],_,_,H,rfl,
    I1.kept (t':=tk) fun b o e=>Heap.get?_push_of_some _ e,turn_range _ lo (hi - lo).toNat,?_,fun b hb => ?_,q⟩
  · have e1:lo+((0:Nat):Int) * 1=lo:=by simp
    have e2:(((hi - lo).toNat:Nat):Int) - ((0:Nat):Int)=Builtin.Range.rangeSize lo hi 1:=by rw [rangeSize_one];split <;> omega
    show IsRangeIter _ _ (lo+((0:Nat):Int) * 1) ((((hi - lo).toNat:Nat):Int) - ((0:Nat):Int)) 1
    rw [e1,e2]
    exact Heap.get?_push_size _ rfl
  · have e:b=(s.heap.push { cls := .type "range",data := .fields #[.int lo t,.int hi u,.int 1 v] }).objs.size:=by simpa using hb
    subst e
    exact I1.fpOk (Nat.le_refl _) (I1.hok.fresh (Nat.le_refl _))
inductive J_iRng1 (R:It→Hp→Prop) (vs:List V) (H1:Hp):Prop
  | mk:∀ (j:Int),(vs = [.int j])→(-(2 ^ 62)≤j)→(j < 2 ^ 62)→(R (Itr 0 j.toNat) H1)→J_iRng1 R vs H1
noncomputable def iRng1 (ta:TA):TI:=fun σ H R=>ta σ H fun vs H1=>J_iRng1 R vs H1
inductive J_iRng2 (R:It→Hp→Prop) (vs:List V) (H1:Hp):Prop
  | mk:∀ (i j:Int),(vs = [.int i,.int j])→((-(2 ^ 62)≤i∧i < 2 ^ 62 ∧ -(2 ^ 62)≤j∧j < 2 ^ 62))→(R (Itr i (j - i).toNat) H1)→J_iRng2 R vs H1
noncomputable def iRng2 (ta:TA):TI:=fun σ H R=>ta σ H fun vs H1=>J_iRng2 R vs H1
theorem pi_range1 {a:Expr} {ta:TA} {p pos:Pos} (hg:Gl X "range") (hm:X.mg "range" = none) (ha:PA X [a] ta) (hs:starEach [a] X.env = [(false,eval a X.env)]:=by rfl):PI X tg (.Call (.Name "range" p) [a] [] pos) (iRng1 ta):=by
  intro pins s σ H R I h
  refine Call_ (ld_blt I hg hm boot_range (PyProof.Rows.callWith_type1 (thn (ha pos pins s σ H _ I h) fun us s1 ⟨vs,H1,I1,r1,q1⟩ => ?_) hs rfl))
  obtain ⟨j,e,q1,q2,q⟩:=q1
  subst e
  cases r1 with
  | cons r rr =>
    cases rr
    obtain ⟨t,rfl⟩:=r
    exact call_range_1 (range_it I1 (by omega) (by omega) q1 q2 (by simpa using q))
theorem pi_range2 {a b:Expr} {ta:TA} {p pos:Pos} (hg:Gl X "range") (hm:X.mg "range" = none) (ha:PA X [a,b] ta) (hs:starEach [a,b] X.env = [(false,eval a X.env),(false,eval b X.env)]:=by rfl) (hs2:starEach [b] X.env = [(false,eval b X.env)]:=by rfl) :
    PI X tg (.Call (.Name "range" p) [a,b] [] pos) (iRng2 ta):=by
  intro pins s σ H R I h
  refine Call_ (ld_blt I hg hm boot_range (PyProof.Rows.callWith_type1 (thn (ha pos pins s σ H _ I h) fun us s1 ⟨vs,H1,I1,r1,q1⟩ => ?_) (by rw [hs,hs2]) (by rw [hs2];rfl)))
  obtain ⟨i,j,e,⟨q1,q2,q3,q4⟩,q⟩:=q1
  subst e
  cases r1 with
  | cons r rr =>
    cases rr with
    | cons r' rr =>
      cases rr
      obtain ⟨t,rfl⟩:=r
      obtain ⟨t',rfl⟩:=r'
      exact call_range_2 (range_it I1 q1 q2 q3 q4 q)

noncomputable def tFor (wi:TI) (g:TG) (tb:TS):TS:=fun D σ H=>wi σ H fun J H1=>∃ W:Nat→Nat→St→Hp→Prop,(∃ m,W 0 m σ H1)∧∀ i m σ H,W i m σ H →
  (J.stop i H∧D.nx σ H)∨(J.go i H∧∃ N:St→Hp→Prop,(∀ σ' H',N σ' H'→∃ m',m' < m∧W (i+1) m' σ' H')∧∀ x H',J.yld i H x H'→g x σ H' fun σ2 H2=>tb { D with nx:=N,ct:=N,bk:=D.nx } σ2 H2)
noncomputable def pinsAt (fp:List Addr) (h:Heap):List (Addr × Obj):=fp.filterMap fun b=>(h.get? b).map fun o=>(b,o)
theorem mem_pinsAt {fp:List Addr} {h:Heap} {b:Addr} {o:Obj} (hb:b∈fp) (e:h.get? b=some o):(b,o)∈pinsAt fp h:=List.mem_filterMap.mpr ⟨b,hb,by rw [e];rfl⟩
theorem of_pinsAt {fp:List Addr} {h:Heap} {p:Addr × Obj} (hp:p∈pinsAt fp h):p.1∈fp∧h.get? p.1=some p.2:=by
  obtain ⟨b,hb,e⟩:=List.mem_filterMap.mp hp
  cases q:h.get? b with
  | none=>rw [q] at e;cases e
  | some o =>
    rw [q] at e
    have e':(b,o)=p:=Option.some.inj e
    subst e'
    exact ⟨hb,q⟩
theorem Inv.pinned {pins:List (Addr × Obj)} {σ : St} {H:Hp} {s:Shared} {fp:List Addr} (I:Inv X pins σ H s) (hf:∀ b∈fp,FpOk X pins H b) (ho:∀ b∈fp,∃ o,s.heap.get? b=some o∧∀ v,o.data ≠ .cell v):Inv X (pins ++ pinsAt fp s.heap) σ H s :=
  I.pins_of fun p hp=>(List.mem_append.mp hp).elim (fun z=>I.pin p (List.mem_append_right _ z)) fun z=>by
    obtain ⟨hb,e⟩:=of_pinsAt z
    obtain ⟨f0,f1,f2,_⟩:=hf p.1 hb
    obtain ⟨o,e',d⟩:=ho p.1 hb
    rw [e] at e';cases e'
    exact ⟨e,f0,f1,f2,d⟩
theorem Inv.unpinned {pins pl:List (Addr × Obj)} {σ : St} {H:Hp} {s:Shared} (I:Inv X (pins ++ pl) σ H s):Inv X pins σ H s:=I.pins_of fun p hp=>I.pin p (List.mem_append_right _ (List.mem_append_left _ hp))
theorem ps_for {iter:Expr} {body:List Stmt} {wi:TI} {g:TG} {tb:TS} {pos:Pos} (hp:PassesOwn (model X.prog X.w) X.A X.env X.xe) (hc:X.calm=true) (hi:PI X tg iter wi) (hg:PG X tg g) (hb:PSs X body tb)
    (hs:∀ x,foldedSetIterable iter X.env x=pure x:=by intro _;rfl):PS X (.For tg iter body [] pos) (tFor wi g tb):=by
  intro pins s σ H D I h
  refine wpAny_For (thn (hi pins s σ H _ I h) fun v s1 h1=>thn h1 fun itv s2 h2 => ?_) hs
  obtain ⟨it,fp,tn,J,H2,e,I2,T,st2,f2,W,⟨m0,w0⟩,turn⟩:=h2
  subst e
  -- what stays true of the iterator's objects through the loop
  have stat:∀ {H':Hp},(∀ b∈fp,H' b=none)→∀ b∈fp,FpOk X pins H' b:=fun hn b hb=>⟨hn b hb,(f2 b hb).2⟩
  refine codeAny_forLoop_any (fun n s'=>∃ i σ' H',Inv X pins σ' H' s'∧tn i s'.heap∧(∀ b∈fp,H' b=none)∧W i n σ' H') ?_ m0 ⟨0, σ,H2,I2,st2,fun b hb=>(f2 b hb).1,w0⟩
  rintro n s3 ⟨i, σ3,H3,I3,st3,fr3,w3⟩
  rcases turn i n σ3 H3 w3 with ⟨stop,qn⟩ | ⟨go,N,hN,step⟩
  · refine wpAny_passesOwn hp (thn (T.done X rfl rfl rfl hc i pins s3 σ3 H3 X.xe I3 (stat fr3) st3 stop) fun r s4 ⟨hr,I4⟩ => ?_)
    subst hr
    exact wpAny_execs_nil ⟨σ3,H3,I4,qn⟩
  · refine wpAny_passesOwn hp (thn (T.item X rfl rfl rfl hc i pins s3 σ3 H3 X.xe I3 (stat fr3) st3 go) fun r s4 ⟨u,hr,h4⟩ => ?_)
    subst hr
    refine wpAny_passesOwn hp (thn h4 fun _ s5 ⟨x,H5,I5,r5,y5,st5,fr5⟩ => ?_)
    have I5':=I5.pinned (stat fr5) (T.obj _ _ st5)
    refine wpAny_passesOwn hp (thn (hg _ s5 σ3 H5 x u _ I5' r5 (step x H5 y5)) fun _ s6 ⟨σ6,H6,I6,q6⟩ => ?_)
    refine wpAny_passesOwn hp (thn (hb _ s6 σ6 H6 _ I6 q6) fun f s7 q7 => ?_)
    have again:∀ {σ7:St} {H7:Hp},Inv X (pins ++ pinsAt fp s5.heap) σ7 H7 s7→N σ7 H7→∃ m,m < n∧∃ i σ' H',Inv X pins σ' H' s7∧tn i s7.heap∧(∀ b∈fp,H' b=none)∧W i m σ' H':=fun {σ7 H7} I7 n7=>by
      obtain ⟨m',hm,w7⟩:=hN σ7 H7 n7
      refine ⟨m',hm,i+1, σ7,H7,I7.unpinned,T.keep _ _ _ st5 fun b hb o e=>(I7.pin (b,o) (List.mem_append_right _ (List.mem_append_right _ (mem_pinsAt hb e)))).1,fun b hb => ?_,w7⟩
      obtain ⟨o,e,d⟩:=T.obj _ _ st5 b hb
      exact (I7.pin (b,o) (List.mem_append_right _ (List.mem_append_right _ (mem_pinsAt hb e)))).2.1
    cases f with
    | next=>obtain ⟨σ7,H7,I7,n7⟩:=q7;exact again I7 n7
    | cont=>obtain ⟨σ7,H7,I7,n7⟩:=q7;exact again I7 n7
    | brk=>obtain ⟨σ7,H7,I7,q7⟩:=q7;exact ⟨σ7,H7,I7.unpinned,q7⟩
    | ret v=>obtain ⟨x7, σ7,H7,I7,r7,q7⟩:=q7;exact ⟨x7, σ7,H7,I7.unpinned,r7,q7⟩
end

theorem for_list {K:PySem.W.Frag} {a:Addr} {xs:List V} {g:TG} {tb:TS} {D:Ends} {σ : St} {H:Hp} (Pv:Nat→St→Hp→Prop) (h0:Pv 0 σ H) (hl:∀ i σ H,i≤xs.length→Pv i σ H→SqL K H a xs)
    (hs:∀ i x σ H,xs[i]? = some x→Pv i σ H→g x σ H fun σ2 H2=>tb { D with nx:=Pv (i+1),ct:=Pv (i+1),bk:=D.nx } σ2 H2) (hd:∀ σ H,Pv xs.length σ H→D.nx σ H) :
    ∃ W:Nat→Nat→St→Hp→Prop,(∃ m,W 0 m σ H)∧∀ i m σ H,W i m σ H →
      ((Itl K a).stop i H∧D.nx σ H)∨((Itl K a).go i H∧∃ N:St→Hp→Prop,(∀ σ' H',N σ' H'→∃ m',m' < m∧W (i+1) m' σ' H')∧∀ x H',(Itl K a).yld i H x H'→g x σ H' fun σ2 H2=>tb { D with nx:=N,ct:=N,bk:=D.nx } σ2 H2):=by
  refine ⟨fun i m σ H=>m=xs.length - i∧i≤xs.length∧Pv i σ H,⟨xs.length,by simp,Nat.zero_le _,h0⟩,?_⟩
  rintro i m σ H ⟨rfl,hi,p⟩
  have q:=hl i σ H hi p
  by_cases hlt:i < xs.length
  · refine .inr ⟨⟨xs,xs[i],q,by simp [hlt]⟩,Pv (i+1),fun σ' H' p'=>⟨xs.length - (i+1),by omega,rfl,hlt,p'⟩,fun x H' y => ?_⟩
    obtain ⟨e,y⟩:=y
    subst e
    exact hs i x σ _ (y xs q) p
  · have e:i=xs.length:=by omega
    subst e
    exact .inl ⟨⟨xs,q,Nat.le_refl _⟩,hd σ H p⟩
theorem for_range {lo:Int} {n:Nat} {g:TG} {tb:TS} {D:Ends} {σ : St} {H:Hp} (Pv:Nat→St→Hp→Prop) (h0:Pv 0 σ H)
    (hs:∀ i σ H,i < n→Pv i σ H→g (.int (lo+i)) σ H fun σ2 H2=>tb { D with nx:=Pv (i+1),ct:=Pv (i+1),bk:=D.nx } σ2 H2) (hd:∀ σ H,Pv n σ H→D.nx σ H) :
    ∃ W:Nat→Nat→St→Hp→Prop,(∃ m,W 0 m σ H)∧∀ i m σ H,W i m σ H →
      ((Itr lo n).stop i H∧D.nx σ H)∨((Itr lo n).go i H∧∃ N:St→Hp→Prop,(∀ σ' H',N σ' H'→∃ m',m' < m∧W (i+1) m' σ' H')∧∀ x H',(Itr lo n).yld i H x H'→g x σ H' fun σ2 H2=>tb { D with nx:=N,ct:=N,bk:=D.nx } σ2 H2):=by
  refine ⟨fun i m σ H=>m=n - i∧i≤n∧Pv i σ H,⟨n,by simp,Nat.zero_le _,h0⟩,?_⟩
  rintro i m σ H ⟨rfl,hi,p⟩
  by_cases hlt:i < n
  · refine .inr ⟨hlt,Pv (i+1),fun σ' H' p'=>⟨n - (i+1),by omega,rfl,hlt,p'⟩,fun x H' y => ?_⟩
    obtain ⟨e,y⟩:=y
    subst e y
    exact hs i σ _ hlt p
  · have e:i=n:=by omega
    subst e
    exact .inl ⟨Nat.le_refl _,hd σ H p⟩
end L2

namespace L2
open PySem PySem.Spec PyProof.Rows

noncomputable abbrev R2:=V→V→Hp→VK→Prop
noncomputable def OpR (X:Cx) (f:Value→Value→Sem Value) (r:R2):Prop :=
  ∀ (pins:List (Addr × Obj)) (s:Shared) (σ : St) (H:Hp) (x y:V) (v u:Value) (Q:VK),Inv X pins σ H s→RelV x v→RelV y u→r x y H Q →
    wpAny (model X.prog X.w) X.A (f v u) (EP X pins σ Q) X.xe s
noncomputable def UnR (X:Cx) (f:Value→Sem Value) (r:V→Hp→VK→Prop):Prop :=
  ∀ (pins:List (Addr × Obj)) (s:Shared) (σ : St) (H:Hp) (x:V) (v:Value) (Q:VK),Inv X pins σ H s→RelV x v→r x H Q →
    wpAny (model X.prog X.w) X.A (f v) (EP X pins σ Q) X.xe s
noncomputable def CallR (X:Cx) (f:Value) (r:List V→Hp→VK→Prop):Prop :=
  ∀ (pins:List (Addr × Obj)) (s:Shared) (σ : St) (H:Hp) (xs:List V) (us:List Value) (Q:VK),Inv X pins σ H s→Vals xs us→r xs H Q →
    wpAny (model X.prog X.w) X.A (call f us) (EP X pins σ Q) X.xe s
noncomputable def TruR (X:Cx) (r:V→Hp→(Bool→Hp→Prop)→Prop):Prop :=
  ∀ (pins:List (Addr × Obj)) (s:Shared) (σ : St) (H:Hp) (x:V) (v:Value) (Q:Bool→Hp→Prop),Inv X pins σ H s→RelV x v→r x H Q →
    wpAny (model X.prog X.w) X.A (truthy v) (TP X pins σ Q) X.xe s

noncomputable def tOp (r:R2) (ta tb:TE):TE:=fun σ H Q=>ta σ H fun x H1=>tb σ H1 fun y H2=>r x y H2 Q
noncomputable def tUn (r:V→Hp→VK→Prop) (ta:TE):TE:=fun σ H Q=>ta σ H fun x H1=>r x H1 Q
inductive RI (C:Int→Int→Prop) (g:Int→Int→V) (x y:V) (H:Hp) (Q:VK):Prop
  | mk (i j:Int) (hx:x = .int i) (hy:y = .int j) (hc:C i j) (q:Q (g i j) H):RI C g x y H Q
noncomputable def rI (C:Int→Int→Prop) (g:Int→Int→V):R2:=fun x y H Q=>RI C g x y H Q
inductive RI0 (g:Int→Int→V) (x y:V) (H:Hp) (Q:VK):Prop
  | mk (i j:Int) (hx:x = .int i) (hy:y = .int j) (q:Q (g i j) H):RI0 g x y H Q
noncomputable def rI0 (g:Int→Int→V):R2:=fun x y H Q=>RI0 g x y H Q
inductive RU (g:Int→V) (x:V) (H:Hp) (Q:VK):Prop
  | mk (i:Int) (hx:x = .int i) (q:Q (g i) H):RU g x H Q
noncomputable def rU (g:Int→V):V→Hp→VK→Prop:=fun x H Q=>RU g x H Q

section
variable {X:Cx} {a b c:Expr} {ta tb tc:TE} {pos:Pos}

theorem binT (ha:PE X a ta) (hb:PE X b tb) {pins:List (Addr × Obj)} {s:Shared} {σ : St} {H:Hp} {R:V→V→Hp→Prop} (I:Inv X pins σ H s)
    (h:ta σ H fun x H1=>tb σ H1 fun y H2=>R x y H2) {Q:Value→Shared→Prop} {f:Value→Value→Sem Value}
    (hf:∀ v u s2 x y H2,Inv X pins σ H2 s2→RelV x v→RelV y u→R x y H2→wpAny (model X.prog X.w) X.A (f v u) Q X.xe s2) :
    wpAny (model X.prog X.w) X.A (eval a X.env) (fun v s₁ => wpAny (model X.prog X.w) X.A (eval b X.env) (fun u s₂ => wpAny (model X.prog X.w) X.A (f v u) Q X.xe s₂) X.xe s₁) X.xe s:=by
  refine thn (ha pins s σ H _ I h) fun v s1 ⟨x,H1,I1,r1,q1⟩ => ?_
  refine thn (hb pins s1 σ H1 _ I1 q1) fun u s2 ⟨y,H2,I2,r2,q2⟩ => ?_
  exact hf v u s2 x y H2 I2 r1 r2 q2

theorem pe_op {op:Operator} {r:R2} (ho:OpR X (binaryOp op) r) (ha:PE X a ta) (hb:PE X b tb):PE X (.BinOp a op b pos) (tOp r ta tb):=by
  intro pins s σ H Q I h
  exact wpAny_BinOp (binT ha hb I h fun v u s2 x y H2 I2 rx ry q=>ho pins s2 σ H2 x y v u Q I2 rx ry q)
theorem pe_un {op:UnaryOp} {r:V→Hp→VK→Prop} (ho:UnR X (unaryOp op) r) (ha:PE X a ta):PE X (.UnaryOp op a pos) (tUn r ta):=by
  intro pins s σ H Q I h
  exact UnaryOp_ (thn (ha pins s σ H _ I h) fun v s1 ⟨x,H1,I1,r1,q1⟩=>ho pins s1 σ H1 x v Q I1 r1 q1)

theorem opI {f:Value→Value→Sem Value} {C:Int→Int→Prop} {g:Int→Int→Int}
    (rule:∀ (i j:Int) (t u:Tok) (s:Shared) (Q:Value→Shared→Prop) (E:Value→Shared→Prop),C i j→Q (.int (g i j) s.toks) { s with toks:=s.toks+1 }→wpAny (model X.prog X.w) X.A (f (.int i t) (.int j u)) Q E s) :
    OpR X f (rI C fun i j => .int (g i j)):=by
  intro pins s σ H x y v u Q I rx ry h
  obtain ⟨i,j,rfl,rfl,hc,q⟩:=h
  obtain ⟨t,rfl⟩:=rx
  obtain ⟨t',rfl⟩:=ry
  exact rule i j t t' s _ _ hc ⟨.int (g i j),H,I.tok _,⟨_,rfl⟩,q⟩
theorem opI0 {f:Value→Value→Sem Value} {g:Int→Int→Int}
    (rule:∀ (i j:Int) (t u:Tok) (s:Shared) (Q:Value→Shared→Prop) (E:Value→Shared→Prop),Q (.int (g i j) s.toks) { s with toks:=s.toks+1 }→wpAny (model X.prog X.w) X.A (f (.int i t) (.int j u)) Q E s) :
    OpR X f (rI0 fun i j => .int (g i j)):=by
  intro pins s σ H x y v u Q I rx ry h
  obtain ⟨i,j,rfl,rfl,q⟩:=h
  obtain ⟨t,rfl⟩:=rx
  obtain ⟨t',rfl⟩:=ry
  exact rule i j t t' s _ _ ⟨.int (g i j),H,I.tok _,⟨_,rfl⟩,q⟩
theorem opB0 {f:Value→Value→Sem Value} {g:Int→Int→Bool}
    (rule:∀ (i j:Int) (t u:Tok) (s:Shared) (Q:Value→Shared→Prop) (E:Value→Shared→Prop),Q (.bool (g i j)) s→wpAny (model X.prog X.w) X.A (f (.int i t) (.int j u)) Q E s) :
    OpR X f (rI0 fun i j => .bl (g i j)):=by
  intro pins s σ H x y v u Q I rx ry h
  obtain ⟨i,j,rfl,rfl,q⟩:=h
  obtain ⟨t,rfl⟩:=rx
  obtain ⟨t',rfl⟩:=ry
  exact rule i j t t' s _ _ ⟨.bl (g i j),H,I,rfl,q⟩

noncomputable def CDiv (i j:Int):Prop:=0 < j∧j < 1073741824
noncomputable def CPow (i j:Int):Prop:=0≤j∧j≤1000000∧i.natAbs < 2 ^ 64
noncomputable def CMul (i j:Int):Prop:=(-(2 ^ 64) < i∧i < 2 ^ 64)∨(-(2 ^ 64) < j∧j < 2 ^ 64)
theorem CMul.ok {i j:Int} (h:CMul i j):IntMulOk i j:=by
  rcases h with ⟨h1,h2⟩ | ⟨h1,h2⟩
  · exact .of_left (intBits_le_64 h1 h2)
  · exact .of_right (intBits_le_64 h1 h2)

theorem op_add:OpR X (binaryOp .Add) (rI0 fun i j => .int (i+j)):=opI0 fun _ _ _ _ _ _ _ q=>add_int q
theorem op_sub:OpR X (binaryOp .Sub) (rI0 fun i j => .int (i - j)):=opI0 fun _ _ _ _ _ _ _ q=>sub_int q
theorem op_mul:OpR X (binaryOp .Mult) (rI CMul fun i j => .int (i * j)):=opI fun _ _ _ _ _ _ _ hc q=>mul_int q hc.ok
theorem op_fdiv:OpR X (binaryOp .FloorDiv) (rI CDiv fun i j => .int (i / j)):=opI fun i j _ _ _ _ _ hc q=>by
  have h1:(0:Int) < j:=hc.1
  have h2:j < 1073741824:=hc.2
  exact floordiv_int (by omega) (by rw [Int.fdiv_eq_ediv_of_nonneg i (by omega)];exact q) (.inl (PyProof.noPylong_small (by omega)))
theorem op_mod:OpR X (binaryOp .Mod) (rI (fun _ j=>0 < j) fun i j => .int (i % j)):=opI fun i j _ _ _ _ _ hc q=>by
  have h1:(0:Int) < j:=hc
  exact mod_int' (by omega) (by rw [Int.fmod_eq_emod_of_nonneg i (by omega)];exact q)
theorem op_pow:OpR X (binaryOp .Pow) (rI CPow fun i j => .int (i ^ j.toNat)):=opI fun _ _ _ _ _ _ _ hc q=>pow_int_small hc.1 hc.2.1 hc.2.2 q


theorem unI {f:Value→Sem Value} {g:Int→Int}
    (rule:∀ (i:Int) (t:Tok) (s:Shared) (Q:Value→Shared→Prop) (E:Value→Shared→Prop),Q (.int (g i) s.toks) { s with toks:=s.toks+1 }→wpAny (model X.prog X.w) X.A (f (.int i t)) Q E s) :
    UnR X f (rU fun i => .int (g i)):=by
  intro pins s σ H x v Q I rx h
  obtain ⟨i,rfl,q⟩:=h
  obtain ⟨t,rfl⟩:=rx
  exact rule i t s _ _ ⟨.int (g i),H,I.tok _,⟨_,rfl⟩,q⟩
theorem un_neg:UnR X (unaryOp .USub) (rU fun i => .int (-i)):=unI fun _ _ _ _ _ q=>neg_int q

end

noncomputable def scal:V→V→Bool
  | .non,.non=>true | .non,.int _=>true | .int _,.non=>true | .non,.bl _=>true | .bl _,.non=>true | .non,.str _=>true | .str _,.non=>true
  | .int _,.int _=>true | .bl _,.bl _=>true | .str _,.str _=>true | .byt _,.byt _=>true
  | .int _,.str _=>true | .str _,.int _=>true | .bl _,.str _=>true | .str _,.bl _=>true
  | _,_=>false
noncomputable def rEq:R2:=fun x y H Q=>scal x y=true∧Q (.bl (decide (x=y))) H
noncomputable def rNe:R2:=fun x y H Q=>scal x y=true∧Q (.bl (!decide (x=y))) H

theorem dec_int {i j:Int}:decide (V.int i=V.int j)=(i == j):=by
  rw [Bool.eq_iff_iff]
  simp
theorem dec_bl {i j:Bool}:decide (V.bl i=V.bl j)=(i == j):=by
  rw [Bool.eq_iff_iff]
  simp
theorem dec_str {i j:Str}:decide (V.str i=V.str j)=(i == j):=by
  rw [Bool.eq_iff_iff]
  simp
theorem dec_byt {i j:Array UInt8}:decide (V.byt i=V.byt j)=(i.toList == j.toList):=by
  rw [Bool.eq_iff_iff]
  cases i
  cases j
  simp

section
variable {X:Cx} {a b c:Expr} {ta tb tc:TE} {pos:Pos}
theorem fin_bl {pins:List (Addr × Obj)} {σ : St} {H:Hp} {s:Shared} {Q:VK} {k k':Bool} (I:Inv X pins σ H s) (q:Q (.bl k) H) (e:k=k'):EP X pins σ Q (.bool k') s:=by
  subst e
  exact ⟨.bl k,H,I,rfl,q⟩
theorem op_eq:OpR X (compareOp .Eq) rEq:=by
  intro pins s σ H x y v u Q I rx ry h
  obtain ⟨hs,q⟩:=h
  cases x with
  | non =>
    cases rx
    cases y with
    | non=>cases ry;exact PySem.EqNone.eq_none_none (fin_bl I q (by simp))
    | bl j=>cases ry;exact PySem.EqNone.eq_none_bool (fin_bl I q (by simp))
    | int j=>obtain ⟨t',rfl⟩:=ry;exact PySem.EqNone.eq_none_int (fin_bl I q (by simp))
    | str j=>obtain ⟨t',rfl⟩:=ry;exact PySem.EqNone.eq_none_str (fin_bl I q (by simp))
    | _=>exact absurd (show false=true from hs) Bool.false_ne_true
  | bl i =>
    cases rx
    cases y with
    | non=>cases ry;exact PySem.EqNone.eq_bool_none (fin_bl I q (by simp))
    | bl j=>cases ry;exact eq_bool (fin_bl I q dec_bl)
    | str j=>obtain ⟨t',rfl⟩:=ry;exact PySem.EqMixed.eq_bool_str (fin_bl I q (by simp))
    | _=>exact absurd (show false=true from hs) Bool.false_ne_true
  | int i =>
    obtain ⟨t,rfl⟩:=rx
    cases y with
    | non=>cases ry;exact PySem.EqNone.eq_int_none (fin_bl I q (by simp))
    | int j=>obtain ⟨t',rfl⟩:=ry;exact eq_int (fin_bl I q dec_int)
    | str j=>obtain ⟨t',rfl⟩:=ry;exact PySem.EqMixed.eq_int_str (fin_bl I q (by simp))
    | _=>exact absurd (show false=true from hs) Bool.false_ne_true
  | str i =>
    obtain ⟨t,rfl⟩:=rx
    cases y with
    | non=>cases ry;exact PySem.EqNone.eq_str_none (fin_bl I q (by simp))
    | bl j=>cases ry;exact PySem.EqMixed.eq_str_bool (fin_bl I q (by simp))
    | int j=>obtain ⟨t',rfl⟩:=ry;exact PySem.EqMixed.eq_str_int (fin_bl I q (by simp))
    | str j=>obtain ⟨t',rfl⟩:=ry;exact eq_str (fin_bl I q dec_str)
    | _=>exact absurd (show false=true from hs) Bool.false_ne_true
  | byt i =>
    obtain ⟨t,rfl⟩:=rx
    cases y with
    | byt j=>obtain ⟨t',rfl⟩:=ry;exact PySem.W.eq_bytes (fin_bl I q dec_byt)
    | _=>exact absurd (show false=true from hs) Bool.false_ne_true
  | _=>cases y <;> exact absurd (show false=true from hs) Bool.false_ne_true
theorem op_ne:OpR X (compareOp .NotEq) rNe:=by
  intro pins s σ H x y v u Q I rx ry h
  obtain ⟨hs,q⟩:=h
  cases x with
  | non =>
    cases rx
    cases y with
    | non=>cases ry;exact PySem.EqNone.ne_none_none (fin_bl I q (by simp))
    | bl j=>cases ry;exact PySem.EqNone.ne_none_bool (fin_bl I q (by simp))
    | int j=>obtain ⟨t',rfl⟩:=ry;exact PySem.EqNone.ne_none_int (fin_bl I q (by simp))
    | str j=>obtain ⟨t',rfl⟩:=ry;exact PySem.EqNone.ne_none_str (fin_bl I q (by simp))
    | _=>exact absurd (show false=true from hs) Bool.false_ne_true
  | bl i =>
    cases rx
    cases y with
    | non=>cases ry;exact PySem.EqNone.ne_bool_none (fin_bl I q (by simp))
    | bl j=>cases ry;exact ne_bool (fin_bl I q (congrArg not dec_bl))
    | str j=>obtain ⟨t',rfl⟩:=ry;exact PySem.EqMixed.ne_bool_str (fin_bl I q (by simp))
    | _=>exact absurd (show false=true from hs) Bool.false_ne_true
  | int i =>
    obtain ⟨t,rfl⟩:=rx
    cases y with
    | non=>cases ry;exact PySem.EqNone.ne_int_none (fin_bl I q (by simp))
    | int j=>obtain ⟨t',rfl⟩:=ry;exact ne_int (fin_bl I q (congrArg not dec_int))
    | str j=>obtain ⟨t',rfl⟩:=ry;exact PySem.EqMixed.ne_int_str (fin_bl I q (by simp))
    | _=>exact absurd (show false=true from hs) Bool.false_ne_true
  | str i =>
    obtain ⟨t,rfl⟩:=rx
    cases y with
    | non=>cases ry;exact PySem.EqNone.ne_str_none (fin_bl I q (by simp))
    | bl j=>cases ry;exact PySem.EqMixed.ne_str_bool (fin_bl I q (by simp))
    | int j=>obtain ⟨t',rfl⟩:=ry;exact PySem.EqMixed.ne_str_int (fin_bl I q (by simp))
    | str j=>obtain ⟨t',rfl⟩:=ry;exact ne_str (fin_bl I q (congrArg not dec_str))
    | _=>exact absurd (show false=true from hs) Bool.false_ne_true
  | byt i =>
    obtain ⟨t,rfl⟩:=rx
    cases y with
    | byt j=>obtain ⟨t',rfl⟩:=ry;exact PySem.W.ne_bytes (fin_bl I q (congrArg not dec_byt))
    | _=>exact absurd (show false=true from hs) Bool.false_ne_true
  | _=>cases y <;> exact absurd (show false=true from hs) Bool.false_ne_true

theorem op_lt:OpR X (compareOp .Lt) (rI0 fun i j => .bl (decide (i < j))):=opB0 fun _ _ _ _ _ _ _ q=>lt_int q
theorem op_gt:OpR X (compareOp .Gt) (rI0 fun i j => .bl (decide (j < i))):=opB0 fun _ _ _ _ _ _ _ q=>gt_int q
theorem op_ge:OpR X (compareOp .GtE) (rI0 fun i j => .bl (decide (j≤i))):=opB0 fun _ _ _ _ _ _ _ q=>ge_int q

theorem op_isN:OpR X (compareOp .Is) (fun x y H Q=>y = .non∧Q (.bl (decide (x = .non))) H):=by
  intro pins s σ H x y v u Q I rx ry h
  obtain ⟨rfl,q⟩:=h
  cases ry
  refine is_none_gen (fin_bl I q ?_)
  cases x <;> first
    | (cases rx;rfl)
    | (obtain ⟨t,rfl⟩:=rx;rfl)
theorem op_notN:OpR X (compareOp .IsNot) (fun x y H Q=>y = .non∧Q (.bl (!decide (x = .non))) H):=by
  intro pins s σ H x y v u Q I rx ry h
  obtain ⟨rfl,q⟩:=h
  cases ry
  refine isnot_none_gen (fin_bl I q ?_)
  cases x <;> first
    | (cases rx;rfl)
    | (obtain ⟨t,rfl⟩:=rx;rfl)



theorem nomark (b:Expr) {op:CmpOp} (h:op ≠ .In:=by decide) (h2:op ≠ .NotIn:=by decide):behindInMarks op b=false:=by
  have e1:(op == CmpOp.In)=false:=by cases op <;> first | rfl | exact absurd rfl h
  have e2:(op == CmpOp.NotIn)=false:=by cases op <;> first | rfl | exact absurd rfl h2
  cases b <;> simp [behindInMarks,e1,e2]
theorem pe_cmpR {op:CmpOp} {r:R2} (ho:OpR X (compareOp op) r) (ha:PE X a ta) (hb:PE X b tb) (hm:behindInMarks op b=false):PE X (.Compare a [op] [b] pos) (tOp r ta tb):=by
  intro pins s σ H Q I h
  exact wpAny_Compare1 (binT ha hb I h fun v u s2 x y H2 I2 rx ry q=>ho pins s2 σ H2 x y v u Q I2 rx ry q) hm
inductive RTest (x:V) (H:Hp) (Q:Bool→Hp→Prop):Prop
  | mk (k:Bool) (hx:x = .bl k) (q:Q k H):RTest x H Q
noncomputable def tTest (t:TE):TT:=fun σ H Q=>t σ H fun x H'=>RTest x H' Q
theorem pt_cmpR {op:CmpOp} {r:R2} (ho:OpR X (compareOp op) r) (ha:PE X a ta) (hb:PE X b tb) (hm:behindInMarks op b=false):PT X (.Compare a [op] [b] pos) (tTest (tOp r ta tb)):=by
  intro pins s σ H Q I h
  refine wpAny_isTrue_Compare1 (thn (ha pins s σ H _ I h) fun v s1 ⟨x,H1,I1,r1,q1⟩=>thn (hb pins s1 σ H1 _ I1 q1) fun u s2 ⟨y,H2,I2,r2,q2⟩ =>
    thn (ho pins s2 σ H2 x y v u _ I2 r1 r2 q2) fun c s3 ⟨z,H3,I3,r3,k,e,q3⟩ => ?_) hm
  subst e
  cases r3
  exact wpAny_truthy_bool ⟨H3,I3,q3⟩

noncomputable def TruV (K:PySem.W.Frag) (x:V) (H:Hp) (k:Bool):Prop :=
  match x with
  | .non=>k=false
  | .bl b=>k=b
  | .int i=>k=(i != 0)
  | .str y=>y.length≤sizeLine∧k=((y.length:Int) != 0)
  | .byt y=>y.size≤sizeLine∧k=((y.size:Int) != 0)
  | .ref p=>(∃ xs,SqL K H p xs∧k = !xs.isEmpty)∨(∃ xs,SqT K H p xs∧k = !xs.isEmpty)∨∃ kvs,H p=some (.dK kvs)∧k = !kvs.isEmpty
  | _=>False
theorem isEmpty_kv {κ : Type} {kvs:List (κ × V)} {vs:List (κ × Value)} (r:KV kvs vs):(!vs.isEmpty) = !kvs.isEmpty:=by
  cases r <;> rfl
theorem isEmpty_of {xs:List V} {its:List Value} (r:Vals xs its):(!its.toArray.isEmpty) = !xs.isEmpty:=by
  cases r <;> simp
theorem line63:(sizeLine:Nat) < 2 ^ 63:=by rw [sizeLine_eq];decide
theorem tru_ok:TruR X (fun x H Q=>∃ k,TruV X.K x H k∧Q k H):=by
  intro pins s σ H x v Q I rx h
  obtain ⟨k,e,q⟩:=h
  have hl:=line63
  have hs:sizeLine=16777216:=sizeLine_eq
  cases x with
  | non =>
    cases rx
    have e':k=false:=e
    subst e'
    exact truthy_none ⟨H,I,q⟩
  | bl b =>
    cases rx
    have e':k=b:=e
    subst e'
    exact wpAny_truthy_bool ⟨H,I,q⟩
  | int i =>
    obtain ⟨t,rfl⟩:=rx
    have e':k=(i != 0):=e
    subst e'
    exact PySem.P.truthy_int ⟨H,I,q⟩
  | str y =>
    obtain ⟨t,rfl⟩:=rx
    obtain ⟨hy,e'⟩:y.length≤sizeLine∧k=((y.length:Int) != 0):=e
    subst e'
    exact PySem.P.truthy_str (by omega) ⟨H,I.tok _,q⟩
  | byt y =>
    obtain ⟨t,rfl⟩:=rx
    obtain ⟨hy,e'⟩:y.size≤sizeLine∧k=((y.size:Int) != 0):=e
    subst e'
    exact PySem.W.truthy_bytes (by omega) ⟨H,I.tok _,q⟩
  | ref p =>
    cases rx
    have e':(∃ xs,SqL X.K H p xs∧k = !xs.isEmpty)∨(∃ xs,SqT X.K H p xs∧k = !xs.isEmpty)∨∃ kvs,H p=some (.dK kvs)∧k = !kvs.isEmpty:=e
    rcases e' with ⟨xs,hx,e'⟩ | ⟨xs,hx,e'⟩ | ⟨kvs,hx,e'⟩
    · subst e'
      obtain ⟨its,r,pl,hz⟩:=I.list hx
      have hlen:=r.length
      exact wpAny_truthy_list pl.isList (by simp only [List.size_toArray];omega) ⟨H,I.tok _,by rw [isEmpty_of r];exact q⟩
    · subst e'
      obtain ⟨its,r,pl,hz⟩:=I.tuple hx
      have hlen:=r.length
      exact truthy_tuple pl (by simp only [List.size_toArray];omega) ⟨H,I.tok _,by rw [isEmpty_of r];exact q⟩
    · subst e'
      obtain ⟨hz,hS,vs,r,m⟩:kvs.length≤sizeLine∧(p == sysModules)=false∧∃ vs,KV kvs vs∧s.heap.DictOf (mixKind X.prog X.w) p vs:=I.hok p _ hx
      have hlen:kvs.length=vs.length:=Paired.length r
      exact wpAny_truthy_dict hS m (by omega) ⟨H,I.tok _,by rw [isEmpty_kv r];exact q⟩
  | _=>exact (show False from e).elim
theorem pt_truth (ha:PE X a ta) (he:∀ whole,isTrue a X.env whole=(do let v ← whole;standAt a.pos;holding [v] (truthy v))) :
    PT X a (fun σ H Q=>ta σ H fun x H'=>∃ k,TruV X.K x H' k∧Q k H'):=by
  intro pins s σ H Q I h
  exact isTrue_plain (thn (ha pins s σ H _ I h) fun v s1 ⟨x,H1,I1,r1,q1⟩=>tru_ok pins s1 σ H1 x v Q I1 r1 q1) (he _)

inductive J_op_add_str (x:V) (y:V) (H:Hp) (Q:VK):Prop
  | mk:∀ i j,(x = .str i)→(y = .str j)→(i.length+j.length≤sizeLine)→(Q (.str (i ++ j)) H)→J_op_add_str x y H Q
theorem op_add_str:OpR X (binaryOp .Add) (fun x y H Q=>J_op_add_str x y H Q):=by
  intro pins s σ H x y v u Q I rx ry h
  obtain ⟨i,j,rfl,rfl,hz,q⟩:=h
  obtain ⟨t,rfl⟩:=rx
  obtain ⟨t',rfl⟩:=ry
  exact add_str (fun t' tk=>⟨.str (i ++ j),H,I.tok _,⟨_,rfl⟩,q⟩) hz


theorem vals1 {x:V} {us:List Value} (r:Vals [x] us):∃ u,us = [u]∧RelV x u:=by
  cases r with
  | cons r1 r2=>cases r2;exact ⟨_,rfl,r1⟩
theorem vals2 {x y:V} {us:List Value} (r:Vals [x,y] us):∃ u w',us = [u,w']∧RelV x u∧RelV y w':=by
  cases r with
  | cons r1 r2 =>
    cases r2 with
    | cons r3 r4=>cases r4;exact ⟨_,_,rfl,r1,r3⟩
inductive J_call_max2 (xs:List V) (H:Hp) (Q:VK):Prop
  | mk:∀ i j,(xs = [.int i,.int j])→(Q (.int (if j > i then j else i)) H)→J_call_max2 xs H Q
theorem call_max2 (hc:X.calm=true):CallR X (.builtin "max") (fun xs H Q=>J_call_max2 xs H Q):=by
  intro pins s σ H xs us Q I r h
  obtain ⟨i,j,rfl,q⟩:=h
  obtain ⟨u,w',rfl,⟨t,rfl⟩,⟨t',rfl⟩⟩:=vals2 r
  refine max_two_ints (I.ok.hd hc) fun h' tk k=>⟨_,H,I.kept k,?_,q⟩
  by_cases hj:j > i
  · rw [if_pos hj,if_pos hj];exact ⟨_,rfl⟩
  · rw [if_neg hj,if_neg hj];exact ⟨_,rfl⟩
inductive J_call_min2 (xs:List V) (H:Hp) (Q:VK):Prop
  | mk:∀ i j,(xs = [.int i,.int j])→(Q (.int (if j < i then j else i)) H)→J_call_min2 xs H Q
theorem call_min2 (hc:X.calm=true):CallR X (.builtin "min") (fun xs H Q=>J_call_min2 xs H Q):=by
  intro pins s σ H xs us Q I r h
  obtain ⟨i,j,rfl,q⟩:=h
  obtain ⟨u,w',rfl,⟨t,rfl⟩,⟨t',rfl⟩⟩:=vals2 r
  refine min_two_ints (I.ok.hd hc) fun h' tk k=>⟨_,H,I.kept k,?_,q⟩
  by_cases hj:j < i
  · rw [if_pos hj,if_pos hj];exact ⟨_,rfl⟩
  · rw [if_neg hj,if_neg hj];exact ⟨_,rfl⟩
end
end L2

namespace L2
open PySem PySem.Spec PyProof.Rows

structure ObjM (h:Heap) (x dx C:Addr) (mA:Str→Option Value):Prop where
  obj:h.get? x=some (PySem.W.instObj C dx)
  ns:h.Ns1 dx mA
  ne:dx≠x

theorem lookIn_ns {h:Heap} {dx:Addr} {mA:Str→Option Value} (n:h.Ns1 dx mA):∃ od,h.get? dx=some od∧∀ name,PySem.W.lookIn name od=some (mA name):=by
  obtain ⟨o,es,ep,ho,hd,hk,_,hm⟩:=n
  refine ⟨o,ho,fun name => ?_⟩
  have e:=hm name
  unfold nsFind findBy at e
  rw [← Array.find?_toList] at e
  unfold PySem.W.lookIn
  rw [hd]
  dsimp only
  split
  · rename_i y q
    rw [q] at e
    exact congrArg some e
  · rename_i q
    rw [q] at e
    have a:es.toList.any (·.refKey)=false:=by
      rw [List.any_eq_false]
      intro y hy
      obtain ⟨z,t,hkey⟩:=hk y (Array.mem_toList_iff.mp hy)
      simp [DictEntry.refKey,hkey]
    have a':¬ es.toList.any (·.refKey)=true:=by rw [a];exact Bool.false_ne_true
    rw [if_neg a']
    exact congrArg some e

theorem ObjM.look {h:Heap} {x dx C:Addr} {mA:Str→Option Value} (I:ObjM h x dx C mA):∃ od,PySem.W.InstAt h x (PySem.W.instObj C dx) C (some od)∧∀ name,PySem.W.lookIn name od=some (mA name) :=
  let ⟨od,ho,hl⟩:=lookIn_ns I.ns
  ⟨od,⟨I.obj,rfl,rfl,ho⟩,hl⟩

section
variable {prog:Program} {w:World} {A:Around} {E:Value→Shared→Prop} {s:Shared} {K:PySem.W.Frag} {x dx C f:Addr} {mA:Str→Option Value} {name:Str} {v:Value}





end


theorem RelO.some_of {v:V} {o:Option Value} (r:RelO (some v) o):∃ u,o=some u∧RelV v u:=by
  cases o with
  | none=>exact (show False from r).elim
  | some u=>exact ⟨u,rfl,r⟩

section
variable {P:Program} {w:World} {H H':Hp} {h h':Heap} {a C dx:Addr} {fs fs':List (Str × V)}
theorem ins_get (hok:HOk P w H h) (e:H a=some (.ins C dx fs)):∃ mA,ObjM h a dx C mA∧(∀ f,RelO (fs.lookup f) (mA f))∧PySem.Within mA (fs.map (·.1))∧fs.length≤1000∧H dx=some (.own a):=by
  obtain ⟨d,z,ne,ob,mA,n,r,q⟩:=(show ObjOk P w H h a (.ins C dx fs) from hok a _ e)
  exact ⟨mA,⟨ob,n,ne⟩,r,q,z,d⟩
end

structure Cls (K:PySem.W.Frag) (C:Addr):Prop where
  pg:PySem.W.plainGet K C Str.empty=true
  hd:PySem.W.hasDictIn K C=true
  po:PySem.W.plainOver K C=true
  sa:PySem.W.findIn K (.ref C) "__setattr__" = some (some (.builtin "object.__setattr__"))
theorem Cls.get {K:PySem.W.Frag} {C:Addr} (c:Cls K C) (f:Str):PySem.W.plainGet K C f=true:=c.pg

section
variable {X:Cx} {pins:List (Addr × Obj)} {σ : St} {H:Hp} {s:Shared} {a C dx:Addr} {fs:List (Str × V)} {f:Str} {v:V} {A:Around} {E:Value→Shared→Prop}






end


section
variable {X:Cx} {o e value:Expr} {f:Str} {pos pos' tpos:Pos} {ta tv:TE}

end

section
variable {X:Cx} {pins:List (Addr × Obj)} {σ : St} {H:Hp} {s:Shared} {A:Around} {E:Value→Shared→Prop} {Q:Value→Shared→Prop} {c:Value} {b:Bool}
inductive TyOf (K:PySem.W.Frag) (H:Hp):V→Value→Prop where
  | non:TyOf K H .non (.type "NoneType")
  | bl (x:Bool):TyOf K H (.bl x) (.type "bool")
  | int (i:Int):TyOf K H (.int i) (.type "int")
  | str (x:Str):TyOf K H (.str x) (.type "str")
  | flt (x:UInt64):TyOf K H (.flt x) (.type "float")
  | lst {a:Addr} {xs:List V} (e:H a=some (.lst xs)):TyOf K H (.ref a) (.type "list")
  | frz {a:Addr} {o:Obj} {xs:List V} (e:H a=some (.frz o (.lst xs))):TyOf K H (.ref a) (.type "list")
  | tup {a:Addr} {xs:List V} (e:H a=some (.tup xs)):TyOf K H (.ref a) (.type "tuple")
  | dK {a:Addr} {kvs:List (Key × V)} (e:H a=some (.dK kvs)):TyOf K H (.ref a) (.type "dict")
  | dT {a:Addr} {kvs:List (List Key × V)} (e:H a=some (.dT kvs)):TyOf K H (.ref a) (.type "dict")
  | ins {a C dx:Addr} {fs:List (Str × V)} (e:H a=some (.ins C dx fs)) (cl:Cls K C) (ha:PySem.W.findIn K (.ref C) "__class__" = some (some (.builtin "object.__class__")))
      (hn:PySem.W.specialIn K (.builtin "object.__class__") "__get__" = some (some (.builtin "getset_descriptor.__get__"))) (htk:PySem.W.takesIn K (.builtin "object.__class__")=some true)
      (hm:PySem.W.mroIn K C (.type "object")=some true):TyOf K H (.ref a) (.ref C)
theorem isinst_ok {x:V} {u t:Value} (I:Inv X pins σ H s) (rx:RelV x u) (ty:TyOf X.K H x t) (e:PySem.W.kitOne X.K t c=some b) (h:∀ tk,Q (.bool b) { s with toks:=tk }) :
    wpAny (model X.prog X.w) A (call (.builtin "isinstance") [u,c]) Q E s:=by
  cases ty with
  | non=>cases (show u=Value.none from rx);exact PySem.W.kia_one PySem.W.kitx_none I.kIn True.intro e (fun z=>nomatch z) h
  | bl y=>cases (show u=Value.bool y from rx);exact PySem.W.kia_one PySem.W.kitx_bool I.kIn True.intro e (fun z=>nomatch z) h
  | int i=>obtain ⟨t,q⟩:=(show ∃ t,u=Value.int i t from rx);cases q;exact PySem.W.kia_one PySem.W.kitx_int I.kIn True.intro e (fun z=>nomatch z) h
  | str y=>obtain ⟨t,q⟩:=(show ∃ t,u=Value.str y t from rx);cases q;exact PySem.W.kia_one PySem.W.kitx_str I.kIn True.intro e (fun z=>nomatch z) h
  | flt y=>obtain ⟨t,q⟩:=(show ∃ t,u=Value.float y t from rx);cases q;exact PySem.W.kia_one PySem.W.kitx_float I.kIn True.intro e (fun z=>nomatch z) h
  | @lst a xs ea =>
    cases (show u=Value.ref a from rx)
    obtain ⟨_,_,n,_,h1⟩:=(show ObjOk X.prog X.w H s.heap a (.lst xs) from I.hok a _ ea)
    exact PySem.W.kia_one PySem.W.kitx_list I.kIn ⟨_,h1,rfl⟩ e (fun z=>nomatch z) h
  | @frz a ob xs ea =>
    cases (show u=Value.ref a from rx)
    obtain ⟨_,_,_,n,_,h1⟩:=(show ObjOk X.prog X.w H s.heap a (.frz ob (.lst xs)) from I.hok a _ ea)
    exact PySem.W.kia_one PySem.W.kitx_list I.kIn ⟨_,h1,rfl⟩ e (fun z=>nomatch z) h
  | @tup a xs ea =>
    cases (show u=Value.ref a from rx)
    obtain ⟨_,_,_,p⟩:=(show ObjOk X.prog X.w H s.heap a (.tup xs) from I.hok a _ ea)
    obtain ⟨o,h1,h2,_⟩:=p
    exact PySem.W.kia_one PySem.W.kitx_tuple I.kIn ⟨o,h1,h2⟩ e (fun z=>nomatch z) h
  | @dK a kvs ea =>
    cases (show u=Value.ref a from rx)
    obtain ⟨_,_,vs,_,p⟩:=(show ObjOk X.prog X.w H s.heap a (.dK kvs) from I.hok a _ ea)
    obtain ⟨o,es,ep,h1,h2,_⟩:=p
    exact PySem.W.kia_one PySem.W.kitx_dict I.kIn ⟨o,h1,h2.1⟩ e (fun z=>nomatch z) h
  | @dT a kvs ea =>
    cases (show u=Value.ref a from rx)
    obtain ⟨_,_,xs,_,o,es,ep,h1,h2,_⟩:=(show ObjOk X.prog X.w H s.heap a (.dT kvs) from I.hok a _ ea)
    exact PySem.W.kia_one PySem.W.kitx_dict I.kIn ⟨o,h1,h2.1⟩ e (fun z=>nomatch z) h
  | @ins a C dx fs ea cl ha hn htk hm =>
    cases (show u=Value.ref a from rx)
    obtain ⟨mA,O,_⟩:=ins_get I.hok ea
    obtain ⟨od,J,_⟩:=O.look
    exact PySem.W.kia_one (PySem.W.kitx_own (cl.get _) cl.hd ha hn htk hm) I.kIn J e (fun z=>nomatch z) h
end
end L2

namespace L2
open PySem PySem.Spec PyProof.Rows

structure Room (k:Nat) (A:Around):Prop where
  hd:A.handled=none
  dp:A.depth+3 * k+5 < recursionLimit
  un:A.units+16 * k+200 < cLine
theorem Room.mono {j k:Nat} {A:Around} (r:Room k A) (h:j≤k):Room j A:=⟨r.hd,by have:=r.dp;omega,by have:=r.un;omega⟩
theorem Room.deeper {k:Nat} {A:Around} (r:Room (k+1) A) (env:Env):Room k (A.deeper env) :=
  ⟨r.hd,by have:=r.dp;show A.depth+1+3 * k+5 < _;omega,by have:=r.un;show A.units+3+16 * k+200 < _;omega⟩
theorem Room.depth {k:Nat} {A:Around} (r:Room k A):A.depth < recursionLimit:=by have:=r.dp;omega
theorem Room.units {k:Nat} {A:Around} (r:Room k A):A.units+64 < cLine:=by have:=r.un;omega

noncomputable def tNil:TA:=fun _ H Q=>Q [] H
noncomputable def tCons (ta:TE) (tr:TA):TA:=fun σ H Q=>ta σ H fun x H1=>tr σ H1 fun xs H2=>Q (x :: xs) H2
section
variable {X:Cx} {e:Expr} {es:List Expr} {te:TE} {t:TA} {pos:Pos}
theorem pa_nil:PA X [] tNil:=fun _ _ _ _ H Q I h=>Calls.spliced_nil ⟨[],H,I,.nil,h⟩
theorem pa_cons (ha:PE X e te) (hr:PA X es t) (hs:starEach (e :: es) X.env=(false,eval e X.env) :: starEach es X.env:=by rfl):PA X (e :: es) (tCons te t):=by
  intro pos pins s σ H Q I h
  rw [hs]
  show wpAny _ _ (spliced ((false,eval e X.env) :: backTo pos (starEach es X.env))) _ _ s
  refine Calls.spliced_cons (thn (ha pins s σ H _ I h) fun u s1 ⟨x,H1,I1,r1,q1⟩ => ?_)
  exact thn (hr pos pins s1 σ H1 _ I1 q1) fun us s2 ⟨xs,H2,I2,r2,q2⟩=>⟨x :: xs,H2,I2,.cons r1 r2,q2⟩

noncomputable def tTup (t:TA):TE:=fun σ H Q=>t σ H fun xs H1=>xs.length≤sizeLine∧∀ p,H1 p=none→Q (.ref p) (upd H1 p (.tup xs))
noncomputable def tLst (t:TA):TE:=fun σ H Q=>t σ H fun xs H1=>xs.length≤sizeLine∧∀ p,H1 p=none→Q (.ref p) (upd H1 p (.lst xs))
theorem pe_tup {x1} (h:PA X es t):PE X (.Tuple es x1 pos) (tTup t):=by
  intro pins s σ H Q I hq
  refine wpAny_Tuple_spliced (thn (h pos pins s σ H _ I hq) fun us s1 ⟨xs,H1,I1,r,z,q⟩=>⟨by rw [← r.length];exact z,?_⟩)
  have hf:H1 s1.heap.objs.size=none:=I1.hok.fresh (Nat.le_refl _)
  refine ⟨.ref s1.heap.objs.size,upd H1 s1.heap.objs.size (.tup xs),I1.laid (t':=s1.toks) (fun b u e=>Heap.get?_push_of_some _ e) (Nat.le_refl _) ?_,rfl,q _ hf⟩
  exact ⟨z,us,r,⟨_,Heap.get?_push_size _ rfl,rfl,_,rfl,rfl⟩⟩
theorem pe_lst (h:PA X es t):PE X (.List es pos) (tLst t):=by
  intro pins s σ H Q I hq
  refine wpAny_List_spliced (thn (h pos pins s σ H _ I hq) fun us s1 ⟨xs,H1,I1,r,z,q⟩=>⟨by rw [← r.length];exact z,?_⟩)
  have hf:H1 s1.heap.objs.size=none:=I1.hok.fresh (Nat.le_refl _)
  refine ⟨.ref s1.heap.objs.size,upd H1 s1.heap.objs.size (.lst xs),I1.laid (t':=s1.toks) (fun b u e=>Heap.get?_push_of_some _ e) (Nat.le_refl _) ?_,rfl,q _ hf⟩
  exact ⟨z,us,0,r,Heap.get?_push_size _ rfl⟩
end

noncomputable abbrev Sp:=List V→Hp→VK→XK→Prop
noncomputable abbrev CXT:=List Env→Hp→Shared→XK→Value→Shared→Prop

structure Env0 (P:Program) (w:World) (K:PySem.W.Frag) (mg:Str→Option Value) (base:Heap) (A:Around) (outer:List Env) (s:Shared) (H:Hp):Prop where
  frames:A.frames=some outer
  mod:Mod K mg base
  bs:∀ b o,base.get? b=some o→s.heap.get? b=some o∧H b=none
  bsz:base.objs.size≤s.heap.objs.size
  funs:s.heap.FunFrames base outer
  frf:∀ b∈frs outer,H b=none
  hok:HOk P w H s.heap
  bare:AllBare s.gens
noncomputable def CE (outer:List Env) (P:Program) (w:World) (H:Hp) (s:Shared) (Q:VK) (u:Value) (s':Shared):Prop :=
  ∃ v H',s'.os=s.os∧AllBare s'.gens∧Un (frs outer) [] H H' s.heap s'.heap∧HOk P w H' s'.heap∧RelV v u∧Q v H'
noncomputable def CR (CX:CXT) (outer:List Env) (P:Program) (w:World) (H:Hp) (s:Shared) (Q:VK) (E:XK) (r:Result) (s':Shared):Prop :=
  match r with
  | .ok (.ret u)=>CE outer P w H s Q u s'
  | .ok _=>False
  | .error e=>CX outer H s E e s'
structure FnOk (P:Program) (w:World) (K:PySem.W.Frag) (mg:Str→Option Value) (base:Heap) (CX:CXT) (k:Nat) (f:Addr) (fd:FuncData) (ps:List Str) (sp:Sp):Prop where
  len:∀ vs H Q E,sp vs H Q E→vs.length=ps.length
  run:∀ (A:Around) (outer:List Env) (s:Shared) (H:Hp) (args:Args) (us:List Value) (vs:List V) (Q:VK) (E:XK),Room k A→Env0 P w K mg base A outer s H→BindsTo s fd args (ps.zip us)→Vals vs us→sp vs H Q E →
    codeAny (model P w) A (.call (.ref f) args) (CR CX outer P w H s Q E) s


section
variable {X:Cx} {pins:List (Addr × Obj)} {σ : St} {H:Hp} {s s':Shared}
theorem Inv.env0 (I:Inv X pins σ H s):Env0 X.prog X.w X.K X.mg X.base X.A X.stack s H :=
  ⟨I.ok.frames,I.ok.mod,I.bs,Nat.le_trans I.ok.bsz I.sz,I.stack,I.stkFree,I.hok,I.bare⟩
theorem Inv.after {Q:VK} {u:Value} (I:Inv X pins σ H s) (h:CE X.stack X.prog X.w H s Q u s'):EP X pins σ Q u s':=by
  obtain ⟨v,H',os,bare,un,hok,r,q⟩:=h
  obtain ⟨hh,g,d,t,os'⟩:=s'
  obtain rfl:os'=s.os:=os
  exact ⟨v,H',I.call (h':=hh) (g':=g) (d':=d) (t':=t) (ch := []) un hok bare (fun b z=>absurd z (by simp)),r,q⟩
end

noncomputable def tCall (sp:Sp) (dvs:List V) (E:XK) (t:TA):TE:=fun σ H Q=>t σ H fun vs H1=>sp (vs ++ dvs) H1 Q E

noncomputable def Binds (K:PySem.W.Frag) (fd:FuncData) (ps:List Str) (ds:List Value):Prop :=
  ∀ (s:Shared) (us:List Value),K.In s.heap→(us ++ ds).length=ps.length→BindsTo s fd ⟨us, []⟩ (ps.zip (us ++ ds))
theorem Binds.all {K:PySem.W.Frag} {fd:FuncData} {ps:List Str} (h:∀ us:List Value,us.length=ps.length→bindArgs fd ⟨us, []⟩=pure (ps.zip us)):Binds K fd ps []:=fun s us _ hl=>by
  rw [List.append_nil] at hl ⊢
  exact .of_eq (h us hl)

noncomputable def Passes (CX:CXT) (X:Cx) (E:XK):Prop := ∀ (pins:List (Addr × Obj)) (σ : St) (H:Hp) (s:Shared) (e:Value) (s':Shared),Inv X pins σ H s→CX X.stack H s E e s'→X.xe e s'

section
variable {X:Cx} {CX:CXT} {k:Nat} {f C:Addr} {fd:FuncData} {ps:List Str} {sp:Sp} {dvs:List V} {ds:List Value} {E:XK} {x m:Str} {p pos apos:Pos} {e o:Expr} {es:List Expr} {ta:TE} {t:TA}

theorem run_fn {pins:List (Addr × Obj)} {σ : St} {H:Hp} {s:Shared} {Q:VK} {us:List Value} {vs:List V} (F:FnOk X.prog X.w X.K X.mg X.base CX k f fd ps sp) (hr:Room k X.A) (hb:Binds X.K fd ps ds) (hd:Vals dvs ds) (hx:Passes CX X E)
    (I:Inv X pins σ H s) (r:Vals vs us) (h:sp (vs ++ dvs) H Q E):wpAny (model X.prog X.w) X.A (call (.ref f) us) (EP X pins σ Q) X.xe s:=by
  have r2:Vals (vs ++ dvs) (us ++ ds):=r.append hd
  have hl:(us ++ ds).length=ps.length:=by rw [← r2.length];exact F.len _ _ _ _ h
  refine wpAny_call (codeAny_mono (F.run X.A X.stack s H ⟨us, []⟩ (us ++ ds) (vs ++ dvs) Q E hr I.env0 (hb s us I.kIn hl) r2 h) fun r s' hq => ?_)
  cases r with
  | error e=>exact hx pins σ H s e s' I hq
  | ok fl =>
    cases fl with
    | ret u=>exact I.after hq
    | next=>exact False.elim hq
    | brk=>exact False.elim hq
    | cont=>exact False.elim hq

theorem pe_call (F:FnOk X.prog X.w X.K X.mg X.base CX k f fd ps sp) (hr:Room k X.A) (hg:Gl X x) (hm:X.mg x=some (.ref f)) (hk:PySem.W.keepIn X.K (.ref f)=true) (hb:Binds X.K fd ps ds) (hd:Vals dvs ds) (hx:Passes CX X E)
    (ha:PA X (e :: es) t) (hdb:(x == ("__debug__" : Str))=false:=by decide) (he:starEach (e :: es) X.env=(false,eval e X.env) :: starEach es X.env:=by rfl) (hpl:(backTo pos (starEach es X.env)).any (·.1)=false:=by rfl) :
    PE X (.Call (.Name x p) (e :: es) [] pos) (tCall sp dvs E t):=by
  intro pins s σ H Q I h
  refine wpAny_Call_Name_kw (ld_glob I hg hm ?_ hdb)
  refine PySem.W.callWith_K (h₀ := X.base) I.ok.mod.kin hk (thn (ha pos pins s σ H _ I h) fun us s1 ⟨vs,H1,I1,r,q⟩=>⟨I1.kIn,?_⟩) he hpl
  exact run_fn F hr hb hd hx I1 r q



end

section
variable {X:Cx} {CX:CXT} {k:Nat} {f C:Addr} {fd:FuncData} {ps ks:List Str} {sp:Sp} {E:XK} {x m:Str} {p pos apos kpos:Pos} {e o:Expr} {es:List Expr} {kws:List Keyword} {te ta:TE} {t tk:TA} {nm:Option Str}

variable {g:List Value→List Value→List Value} {gV:List V→List V→List V}
end

structure FnScope (N P:List Str) (sc:Scope):Prop where
  kind:sc.kind = .function
  co:sc.isCoroutine=false
  gen:sc.isGenerator=false
  nd:N.Nodup
  pre:N.take P.length=P
  par:∀ x∈P,sc.names.lookup x=some .local∨sc.names.lookup x=some .cell
  nofree:∀ y∈sc.names,y.2 ≠ .free

theorem bindL_out {kindOf:Str→Option NameKind} {x:Str}:∀ {binds:List (Str × Value)} {m:Str→Option Value},(∀ v,(x,v) ∉ binds)→bindL kindOf binds m x=m x
  | [],_,_=>rfl
  | (n,v) :: r,m,h=>by
    unfold bindL
    rw [bindL_out fun w hw=>h w (List.mem_cons_of_mem _ hw)]
    split
    · have:x≠n:=by rintro rfl;exact h v List.mem_cons_self
      simp [this]
    · rfl
theorem bindC_out {kindOf:Str→Option NameKind} {x:Str}:∀ {binds:List (Str × Value)} {m:Str→Option Value},(∀ v,(x,v) ∉ binds)→bindC kindOf binds m x=m x
  | [],_,_=>rfl
  | (n,v) :: r,m,h=>by
    unfold bindC
    rw [bindC_out fun w hw=>h w (List.mem_cons_of_mem _ hw)]
    split
    · rfl
    · have:x≠n:=by rintro rfl;exact h v List.mem_cons_self
      simp [this]
theorem bindL_get {kindOf:Str→Option NameKind} {x:Str} {v:Value}:∀ {P:List Str} {vs:List Value} {i:Nat} {m:Str→Option Value},P.Nodup→P[i]? = some x→vs[i]? = some v→kindOf x=some .local →
    bindL kindOf (P.zip vs) m x=some v
  | [],_,_,_,_,h,_,_=>by simp at h
  | _ :: _, [],_,_,_,_,h,_=>by simp at h
  | p :: P,w :: vs,0,m,nd,h1,h2,hk=>by
    simp at h1 h2;subst h1;subst h2
    show bindL kindOf ((p,w) :: P.zip vs) m p=_
    unfold bindL
    rw [bindL_out fun v hv=>(List.nodup_cons.mp nd).1 (List.of_mem_zip hv).1,if_pos hk]
    simp
  | p :: P,w :: vs,i+1,m,nd,h1,h2,hk=>by
    show bindL kindOf ((p,w) :: P.zip vs) m x=_
    unfold bindL
    exact bindL_get (i:=i) (List.nodup_cons.mp nd).2 (by simpa using h1) (by simpa using h2) hk
theorem bindC_get {kindOf:Str→Option NameKind} {x:Str} {v:Value}:∀ {P:List Str} {vs:List Value} {i:Nat} {m:Str→Option Value},P.Nodup→P[i]? = some x→vs[i]? = some v→kindOf x≠some .local →
    bindC kindOf (P.zip vs) m x=some v
  | [],_,_,_,_,h,_,_=>by simp at h
  | _ :: _, [],_,_,_,_,h,_=>by simp at h
  | p :: P,w :: vs,0,m,nd,h1,h2,hk=>by
    simp at h1 h2;subst h1;subst h2
    show bindC kindOf ((p,w) :: P.zip vs) m p=_
    unfold bindC
    rw [bindC_out fun v hv=>(List.nodup_cons.mp nd).1 (List.of_mem_zip hv).1,if_neg hk]
    simp
  | p :: P,w :: vs,i+1,m,nd,h1,h2,hk=>by
    show bindC kindOf ((p,w) :: P.zip vs) m x=_
    unfold bindC
    exact bindC_get (i:=i) (List.nodup_cons.mp nd).2 (by simpa using h1) (by simpa using h2) hk

noncomputable def start (N:List Str) (vs:List V):St:=vs.map some ++ List.replicate (N.length - vs.length) none

noncomputable def cxOf (CX:CXT) (P:Program) (w:World) (K:PySem.W.Frag) (mg:Str→Option Value) (base:Heap) (N:List Str) (qual:Str) (scope:Scope) (f:Addr) (cd:Value) (A:Around) (outer:List Env) (s:Shared) (H:Hp) (E:XK):Cx where
  prog:=P
  w:=w
  K:=K
  mg:=mg
  base:=base
  A:=A.deeper (envOfC qual scope s.heap.objs.size f cd)
  N:=N
  s₀ := s
  H₀ := H
  env:=envOfC qual scope s.heap.objs.size f cd
  outer:=outer
  stack:=envOfC qual scope s.heap.objs.size f cd :: outer
  ex := []
  calm:=true
  fn:=fun _=>true
  pn := []
  xe:=fun e s'=>wpAny (model P w) (A.deeper (envOfC qual scope s.heap.objs.size f cd)) (leaving (envOfC qual scope s.heap.objs.size f cd) e) (fun _ s''=>CX outer H s E e s'') (fun e' s''=>CX outer H s E e' s'') s'

theorem cell_has {sc:Scope} {n:Nat} {x:Str} (h:sc.names.lookup x=some .cell):∃ c,(cellsFrom n sc.names []).lookup x=some c:=by
  have q:=PySem.W.cellsFrom_some sc.names n [] (.inl h)
  exact Option.isSome_iff_exists.mp q

theorem inv_start {CX:CXT} {P:Program} {w:World} {K:PySem.W.Frag} {mg:Str→Option Value} {base:Heap} {N ps:List Str} {qual:Str} {scope:Scope} {f:Addr} {cd:Value} {A:Around} {outer:List Env} {s s1:Shared} {H:Hp} {E:XK} {us:List Value} {vs:List V}
    (S:FnScope N ps scope) (hd:A.handled=none) (e0:Env0 P w K mg base A outer s H) (hl:vs.length=ps.length) (r:Vals vs us)
    (x:InCallC s s.heap.objs.size (bindL (envOfC qual scope s.heap.objs.size f cd).kindOf (ps.zip us) fun _=>none) (cellsFrom (s.heap.objs.size+1) scope.names []) (bindC (envOfC qual scope s.heap.objs.size f cd).kindOf (ps.zip us) fun _=>none) s1) :
    Inv (cxOf CX P w K mg base N qual scope f cd A outer s H E) [] (start N vs) H s1:=by
  have hpl:ps.length≤N.length:=by have:=congrArg List.length S.pre;rw [List.length_take] at this;omega
  obtain ⟨h1,tk,rfl,hk⟩:=x.done
  have noA:∀ b:Addr,b ∉ (cxOf CX P w K mg base N qual scope f cd A outer s H E).ex:=fun b z=>absurd (show b∈([]:List Addr) from z) (by simp)
  refine ⟨⟨e0.mod,S.kind,rfl,rfl,Nat.le_refl _,fun y z c h1 h2 => ?_,fun y hy => ?_,fun y c _ h => ?_,fun _=>hd,Around.frames_deeper e0.frames,.inr ⟨rfl,rfl⟩,fun b z=>absurd z (noA b),e0.bs,e0.bsz,fun b _ _=>noA b,fun b z=>absurd z (noA b),e0.funs,e0.frf⟩,
    rfl,e0.bare,Un.kept hk,⟨_,x.toInCall.ns,fun i y v h1 h2 h3 => ?_⟩,fun y c h=>⟨_,x.cell y c h⟩,e0.hok.fresh (Nat.le_refl _),fun y c h => ?_,fun p hp=>absurd (show p∈([]:List (Addr × Obj)) from hp) (by simp),e0.hok.kept hk,?_⟩
  · exact name_of_addr x.apart (PySem.mem_of_lookup h1) (PySem.mem_of_lookup h2)
  · have hy:scope.names.lookup y=some .cell∨scope.names.lookup y=some .free:=hy
    rcases hy with hy | hy
    · exact cell_has hy
    · exact absurd rfl (S.nofree _ (PySem.mem_of_lookup hy))
  · exact Nat.le_of_lt (x.above y c (PySem.mem_of_lookup h))
  · have hi:i < vs.length:=by
      unfold start at h2
      by_cases hi:i < vs.length
      · exact hi
      · rw [List.getElem?_append_right (by simpa using hi)] at h2
        rw [List.getElem?_replicate] at h2
        split at h2 <;> cases h2
    have ha:vs[i]? = some v:=by
      unfold start at h2
      rw [List.getElem?_append_left (by simpa using hi),List.getElem?_map] at h2
      cases e:vs[i]? with
      | none=>rw [e] at h2;cases h2
      | some a=>rw [e] at h2;cases h2;rfl
    obtain ⟨u,hu,rv⟩:=r.get ha
    have hp:ps[i]? = some y:=by
      rw [← S.pre,List.getElem?_take_of_lt (by omega)];exact h1
    have ndP:ps.Nodup:=by rw [← S.pre];exact S.nd.sublist (List.take_sublist _ _)
    refine ⟨u,rv,?_⟩
    rcases S.par y (List.mem_of_getElem? hp) with k | k
    · exact .inl ⟨k,bindL_get ndP hp hu k⟩
    · obtain ⟨c,e⟩:=cell_has (n:=s.heap.objs.size+1) k
      refine .inr ⟨.inl k,c,e,?_⟩
      have q:=x.cell y c e
      rw [bindC_get ndP hp hu (by show scope.names.lookup y≠_;rw [k];decide)] at q
      exact q
  · exact e0.hok.fresh (Nat.le_of_lt (x.above y c (PySem.mem_of_lookup h)))
  · unfold start
    show _=N.length
    rw [List.length_append,List.length_map,List.length_replicate]
    omega

theorem fn_of {CX:CXT} {P:Program} {w:World} {K:PySem.W.Frag} {mg:Str→Option Value} {base:Heap} {k:Nat} {f:Addr} {name qual:Str} {params:Arguments} {body:List Stmt} {scope:Scope} {dV kV doc pm cdv ct oc:Value} {an od:Option Addr}
    {osl:Array (Option Value)} {N ps:List Str} {sp:Sp} (lk:K.lookup f=some ⟨oc,od,.func (PySem.W.fnOf name qual params body scope dV kV doc pm an cdv ct),osl⟩) (hcd:PySem.W.codeIn K cdv qual=true) (S:FnScope N ps scope)
    (len:∀ vs H Q E,sp vs H Q E→vs.length=ps.length)
    (hbody:∀ (A:Around) (outer:List Env) (s:Shared) (H:Hp) (vs:List V) (Q:VK) (E:XK),Room k (A.deeper (envOfC qual scope s.heap.objs.size f cdv))→sp vs H Q E →
      ∃ t,PSs (cxOf CX P w K mg base N qual scope f cdv A outer s H E) body t∧t { nx:=fun _ H'=>Q .non H',rt:=Q } (start N vs) H) :
    FnOk P w K mg base CX (k+1) f (PySem.W.fnOf name qual params body scope dV kV doc pm an cdv ct) ps sp:=by
  refine ⟨len,fun A outer s H args us vs Q E hr e0 hb r hsp => ?_⟩
  have hl:=len _ _ _ _ hsp
  have KX:K.In s.heap:=e0.mod.kin.keeps fun b o e=>(e0.bs b o e).1
  have lim:s.heap.NoLimit:=e0.mod.nolimit.keeps fun b o e=>(e0.bs b o e).1
  have hkind:∀ y∈ps.zip us,scope.names.lookup y.1=some .local∨(scope.names.lookup y.1=some .cell∧((cellsFrom (s.heap.objs.size+1) scope.names []).lookup y.1).isSome=true):=fun ⟨n,v⟩ hy=>by
    rcases S.par n (List.of_mem_zip hy).1 with q | q
    · exact .inl q
    · exact .inr ⟨q,PySem.W.cellsFrom_some _ _ _ (.inl q)⟩
  refine codeAny_call_function hr.depth (KX _ _ lk) rfl S.co S.gen rfl (PySem.W.codeRec_of KX hcd) (hb _ _ _ _ ?_)
  refine wpAny_newFunctionEnv_cells S.kind hkind fun env he s1 x => ?_
  subst he
  refine ⟨lim.keeps x.toInCall.keep,codeAny_func ?_⟩
  obtain ⟨t,ht,hq⟩:=hbody A outer s H vs Q E (hr.deeper _) hsp
  have I:Inv (cxOf CX P w K mg base N qual scope f cdv A outer s H E) [] (start N vs) H s1:=inv_start S hr.hd e0 hl r x
  refine wpAny_mono (ht [] s1 (start N vs) H _ I hq) (fun fl s' hs => ?_) fun e s' hs=>hs
  have fin:∀ {σ':St} {H':Hp} {v:V} {u:Value},Inv (cxOf CX P w K mg base N qual scope f cdv A outer s H E) [] σ' H' s'→RelV v u→Q v H'→CE outer P w H s Q u s' :=
    fun {σ' H' v u} J rv q=>⟨v,H',J.os,J.bare,J.base,J.hok,rv,q⟩
  cases fl with
  | ret u =>
    obtain ⟨v, σ',H',J,rv,q⟩:=hs
    exact fin J rv q
  | next =>
    obtain ⟨σ',H',J,q⟩:=hs
    exact fin (v:=V.non) (u:=Value.none) J rfl q
  | brk =>
    obtain ⟨_,_,_,q⟩:=hs
    exact False.elim q
  | cont =>
    obtain ⟨_,_,_,q⟩:=hs
    exact False.elim q
end L2

namespace L2
open PySem PySem.Spec PyProof.Rows
section
variable {X:Cx} {x:Str} {p pos:Pos} {e:Expr} {es:List Expr} {t:TA} {id T:String} {r:List V→Hp→VK→Prop}

noncomputable def tCB (r:List V→Hp→VK→Prop) (t:TA):TE:=fun σ H Q=>t σ H fun vs H1=>r vs H1 Q
theorem pe_callB (hc:CallR X (.builtin id) r) (hg:Gl X x) (hm:X.mg x=none) (hv:bootBuiltins x=some (.builtin id)) (ha:PA X (e :: es) t) (hn:x ≠ "__name__" := by decide) (hdb:(x == ("__debug__" : Str))=false:=by decide)
    (he:starEach (e :: es) X.env=(false,eval e X.env) :: starEach es X.env:=by rfl) (hpl:(backTo pos (starEach es X.env)).any (·.1)=false:=by rfl):PE X (.Call (.Name x p) (e :: es) [] pos) (tCB r t):=by
  intro pins s σ H Q I h
  refine wpAny_Call_Name_kw (ld_blt I hg hm hv ?_ hn hdb)
  exact PyProof.Rows.callWith_builtin1 (thn (ha pos pins s σ H _ I h) fun us s1 ⟨vs,H1,I1,r1,q1⟩=>hc pins s1 σ H1 vs us Q I1 r1 q1) he hpl
theorem pe_callTy (hc:CallR X (.type T) r) (hg:Gl X x) (hm:X.mg x=none) (hv:bootBuiltins x=some (.type T)) (ha:PA X (e :: es) t) (hn:x ≠ "__name__" := by decide) (hdb:(x == ("__debug__" : Str))=false:=by decide)
    (he:starEach (e :: es) X.env=(false,eval e X.env) :: starEach es X.env:=by rfl) (hpl:(backTo pos (starEach es X.env)).any (·.1)=false:=by rfl):PE X (.Call (.Name x p) (e :: es) [] pos) (tCB r t):=by
  intro pins s σ H Q I h
  refine wpAny_Call_Name_kw (ld_blt I hg hm hv ?_ hn hdb)
  exact PyProof.Rows.callWith_type1 (thn (ha pos pins s σ H _ I h) fun us s1 ⟨vs,H1,I1,r1,q1⟩=>hc pins s1 σ H1 vs us Q I1 r1 q1) he hpl
end
end L2

namespace HT
open PySem PyProof.Rows



section
open PySem.SeqAt
open PySem.AutoSeq1 (wpAny_loadPart')
open PySem.MeetsSeq PySem.MeetsSeq2 PySem.MeetsSeq3

end

section
variable {prog:Program} {w:World} {A:Around} {E:Value→Shared→Prop} {s:Shared}



noncomputable def sIx (n d:Nat):Option Int→Nat
  | none=>d
  | some v=>if v < 0 then (v+(n:Int)).toNat else min v.toNat n
theorem sIx_none (n d:Nat):sIx n d none=d:=rfl
theorem sIx_nat (n d k:Nat):sIx n d (some (k:Int))=min k n:=by
  show (if (k:Int) < 0 then ((k:Int)+(n:Int)).toNat else min (k:Int).toNat n)=min k n
  rw [if_neg (by omega),Int.toNat_natCast]
theorem sIx_le (n d:Nat) (hd:d≤n) (o:Option Int):sIx n d o≤n:=by
  cases o with
  | none=>exact hd
  | some v =>
    show (if v < 0 then (v+(n:Int)).toNat else min v.toNat n)≤n
    by_cases hv:v < 0
    · rw [if_pos hv];omega
    · rw [if_neg hv];exact Nat.min_le_right _ _
theorem clip_eq (v:Int) (n d:Nat):(if v < 0 then max (v+(n:Int)) 0 else min v (n:Int))=((sIx n d (some v):Nat):Int):=by
  show (if v < 0 then max (v+(n:Int)) 0 else min v (n:Int))=(((if v < 0 then (v+(n:Int)).toNat else min v.toNat n):Nat):Int)
  by_cases hv:v < 0
  · simp only [if_pos hv];omega
  · simp only [if_neg hv];omega
theorem adjust_gen (lo hi:Option Int) (n:Nat):Builtin.Slice.sliceAdjust lo hi 1 (n:Int)=(((sIx n 0 lo:Nat):Int),((sIx n n hi:Nat):Int)):=by
  have h1:¬ ((1:Int) < 0):=by omega
  unfold Builtin.Slice.sliceAdjust
  simp only [h1,if_false]
  refine Prod.ext ?_ ?_
  · cases lo with
    | none=>rfl
    | some v=>exact clip_eq v n 0
  · cases hi with
    | none=>rfl
    | some v=>exact clip_eq v n n
theorem places_gen (i j:Nat):Builtin.Slice.slicePlaces (i:Int) (j:Int) 1=j - i:=by
  unfold Builtin.Slice.slicePlaces
  have h1:(1:Int) > 0:=by omega
  simp only [h1,if_true,Int.ediv_one]
  split <;> omega
theorem slicePart_ {v:Value} {o:Option Int} {Q:Option Int→Shared→Prop} (p:IsPart v o) (h:Q o s):wpAny (model prog w) A (Builtin.Slice.slicePartIndex v) Q E s:=by
  cases p with
  | none=>exact slicePart_none h
  | int i t=>exact slicePart_int h
theorem sliceApplied_gen {sl:Addr} {vl vu:Value} {lo hi:Option Int} {n:Nat} {Q:Int × Int × Nat→Shared→Prop} (hs:s.heap.IsSliceOf sl vl vu .none) (pl:IsPart vl lo) (pu:IsPart vu hi)
    (h:Q (((sIx n 0 lo:Nat):Int),1,sIx n n hi - sIx n 0 lo) s):wpAny (model prog w) A (Builtin.Slice.sliceApplied (.ref sl) (pure (n:Int))) Q E s:=by
  obtain ⟨os,hos,hcs,hds⟩:=id hs
  unfold Builtin.Slice.sliceApplied Builtin.Slice.sliceFields
  refine wpAny_bind (wpAny_bind (wpAny_field hos hds (x:=vl) rfl (wpAny_bind (wpAny_field hos hds (x:=vu) rfl (wpAny_bind (wpAny_field hos hds (x := .none) rfl (wpAny_pure ?_)))))))
  refine wpAny_bind (slicePart_none ?_)
  show wpAny _ _ (if ((1:Int) == 0)=true then _ else _) _ _ s
  rw [if_neg (by decide)]
  refine wpAny_bind (slicePart_ pl (wpAny_bind (slicePart_ pu (wpAny_bind (wpAny_pure ?_)))))
  show wpAny _ _ (match Builtin.Slice.sliceAdjust lo hi 1 (n:Int) with | (lo,hi)=>pure (lo,(1:Int),Builtin.Slice.slicePlaces lo hi 1)) _ _ s
  rw [adjust_gen lo hi n]
  show wpAny _ _ (pure (((sIx n 0 lo:Nat):Int),(1:Int),Builtin.Slice.slicePlaces ((sIx n 0 lo:Nat):Int) ((sIx n n hi:Nat):Int) 1)) _ _ s
  rw [places_gen]
  exact wpAny_pure h
theorem pick_gen (xs:Array Value) (i k:Nat):((List.range k).filterMap fun (m:Nat)=>xs[((i:Int)+(m:Int) * 1).toNat]?).toArray=((xs.toList.drop i).take k).toArray:=by
  have e:(fun (m:Nat)=>xs[((i:Int)+(m:Int) * 1).toNat]?)=fun m=>xs[i+m]? := by
    funext m
    have:((i:Int)+(m:Int) * 1).toNat=i+m:=by omega
    rw [this]
  rw [e]
  have:=pick_run xs i k
  rw [List.filterMap_map] at this
  have e2:((fun x=>xs[x]?) ∘ fun x=>i+x)=fun m=>xs[i+m]? := rfl
  rw [e2] at this
  rw [this]

theorem getItem_tuple_cut {t sl:Addr} {items:Array Value} {vl vu:Value} {lo hi:Option Int} {Q:Value→Shared→Prop} (ht:IsTup s.heap t items) (hs:s.heap.IsSliceOf sl vl vu .none) (pl:IsPart vl lo) (pu:IsPart vu hi)
    (hw:¬ (sIx items.size 0 lo=0∧sIx items.size items.size hi=items.size))
    (h:Q (.ref s.heap.objs.size) { s with heap:=s.heap.push { cls := .type "tuple",data := .seq ((items.toList.drop (sIx items.size 0 lo)).take (sIx items.size items.size hi - sIx items.size 0 lo)).toArray } })
    (hsz:items.size≤sizeLine):wpAny (model prog w) A (getItem (.ref t) (.ref sl)) Q E s:=by
  have htake:sizeOk (.seq ((items.toList.drop (sIx items.size 0 lo)).take (sIx items.size items.size hi - sIx items.size 0 lo)).toArray):=by
    show ((items.toList.drop (sIx items.size 0 lo)).take (sIx items.size items.size hi - sIx items.size 0 lo)).toArray.size≤sizeLine
    rw [List.size_toArray,List.length_take,List.length_drop,Array.length_toList]
    omega
  have hj:sIx items.size items.size hi≤items.size:=sIx_le _ _ (Nat.le_refl _) hi
  obtain ⟨os,hos,hcs,hds⟩:=id hs
  have hTs:s.TypeIs (.ref sl) "slice" := ⟨os,hos,hcs⟩
  unfold getItem
  try with_reducible refine wpAny_holding ?_
  first | refine wpAny_bind (wpAny_pure ?_) | skip
  refine wpAny_bind (wpAny_sequenceKey ht.typeIs (by decide) ?_)
  refine wpAny_bind (wpAny_callSpecial?_slot (name:=Str.ofString "__getitem__") ht.typeIs PyProof.Rows.slot_tuple_getitem
    (wpAny_call_entry PyProof.Rows.slot_tuple_getitem ht.typeIs entry_tuple_getitem ?_ (args_tuple_getitem _ _)))
  show wpAny _ _ (Builtin.Tuple.tupleItemsOf (.ref t) >>= _) _ _ s
  refine wpAny_bind (tupleItemsOf_ ht ?_)
  refine wpAny_bind (wpAny_typeOf hTs ?_)
  rw [if_pos (by decide)]
  refine wpAny_bind (sliceApplied_gen hs pl pu ?_)
  have hno:¬ ((((sIx items.size 0 lo:Nat):Int) == 0 && (1:Int) == 1 && (sIx items.size items.size hi - sIx items.size 0 lo) == items.size)=true):=by
    intro q
    rw [Bool.and_eq_true,Bool.and_eq_true] at q
    have q1:((sIx items.size 0 lo:Nat):Int)=0:=eq_of_beq q.1.1
    have q2:sIx items.size items.size hi - sIx items.size 0 lo=items.size:=eq_of_beq q.2
    exact hw ⟨by omega,by omega⟩
  show wpAny _ _ (if (((sIx items.size 0 lo:Nat):Int) == 0 && (1:Int) == 1 && (sIx items.size items.size hi - sIx items.size 0 lo) == items.size)=true then _ else _) _ _ s
  rw [if_neg hno,pick_gen]
  first
    | exact wpAny_bind (m:=Builtin.Tuple.tupleExact _) (wpAny_newObj_type (wpAny_pure ⟨_,rfl,wpAny_pure h⟩) htake)
    | exact wpAny_bind (m:=Builtin.Tuple.tupleExact _) (wpAny_newObj_type (wpAny_bind (wpAny_pure (wpAny_pure ⟨_,rfl,wpAny_pure h⟩))) htake)
    | exact wpAny_bind (wpAny_bind (m:=Builtin.Tuple.tupleExact _) (wpAny_newObj_type (wpAny_pure (wpAny_pure ⟨_,rfl,wpAny_pure h⟩)) htake))
    | exact wpAny_bind (wpAny_bind (m:=Builtin.Tuple.tupleExact _) (wpAny_newObj_type (wpAny_pure ⟨_,rfl,wpAny_pure h⟩) htake))
end
end HT

namespace L2
open PySem PySem.Spec PyProof.Rows

noncomputable abbrev TO:=St→Hp→(Option Int→Hp→Prop)→Prop
noncomputable def PO (X:Cx) (e:Option Expr) (t:TO):Prop :=
  ∀ (pins:List (Addr × Obj)) (s:Shared) (σ : St) (H:Hp) (Q:Option Int→Hp→Prop),Inv X pins σ H s→t σ H Q →
    wpAny (model X.prog X.w) X.A (evalPart e X.env) (fun u s'=>∃ o H',Inv X pins σ H' s'∧IsPart u o∧Q o H') X.xe s
noncomputable def tNoPart:TO:=fun _ H Q=>Q none H
inductive J_tPart (Q:Option Int→Hp→Prop) (x:V) (H1:Hp):Prop
  | mk:∀ i,(x = .int i)→(Q (some i) H1)→J_tPart Q x H1
noncomputable def tPart (t:TE):TO:=fun σ H Q=>t σ H fun x H1=>J_tPart Q x H1

theorem intsAre_of {ns:List Int}:∀ {us:List Value},Vals (ns.map V.int) us→IntsAre us ns:=by
  induction ns with
  | nil=>intro us r;rw [List.map_nil] at r;cases r;exact .nil
  | cons n ns ih =>
    intro us r
    rw [List.map_cons] at r
    cases r with
    | cons r1 r2 =>
      obtain ⟨t,e⟩:=r1
      subst e
      exact .cons n t (ih r2)

section
variable {X:Cx} {e:Expr} {te:TE} {lo hi:Option Expr} {tl th:TO} {pos p2:Pos}

theorem po_none:PO X none tNoPart:=by
  intro pins s σ H Q I h
  rw [evalPart_none]
  exact wpAny_pure ⟨none,H,I,.none,h⟩
theorem po_some (h:PE X e te):PO X (some e) (tPart te):=by
  intro pins s σ H Q I hw
  rw [evalPart_some]
  refine thn (h pins s σ H _ I hw) fun u s1 ⟨x,H1,I1,r1,q1⟩ => ?_
  obtain ⟨i,rfl,q⟩:=q1
  obtain ⟨t,rfl⟩:=r1
  exact ⟨some i,H1,I1,.int i t,q⟩

noncomputable def SlR (X:Cx) (r:V→Option Int→Option Int→Hp→VK→Prop):Prop :=
  ∀ (pins:List (Addr × Obj)) (s:Shared) (σ : St) (H:Hp) (x:V) (v vl vu:Value) (lo hi:Option Int) (sl:Addr) (Q:VK),Inv X pins σ H s→RelV x v→s.heap.IsSliceOf sl vl vu .none→IsPart vl lo→IsPart vu hi→r x lo hi H Q →
    ∃ T id,typeLookup (.type T) "__getitem__" = pure (some (.builtin id))∧s.TypeIs v T∧wpAny (model X.prog X.w) X.A (getItem v (.ref sl)) (EP X pins σ Q) X.xe s
noncomputable def tSl (r:V→Option Int→Option Int→Hp→VK→Prop) (te:TE) (tl th:TO):TE:=fun σ H Q=>te σ H fun x H1=>tl σ H1 fun l H2=>th σ H2 fun u H3=>r x l u H3 Q
theorem pe_slice {r:V→Option Int→Option Int→Hp→VK→Prop} (hr:SlR X r) (he:PE X e te) (hl:PO X lo tl) (hu:PO X hi th):PE X (.Subscript e (.Slice lo hi none p2) pos) (tSl r te tl th):=by
  intro pins s σ H Q I h
  refine Subscript_ (thn (he pins s σ H _ I h) fun v s1 ⟨x,H1,I1,r1,q1⟩ => ?_)
  refine wpAny_Slice (thn (hl pins s1 σ H1 _ I1 q1) fun vl s2 ⟨l,H2,I2,pl,q2⟩=>thn (hu pins s2 σ H2 _ I2 q2) fun vu s3 ⟨u,H3,I3,pu,q3⟩ => ?_)
  rw [evalPart_none]
  refine wpAny_pure ?_
  have I4:Inv X pins σ H3 { s3 with heap:=s3.heap.push { cls := .type "slice",data := .fields #[vl,vu,.none] } }:=I3.kept (t':=s3.toks) fun b ob q=>Heap.get?_push_of_some _ q
  obtain ⟨T,id,hT,ht,hg⟩:=hr pins { s3 with heap:=s3.heap.push { cls := .type "slice",data := .fields #[vl,vu,.none] } } σ H3 x v vl vu l u s3.heap.objs.size Q I4 r1 (Heap.IsSliceOf.new ..) pl pu q3
  show wpAny (model X.prog X.w) X.A (subscriptTail e (.Slice lo hi none p2) v (.ref s3.heap.objs.size)) (EP X pins σ Q) X.xe { s3 with heap:=s3.heap.push { cls := .type "slice",data := .fields #[vl,vu,.none] } }
  exact tail_any (ops := [.ref s3.heap.objs.size,v]) ht hT hg (by with_unfolding_all rfl)

noncomputable def cutV (xs:List V) (lo hi:Option Int):List V:=(xs.drop (HT.sIx xs.length 0 lo)).take (HT.sIx xs.length xs.length hi - HT.sIx xs.length 0 lo)
theorem cutV_length (xs:List V) (lo hi:Option Int):(cutV xs lo hi).length≤xs.length:=by
  unfold cutV
  rw [List.length_take,List.length_drop]
  omega
inductive J_rSlT (K:PySem.W.Frag) (x:V) (lo:Option Int) (hi:Option Int) (H:Hp) (Q:VK):Prop
  | mk:∀ a xs,(x = .ref a)→(SqT K H a xs)→(¬ (HT.sIx xs.length 0 lo=0∧HT.sIx xs.length xs.length hi=xs.length))→(∀ p,H p=none→Q (.ref p) (upd H p (.tup (cutV xs lo hi))))→J_rSlT K x lo hi H Q
noncomputable def rSlT (K:PySem.W.Frag):V→Option Int→Option Int→Hp→VK→Prop:=fun x lo hi H Q=>J_rSlT K x lo hi H Q
theorem sl_tup:SlR X (rSlT X.K):=by
  intro pins s σ H x v vl vu lo hi sl Q I rx hs pl pu h
  obtain ⟨a,xs,rfl,hx,hw,q⟩:=h
  cases rx
  obtain ⟨its,r,ht,hz⟩:=I.tuple hx
  have hlen:its.toArray.size=xs.length:=by rw [List.size_toArray];exact r.length.symm
  refine ⟨"tuple",_,PyProof.Rows.slot_tuple_getitem.lookup,ht.typeIs,?_⟩
  refine HT.getItem_tuple_cut ht hs pl pu (by rw [hlen];exact hw) ?_ (by rw [hlen];exact hz)
  rw [hlen]
  refine ⟨.ref s.heap.objs.size,_,I.laid (t':=s.toks) (o := .tup (cutV xs lo hi)) (fun b ob q=>Heap.get?_push_of_some _ q) (Nat.le_refl _) ?_,rfl,q _ (I.hok.fresh (Nat.le_refl _))⟩
  exact ⟨Nat.le_trans (cutV_length xs lo hi) hz,_,(r.drop (HT.sIx xs.length 0 lo)).take (HT.sIx xs.length xs.length hi - HT.sIx xs.length 0 lo),IsTupN.new _ _⟩

end
end L2

namespace L2
open PySem PySem.Spec PyProof.Rows

noncomputable def ixN (n:Nat) (i:Int):Option Nat:=if 0≤i then (if i < n then some i.toNat else none) else if -(n:Int)≤i then some (i+n).toNat else none
noncomputable def atI {α : Type} (xs:List α) (i:Int):Option α := (ixN xs.length i).bind fun j=>xs[j]?
theorem ixN_seq {n:Nat} {i:Int} {j:Nat} (h:ixN n i=some j):seqIndex? i n=some j∧j < n ∧ -(n:Int)≤i∧i < n:=by
  unfold ixN at h
  by_cases h0:0≤i
  · rw [if_pos h0] at h
    by_cases h1:i < n
    · rw [if_pos h1] at h
      have e:i.toNat=j:=Option.some.inj h
      exact ⟨by rw [seqIndex_of h0 h1,e],by omega,by omega,h1⟩
    · rw [if_neg h1] at h;cases h
  · rw [if_neg h0] at h
    by_cases h1 : -(n:Int)≤i
    · rw [if_pos h1] at h
      have e:(i+n).toNat=j:=Option.some.inj h
      exact ⟨by rw [seqIndex_neg (by omega) h1,e],by omega,h1,by omega⟩
    · rw [if_neg h1] at h;cases h
theorem atI_get {α : Type} {xs:List α} {i:Int} {v : α} (h:atI xs i=some v):∃ j,seqIndex? i xs.length=some j∧xs[j]? = some v∧j < xs.length ∧ -(xs.length:Int)≤i∧i < xs.length:=by
  unfold atI at h
  cases e:ixN xs.length i with
  | none=>rw [e] at h;cases h
  | some j =>
    rw [e] at h
    obtain ⟨h1,h2,h3,h4⟩:=ixN_seq e
    exact ⟨j,h1,h,h2,h3,h4⟩
theorem atI_nat {α : Type} {xs:List α} {j:Nat} {v : α} (h:xs[j]? = some v):atI xs (j:Int)=some v:=by
  have hj:j < xs.length:=(List.getElem?_eq_some_iff.mp h).1
  have e:ixN xs.length (j:Int)=some j:=by
    unfold ixN
    rw [if_pos (by omega),if_pos (by omega)];simp
  unfold atI;rw [e];exact h

noncomputable def PlainIx (b:Expr):Prop := ∀ o i,subscripted b false o i=operate [o,i] (getItem o i)
noncomputable def IxR (X:Cx) (r:R2):Prop :=
  ∀ (value slice:Expr) (pins:List (Addr × Obj)) (s:Shared) (σ : St) (H:Hp) (x y:V) (v u:Value) (Q:VK),Inv X pins σ H s→RelV x v→RelV y u→r x y H Q →
    subscripted slice false v u=operate [v,u] (getItem v u)→wpAny (model X.prog X.w) X.A (subscriptTail value slice v u) (EP X pins σ Q) X.xe s
noncomputable def MtR (X:Cx) (id:String) (r:V→List V→Hp→VK→Prop):Prop :=
  ∀ (pins:List (Addr × Obj)) (s:Shared) (σ : St) (H:Hp) (x:V) (xs:List V) (v:Value) (us:List Value) (Q:VK),Inv X pins σ H s→RelV x v→Vals xs us→r x xs H Q →
    wpAny (model X.prog X.w) X.A (call (.builtin id) (v :: us)) (EP X pins σ Q) X.xe s
section
variable {X:Cx} {a b:Expr} {ta tb:TE} {pos:Pos}
theorem pe_ix {r:R2} (hr:IxR X r) (ha:PE X a ta) (hb:PE X b tb) (hs:PlainIx b):PE X (.Subscript a b pos) (tOp r ta tb):=by
  intro pins s σ H Q I h
  exact Subscript_ (binT ha hb I h fun v u s2 x y H2 I2 rx ry q=>hr a b pins s2 σ H2 x y v u Q I2 rx ry q (hs _ _))

inductive RIxL (K:PySem.W.Frag) (x y:V) (H:Hp) (Q:VK):Prop
  | mk (p:Addr) (xs:List V) (i:Int) (v:V) (hx:x = .ref p) (hy:y = .int i) (hS:SqL K H p xs) (he:atI xs i=some v) (q:Q v H):RIxL K x y H Q
noncomputable def rIxL (K:PySem.W.Frag):R2:=fun x y H Q=>RIxL K x y H Q
inductive RIxT (K:PySem.W.Frag) (x y:V) (H:Hp) (Q:VK):Prop
  | mk (p:Addr) (xs:List V) (i:Int) (v:V) (hx:x = .ref p) (hy:y = .int i) (hS:SqT K H p xs) (he:atI xs i=some v) (q:Q v H):RIxT K x y H Q
noncomputable def rIxT (K:PySem.W.Frag):R2:=fun x y H Q=>RIxT K x y H Q
inductive J_rIxS (x:V) (y:V) (H:Hp) (Q:VK):Prop
  | mk:∀ z i c,(x = .str z)→(y = .int i)→(z.length≤sizeLine)→(atI z.cps.toList i=some c)→(Q (.str ⟨#[c]⟩) H)→J_rIxS x y H Q
noncomputable def rIxS:R2:=fun x y H Q=>J_rIxS x y H Q
theorem ix_list:IxR X (rIxL X.K):=by
  intro value slice pins s σ H x y v u Q I rx ry h hs
  obtain ⟨p,xs,i,z,rfl,rfl,hq,he,q⟩:=h
  cases rx
  obtain ⟨t,rfl⟩:=ry
  obtain ⟨its,r,pl,hz⟩:=I.list hq
  obtain ⟨j,h1,h2,h3,h4,h5⟩:=atI_get he
  obtain ⟨w,ew,rw'⟩:=r.get h2
  have hl:=r.length
  have hn:=line63
  have fin:EP X pins σ Q w s:=⟨z,H,I,rw',q⟩
  by_cases h0:0≤i
  · have hj:i.toNat=j:=by
      rw [seqIndex_of h0 h5] at h1
      exact Option.some.inj h1
    exact item_listR pl.isList h0 (by omega) (by rw [hj];simpa using ew) fin hs
  · have hj:(i+(its.toArray.size:Int)).toNat=j:=by
      rw [seqIndex_neg (by omega) h4] at h1
      rw [List.size_toArray, ← hl]
      exact Option.some.inj h1
    exact subscriptTail_builtinR (x:=w) pl.isList.typeIs slot_list_getitem.lookup
      (wpAny_getItem_list_neg (Q:=fun r s'=>r=w∧EP X pins σ Q r s') pl.isList (by omega) (by rw [List.size_toArray] <;> omega) (by omega) (by rw [hj];simpa using ew) ⟨rfl,fin⟩) hs
theorem ix_tup:IxR X (rIxT X.K):=by
  intro value slice pins s σ H x y v u Q I rx ry h hs
  obtain ⟨p,xs,i,z,rfl,rfl,hq,he,q⟩:=h
  cases rx
  obtain ⟨t,rfl⟩:=ry
  obtain ⟨its,r,pl,hz⟩:=I.tuple hq
  obtain ⟨j,h1,h2,h3,h4,h5⟩:=atI_get he
  obtain ⟨w,ew,rw'⟩:=r.get h2
  have hl:=r.length
  have hn:=line63
  have fin:EP X pins σ Q w s:=⟨z,H,I,rw',q⟩
  exact subscriptTail_builtinR (x:=w) pl.typeIs slot_tuple_getitem.lookup
    (getItem_tuple (j:=j) (Q:=fun r s'=>r=w∧EP X pins σ Q r s') pl (by omega) (by omega) (by rw [List.size_toArray, ← hl];exact h1) (by simpa using ew) ⟨rfl,fin⟩) hs
theorem ix_str:IxR X rIxS:=by
  intro value slice pins s σ H x y v u Q I rx ry h hs
  obtain ⟨z,i,c,rfl,rfl,hz,he,q⟩:=h
  obtain ⟨t,rfl⟩:=rx
  obtain ⟨t',rfl⟩:=ry
  obtain ⟨j,h1,h2,h3,h4,h5⟩:=atI_get he
  have hl:z.cps.toList.length=z.length:=by simp [Str.length]
  rw [hl] at h1 h4 h5
  have hn:=line63
  exact tail_any (typeIs_str s z t) slot_str_getitem.lookup (getItem_str (c:=c) (by
    have e1:decide (i < -(2 ^ 63:Int))=false:=decide_eq_false (by omega)
    have e2:decide (i ≥ 2 ^ 63)=false:=decide_eq_false (by omega)
    rw [e1,e2,Bool.or_false]) (by rw [h1];simpa using h2) ⟨.str ⟨#[c]⟩,H,I.tok _,⟨_,rfl⟩,q⟩) hs

theorem mapSeq_set (its:List Value) (n j:Nat) (u:Value):Obj.mapSeq (·.setIfInBounds j u) { cls := .type "list",data := .seq its.toArray n }={ cls := .type "list",data := .seq (its.set j u).toArray n }:=by
  simp [Obj.mapSeq]
theorem Inv.lst {pins:List (Addr × Obj)} {σ : St} {H:Hp} {s:Shared} {p:Addr} {xs:List V} (I:Inv X pins σ H s) (h:H p=some (.lst xs)) :
    ∃ (its:List Value) (n:Nat),Vals xs its∧s.heap.get? p=some { cls := .type "list",data := .seq its.toArray n }∧xs.length≤sizeLine:=by
  obtain ⟨z,its,n,r,e⟩:=I.hok p _ h
  exact ⟨its,n,r,e,z⟩
theorem Inv.lstUpd {pins:List (Addr × Obj)} {σ : St} {H:Hp} {s:Shared} {p:Addr} {xs ys:List V} {its its':List Value} {n n':Nat} {f:Obj→Obj} (I:Inv X pins σ H s) (h:H p=some (.lst xs))
    (ho:s.heap.get? p=some { cls := .type "list",data := .seq its.toArray n }) (hf:f { cls := .type "list",data := .seq its.toArray n }={ cls := .type "list",data := .seq its'.toArray n' }) (r:Vals ys its') (hz:ys.length≤sizeLine) (t:Nat) :
    Inv X pins σ (upd H p (.lst ys)) { s with heap:=s.heap.update p f,toks:=t }:=by
  have e:(s.heap.update p f).get? p=some { cls := .type "list",data := .seq its'.toArray n' }:=by
    rw [Heap.get?_update_self f ho (by rw [hf] <;> rfl),hf]
  refine I.write (x:=p) (e:=p) (by rw [h];trivial) (.inl rfl) (fun b u hb q=>(Heap.get?_update_other _ _ (Ne.symm hb)).trans q) ⟨_,e⟩ ?_
  exact ⟨hz,its',n',r,e⟩
inductive J_rSetL (o:V) (i:V) (v:V) (H:Hp) (Q:Hp→Prop):Prop
  | mk:∀ p xs k j,(o = .ref p)→(i = .int k)→(H p=some (.lst xs))→(ixN xs.length k=some j)→(Q (upd H p (.lst (xs.set j v))))→J_rSetL o i v H Q
noncomputable def rSetL:V→V→V→Hp→(Hp→Prop)→Prop:=fun o i v H Q=>J_rSetL o i v H Q
theorem set_list:PSet X rSetL:=by
  intro pins s σ H o i v ov iv u Q I ro ri rv h
  obtain ⟨p,xs,k,j,rfl,rfl,hp,hj,q⟩:=h
  cases ro
  obtain ⟨t,rfl⟩:=ri
  obtain ⟨its,n,r,ho,hz⟩:=I.lst hp
  obtain ⟨h1,h2,h3,h4⟩:=ixN_seq hj
  have hl:=r.length
  have hn:=line63
  have I':Inv X pins σ (upd H p (.lst (xs.set j v))) { s with heap:=s.heap.update p (Obj.mapSeq (·.setIfInBounds j u)) } :=
    I.lstUpd hp ho (mapSeq_set its n j u) (r.set rv j) (by rw [List.length_set];exact hz) s.toks
  by_cases h0:0≤k
  · have hk:k.toNat=j:=by
      rw [seqIndex_of h0 h4] at h1
      exact Option.some.inj h1
    exact PySem.W.ki_setAt ho h0 (by omega) (by rw [List.size_toArray, ← hl];exact h4) (by rw [hk];exact ⟨_,I',q⟩)
  · have hk:(k+(its.toArray.size:Int)).toNat=j:=by
      rw [seqIndex_neg (by omega) h3] at h1
      rw [List.size_toArray, ← hl]
      exact Option.some.inj h1
    exact PySem.W.ki_setBack ho (by omega) (by rw [List.size_toArray, ← hl];exact h3) (by omega) (by rw [hk];exact ⟨_,I',q⟩)

theorem slice_bounds (lo hi:Option Int) (n:Nat):(sliceBounds lo hi none n).1=((HT.sIx n 0 lo:Nat):Int)∧(sliceBounds lo hi none n).2.1=((HT.sIx n n hi:Nat):Int)∧(sliceBounds lo hi none n).2.2=1:=by
  refine ⟨?_,?_,rfl⟩
  · cases lo with
    | none=>simp [sliceBounds,HT.sIx]
    | some i =>
      simp only [sliceBounds,HT.sIx,Option.getD_none,show (1:Int) > 0 by decide,if_true]
      by_cases h:i < 0
      · simp only [h,if_true] <;> omega
      · simp only [h,if_false] <;> omega
  · cases hi with
    | none=>simp [sliceBounds,HT.sIx]
    | some i =>
      simp only [sliceBounds,HT.sIx,Option.getD_none,show (1:Int) > 0 by decide,if_true]
      by_cases h:i < 0
      · simp only [h,if_true] <;> omega
      · simp only [h,if_false] <;> omega
theorem slicePick_cut (its:List Value) (lo hi:Option Int):slicePick its.toArray lo hi none=((its.drop (HT.sIx its.length 0 lo)).take (HT.sIx its.length its.length hi - HT.sIx its.length 0 lo)).toArray:=by
  obtain ⟨h1,h2,h3⟩:=slice_bounds lo hi its.toArray.size
  unfold slicePick
  rw [h1,h2,h3]
  simp only [sliceRange_one,pick_run,List.size_toArray] <;> rfl
inductive J_rSlL (K:PySem.W.Frag) (x:V) (lo:Option Int) (hi:Option Int) (H:Hp) (Q:VK):Prop
  | mk:∀ a xs,(x = .ref a)→(SqL K H a xs)→(∀ p,H p=none→Q (.ref p) (upd H p (.lst (cutV xs lo hi))))→J_rSlL K x lo hi H Q
noncomputable def rSlL (K:PySem.W.Frag):V→Option Int→Option Int→Hp→VK→Prop:=fun x lo hi H Q=>J_rSlL K x lo hi H Q
theorem sl_list:SlR X (rSlL X.K):=by
  intro pins s σ H x v vl vu lo hi sl Q I rx hs pl pu h
  obtain ⟨a,xs,rfl,hx,q⟩:=h
  cases rx
  obtain ⟨its,r,ht,hz⟩:=I.list hx
  have hlen:=r.length
  refine ⟨"list",_,slot_list_getitem.lookup,ht.isList.typeIs,?_⟩
  refine wpAny_getItem_list_slice ht.isList hs pl pu .none (by simp) ?_ (by rw [List.size_toArray] <;> omega)
  rw [slicePick_cut, ← hlen]
  refine ⟨.ref s.heap.objs.size,_,I.laid (t':=s.toks) (o := .lst (cutV xs lo hi)) (fun b ob q=>Heap.get?_push_of_some _ q) (Nat.le_refl _) ?_,rfl,q _ (I.hok.fresh (Nat.le_refl _))⟩
  exact ⟨Nat.le_trans (cutV_length xs lo hi) hz,_,0,(r.drop (HT.sIx xs.length 0 lo)).take (HT.sIx xs.length xs.length hi - HT.sIx xs.length 0 lo),Heap.get?_push_size _ rfl⟩

noncomputable def flatV:V→Bool
  | .non=>true
  | .bl _=>true
  | .int _=>true
  | .str _=>true
  | _=>false
noncomputable def eqV:V→V→Bool
  | .non,.non=>true
  | .bl a,.bl b=>a == b
  | .bl a,.int b=>(if a then 1 else 0) == b
  | .int a,.bl b=>a == (if b then 1 else 0)
  | .int a,.int b=>a == b
  | .str a,.str b=>a == b
  | _,_=>false
theorem eqAt_V {A:Around} {s:Shared} {y x:V} {u v:Value} (ry:RelV y u) (rx:RelV x v) (fy:flatV y=true) (fx:flatV x=true):SeqAt.EqAt A s u v (eqV y x):=by
  cases y with
  | non =>
    cases ry
    cases x with
    | non=>cases rx;exact SeqAt.EqAt.same _
    | bl b=>cases rx;exact SeqAt.EqAt.none_bool b
    | int b=>obtain ⟨t,rfl⟩:=rx;exact SeqAt.EqAt.none_int b t
    | str b=>obtain ⟨t,rfl⟩:=rx;exact SeqAt.EqAt.none_str b t
    | _=>exact absurd (show false=true from fx) Bool.false_ne_true
  | bl a =>
    cases ry
    cases x with
    | non=>cases rx;exact SeqAt.EqAt.bool_none a
    | bl b=>cases rx;exact SeqAt.EqAt.bool_bool a b
    | int b=>obtain ⟨t,rfl⟩:=rx;exact SeqAt.EqAt.bool_int a b t
    | str b=>obtain ⟨t,rfl⟩:=rx;exact SeqAt.EqAt.bool_str a b t
    | _=>exact absurd (show false=true from fx) Bool.false_ne_true
  | int a =>
    obtain ⟨t',rfl⟩:=ry
    cases x with
    | non=>cases rx;exact SeqAt.EqAt.int_none a t'
    | bl b=>cases rx;exact SeqAt.EqAt.int_bool a t' b
    | int b=>obtain ⟨t,rfl⟩:=rx;exact SeqAt.EqAt.int_int a t' b t
    | str b=>obtain ⟨t,rfl⟩:=rx;exact SeqAt.EqAt.int_str a t' b t
    | _=>exact absurd (show false=true from fx) Bool.false_ne_true
  | str a =>
    obtain ⟨t',rfl⟩:=ry
    cases x with
    | non=>cases rx;exact SeqAt.EqAt.str_none a t'
    | bl b=>cases rx;exact SeqAt.EqAt.str_bool a t' b
    | int b=>obtain ⟨t,rfl⟩:=rx;exact SeqAt.EqAt.str_int a t' b t
    | str b=>obtain ⟨t,rfl⟩:=rx;exact SeqAt.EqAt.str_str a t' b t
    | _=>exact absurd (show false=true from fx) Bool.false_ne_true
  | _=>exact absurd (show false=true from fy) Bool.false_ne_true
noncomputable def eqU (x:V) (u:Value):Bool:=match u with
  | .none=>eqV .non x
  | .bool b=>eqV (.bl b) x
  | .int i _=>eqV (.int i) x
  | .str z _=>eqV (.str z) x
  | _=>false
theorem eqU_of {x y:V} {u:Value} (r:RelV y u) (f:flatV y=true):eqU x u=eqV y x:=by
  cases y with
  | non=>cases r;rfl
  | bl b=>cases r;rfl
  | int i=>obtain ⟨t,rfl⟩:=r;rfl
  | str z=>obtain ⟨t,rfl⟩:=r;rfl
  | _=>exact absurd (show false=true from f) Bool.false_ne_true
theorem any_eqU {x:V}:∀ {xs:List V} {us:List Value},Vals xs us→xs.all flatV=true→us.any (eqU x)=xs.any fun y=>eqV y x
  | _,_,.nil,_=>rfl
  | y :: xs,u :: us,.cons r t,f=>by
    rw [List.all_cons,Bool.and_eq_true] at f
    rw [List.any_cons,List.any_cons,eqU_of r f.1,any_eqU t f.2]
theorem mem_eqAt {A:Around} {s:Shared} {x:V} {v:Value} (rx:RelV x v) (fx:flatV x=true):∀ {xs:List V} {us:List Value},Vals xs us→xs.all flatV=true→∀ u∈us,SeqAt.EqAt A s u v (eqU x u)
  | _,_,.nil,_=>fun u hu=>by cases hu
  | y :: xs,u :: us,.cons r t,f=>fun u' hu=>by
    rw [List.all_cons,Bool.and_eq_true] at f
    rcases List.mem_cons.mp hu with rfl | hu
    · rw [eqU_of r f.1];exact eqAt_V r rx f.1 fx
    · exact mem_eqAt rx fx t f.2 u' hu
noncomputable def inV (x:V) (xs:List V):Bool:=xs.any fun y=>eqV y x
inductive J_rIn (K:PySem.W.Frag) (neg:Bool) (x:V) (y:V) (H:Hp) (Q:VK):Prop
  | mk:∀ p xs,(y = .ref p)→((SqL K H p xs∨SqT K H p xs))→(flatV x=true)→(xs.all flatV=true)→(Q (.bl (if neg then !inV x xs else inV x xs)) H)→J_rIn K neg x y H Q
noncomputable def rIn (K:PySem.W.Frag) (neg:Bool):R2:=fun x y H Q=>J_rIn K neg x y H Q
theorem op_in_seq:OpR X (compareOp .In) (rIn X.K false):=by
  intro pins s σ H x y v u Q I rx ry h
  obtain ⟨p,xs,rfl,hq,fx,fs,q⟩:=h
  cases ry
  rcases hq with hq | hq
  · obtain ⟨its,r,pl,hz⟩:=I.list hq
    refine SeqAt.in_listAt (eqU x) pl.isList (fun w hw=>mem_eqAt rx fx r fs w (by simpa using hw)) ⟨.bl _,H,I,rfl,?_⟩
    rw [show its.toArray.any (eqU x)=its.any (eqU x) by simp,any_eqU r fs]
    exact q
  · obtain ⟨its,r,pl,hz⟩:=I.tuple hq
    refine SeqAt.in_tupleAt (eqU x) pl (fun w hw=>mem_eqAt rx fx r fs w (by simpa using hw)) ⟨.bl _,H,I,rfl,?_⟩
    rw [show its.toArray.any (eqU x)=its.any (eqU x) by simp,any_eqU r fs]
    exact q
theorem op_notIn_seq:OpR X (compareOp .NotIn) (rIn X.K true):=by
  intro pins s σ H x y v u Q I rx ry h
  obtain ⟨p,xs,rfl,hq,fx,fs,q⟩:=h
  cases ry
  rcases hq with hq | hq
  · obtain ⟨its,r,pl,hz⟩:=I.list hq
    refine SeqAt.notIn_listAt (eqU x) pl.isList (fun w hw=>mem_eqAt rx fx r fs w (by simpa using hw)) ⟨.bl _,H,I,rfl,?_⟩
    rw [show its.toArray.any (eqU x)=its.any (eqU x) by simp,any_eqU r fs]
    exact q
  · obtain ⟨its,r,pl,hz⟩:=I.tuple hq
    refine SeqAt.notIn_tupleAt (eqU x) pl (fun w hw=>mem_eqAt rx fx r fs w (by simpa using hw)) ⟨.bl _,H,I,rfl,?_⟩
    rw [show its.toArray.any (eqU x)=its.any (eqU x) by simp,any_eqU r fs]
    exact q

inductive J_len (K:PySem.W.Frag) (xs:List V) (H:Hp) (Q:VK):Prop
  | mk:∀ p ys,(xs = [.ref p])→(SqL K H p ys∨SqT K H p ys)→(Q (.int ys.length) H)→J_len K xs H Q
theorem call_len_seq:CallR X (.builtin "len") (fun xs H Q=>J_len X.K xs H Q):=by
  intro pins s σ H xs us Q I r h
  obtain ⟨p,ys,rfl,hq,q⟩:=h
  obtain ⟨u,rfl,rx⟩:=vals1 r
  cases rx
  have hn:=line63
  rcases hq with hq | hq
  · obtain ⟨its,r',pl,hz⟩:=I.list hq
    have hlen:=r'.length
    exact Calls.call_len_list pl.isList (by simp only [List.size_toArray] <;> omega) ⟨.int ys.length,H,I.tok _,⟨s.toks+1,by rw [List.size_toArray,hlen]⟩,q⟩
  · obtain ⟨its,r',pl,hz⟩:=I.tuple hq
    have hlen:=r'.length
    exact len_tuple pl (by simp only [List.size_toArray] <;> omega) ⟨.int ys.length,H,I.tok _,⟨s.toks+1,by rw [List.size_toArray,hlen]⟩,q⟩
inductive J_call_list_of (kK:PySem.W.Frag) (xs:List V) (H:Hp) (Q:VK):Prop
  | mk:∀ p ys,(xs = [.ref p])→((SqL kK H p ys∨SqT kK H p ys))→(∀ l,H l=none→Q (.ref l) (upd H l (.lst ys)))→J_call_list_of kK xs H Q
theorem call_list_of:CallR X (.type "list") (fun xs H Q=>J_call_list_of X.K xs H Q):=by
  intro pins s σ H xs us Q I r h
  obtain ⟨p,ys,rfl,hq,q⟩:=h
  obtain ⟨u,rfl,rx⟩:=vals1 r
  cases rx
  have fin:∀ (its:List Value),Vals ys its→ys.length≤sizeLine→∀ (h':Heap) (c':Nat),(∀ b o',s.heap.get? b=some o'→h'.get? b=some o') →
      h'.get? s.heap.objs.size=some { cls := .type "list",dict:=none,data := .seq its.toArray c',slots := #[] }→EP X pins σ Q (.ref s.heap.objs.size) { s with heap:=h' }:=fun its r' hz h' c' kp e =>
    ⟨.ref s.heap.objs.size,_,I.laid (t':=s.toks) kp (Nat.le_refl _) (show ObjOk X.prog X.w _ h' _ (.lst ys) from ⟨hz,its,c',r',e⟩),rfl,q _ (I.hok.fresh (Nat.le_refl _))⟩
  rcases hq with hq | hq
  · obtain ⟨its,r',pl,hz⟩:=I.list hq
    have hlen:=r'.length
    obtain ⟨o,ho,hc,n,hd⟩:=pl.isList
    exact call_list_seq p (.inl rfl) ho hc hd (fun h' c' kp e=>fin its r' hz h' c' kp e) (by simp only [List.size_toArray] <;> omega)
  · obtain ⟨its,r',pl,hz⟩:=I.tuple hq
    have hlen:=r'.length
    obtain ⟨o,ho,hc,n,hd⟩:=pl
    exact call_list_seq p (.inr rfl) ho hc hd (fun h' c' kp e=>fin its r' hz h' c' kp e) (by simp only [List.size_toArray] <;> omega)
inductive J_call_tuple_of (kK:PySem.W.Frag) (xs:List V) (H:Hp) (Q:VK):Prop
  | mk:∀ p ys,(xs = [.ref p])→(((SqL kK H p ys∧∀ l,H l=none→Q (.ref l) (upd H l (.tup ys)))∨(SqT kK H p ys∧Q (.ref p) H)))→J_call_tuple_of kK xs H Q
theorem call_tuple_of:CallR X (.type "tuple") (fun xs H Q=>J_call_tuple_of X.K xs H Q):=by
  intro pins s σ H xs us Q I r h
  obtain ⟨p,ys,rfl,h⟩:=h
  obtain ⟨u,rfl,rx⟩:=vals1 r
  cases rx
  rcases h with ⟨hq,q⟩ | ⟨hq,q⟩
  · obtain ⟨its,r',pl,hz⟩:=I.list hq
    have hlen:=r'.length
    refine call_tuple_list pl.isList (fun h' kp => ?_) (by simp only [List.size_toArray] <;> omega)
    have I1:Inv X pins σ H { s with heap:=h' }:=I.kept (t':=s.toks) kp
    have I2:Inv X pins σ (upd H h'.objs.size (.tup ys)) { s with heap:=h'.push { cls := .type "tuple",data := .seq its.toArray } } :=
      I1.laid (t':=s.toks) (fun b o e=>Heap.get?_push_of_some _ e) (Nat.le_refl _) (show ObjOk X.prog X.w _ _ _ (.tup ys) from ⟨hz,its,r',IsTupN.new _ _⟩)
    exact ⟨.ref h'.objs.size,_,I2,rfl,q _ (I1.hok.fresh (Nat.le_refl _))⟩
  · obtain ⟨its,r',pl,hz⟩:=I.tuple hq
    exact call_tuple_same pl ⟨.ref p,H,I,rfl,q⟩

noncomputable def tyV (K:PySem.W.Frag) (T:String) (x:V) (H:Hp):Prop:=match x with
  | .str _=>T = "str"
  | .int _=>T = "int"
  | .ref p=>(T = "list" ∧ ∃ xs,SqL K H p xs)∨(T = "tuple" ∧ ((∃ o,K.lookup p=some o∧o.cls = .type "tuple" ∧ o.dict=none)∨∃ xs,H p=some (.tup xs))) ∨
      (T = "dict" ∧ ((∃ kvs,H p=some (.dK kvs))∨∃ kvs,H p=some (.dT kvs)))∨(T = "set" ∧ ∃ S n,H p=some (.set S n))
  | _=>False
theorem tyV_is {pins:List (Addr × Obj)} {σ : St} {H:Hp} {s:Shared} {T:String} {x:V} {v:Value} (I:Inv X pins σ H s) (r:RelV x v) (ty:tyV X.K T x H) :
    s.TypeIs v T∧∀ a,v = .ref a→∃ ob,s.heap.get? a=some ob∧ob.dict=none:=by
  cases x with
  | str z =>
    obtain ⟨t,rfl⟩:=r
    cases (show T = "str" from ty)
    exact ⟨typeIs_str s z t,fun _ e=>nomatch e⟩
  | int i =>
    obtain ⟨t,rfl⟩:=r
    cases (show T = "int" from ty)
    exact ⟨typeIs_int s i t,fun _ e=>nomatch e⟩
  | ref p =>
    cases r
    rcases ty with ⟨rfl,xs,hq⟩ | ⟨rfl,⟨o,hk,hc,hd⟩ | ⟨xs,hk⟩⟩ | ⟨rfl,hk⟩ | ⟨rfl,S,n,hk⟩
    · obtain ⟨its,_,pl,_⟩:=I.list hq
      refine ⟨pl.isList.typeIs,fun a e => ?_⟩
      cases e
      obtain ⟨o,n,e,c,hd,_⟩:=pl
      exact ⟨o,e,hd⟩
    · refine ⟨⟨o,I.kIn p o hk,hc⟩,fun a e => ?_⟩
      cases e
      exact ⟨o,I.kIn _ o hk,hd⟩
    · obtain ⟨_,_,_,o,e,c,n,d,hd⟩:=I.hok p _ hk
      refine ⟨⟨o,e,c⟩,fun a e2 => ?_⟩
      cases e2
      exact ⟨o,e,hd⟩
    · have z:∃ o,s.heap.get? p=some o∧o.ExactDict:=by
        rcases hk with ⟨kvs,hk⟩ | ⟨kvs,hk⟩
        · obtain ⟨_,_,_,_,o,_,_,e,ex,_⟩:=I.hok p _ hk
          exact ⟨o,e,ex⟩
        · obtain ⟨_,_,_,_,o,_,_,e,ex,_⟩:=I.hok p _ hk
          exact ⟨o,e,ex⟩
      obtain ⟨o,e,ex⟩:=z
      refine ⟨⟨o,e,ex.1⟩,fun a e2 => ?_⟩
      cases e2
      exact ⟨o,e,ex.2.1⟩
    · obtain ⟨o,_,_,_,e,ex,_⟩:=I.hok p _ hk
      refine ⟨⟨o,e,ex.1⟩,fun a e2 => ?_⟩
      cases e2
      exact ⟨o,e,ex.2.1⟩
  | _=>exact False.elim ty
noncomputable def tBM0 (K:PySem.W.Frag) (T:String) (r:V→List V→Hp→VK→Prop) (to:TE):TE:=fun σ H Q=>to σ H fun x H1=>tyV K T x H1∧r x [] H1 Q
noncomputable def tBM (K:PySem.W.Frag) (T:String) (r:V→List V→Hp→VK→Prop) (to:TE) (t:TA):TE:=fun σ H Q=>to σ H fun x H1=>tyV K T x H1∧t σ H1 fun xs H2=>r x xs H2 Q
variable {o e:Expr} {es:List Expr} {to:TE} {t:TA} {name:Str} {apos cpos:Pos} {T id:String} {r:V→List V→Hp→VK→Prop}
theorem pe_bm0 (pa:PlainAttrs T) (slot:Slot T name id) (hty:typeOf (.builtin id)=pure (.type "method_descriptor")) (hm:MtR X id r) (ho:PE X o to)
    (hbase:attributeBase o name X.env (eval o X.env)=eval o X.env:=by rfl) (hline:(apos.endLine == cpos.line)=true:=by rfl):PE X (.Call (.Attribute o name apos) [] [] cpos) (tBM0 X.K T r to):=by
  intro pins s σ H Q I h
  refine wpAny_Call_method0_late hbase hline (thn (ho pins s σ H _ I h) fun v s1 ⟨x,H1,I1,r1,ty,q1⟩ => ?_)
  obtain ⟨h1,h2⟩:=tyV_is I1 r1 ty
  exact ⟨T,id,pa,slot,hty,h1,h2,Calls.callWith_builtin rfl (PySem.evalArgs_none (hm pins s1 σ H1 x [] v [] Q I1 r1 .nil q1))⟩
theorem pe_bm (pa:PlainAttrs T) (slot:Slot T name id) (hty:typeOf (.builtin id)=pure (.type "method_descriptor")) (hm:MtR X id r) (ho:PE X o to) (ha:PA X (e :: es) t)
    (hbase:attributeBase o name X.env (eval o X.env)=eval o X.env:=by rfl)
    (hfew:((backTo cpos (starEach (e :: es) X.env)).all (fun x => !x.1) && (backToKw cpos (keywordEach [] X.env)).all (fun x=>x.1.isSome)
      && decide ((e :: es).length+([]:List Keyword).length+(if ([]:List Keyword).isEmpty then 0 else 1) < 30))=true:=by rfl)
    (hline:(apos.endLine == cpos.line)=true:=by rfl) (hs:starEach (e :: es) X.env=(false,eval e X.env) :: starEach es X.env:=by rfl) (hplain:(backTo cpos (starEach es X.env)).any (·.1)=false:=by rfl) :
    PE X (.Call (.Attribute o name apos) (e :: es) [] cpos) (tBM X.K T r to t):=by
  intro pins s σ H Q I h
  refine wpAny_Call_method_late hbase hfew hline rfl (thn (ho pins s σ H _ I h) fun v s1 ⟨x,H1,I1,r1,ty,q1⟩ => ?_)
  obtain ⟨h1,h2⟩:=tyV_is I1 r1 ty
  refine ⟨T,id,pa,slot,hty,h1,h2,?_⟩
  have hA:=ha cpos pins s1 σ H1 _ I1 q1
  rw [hs] at hA ⊢
  refine Calls.callWith_builtin (by show (false || (backTo cpos (starEach es X.env)).any (·.1))=false;rw [hplain] <;> rfl) (Calls.evalArgs_plain ?_)
  exact thn hA fun us s2 ⟨vs,H2,I2,r2,q2⟩=>hm pins s2 σ H2 x vs v us Q I2 r1 r2 q2
/- xs.append(e),list.index on a module's tuple .. are MtR facts of 06m -/
end
end L2

namespace L2
open PySem PySem.Spec PyProof.Rows

noncomputable def MtM (X:Cx) (id:String) (r:V→List V→Hp→VK→Prop):Prop :=
  ∀ (pins:List (Addr × Obj)) (s:Shared) (σ : St) (H:Hp) (x:V) (xs:List V) (v:Value) (us:List Value) (Q:VK),Inv X pins σ H s→RelV x v→Vals xs us→r x xs H Q →
    wpAny (model X.prog X.w) X.A (call (.builtin id) (v :: us)) (EP X pins σ Q) X.xe s

theorem Vals.one:∀ {x:V} {us:List Value},Vals [x] us→∃ u,us = [u]∧RelV x u
  | _,_,.cons r .nil=>⟨_,rfl,r⟩
theorem Vals.zero:∀ {us:List Value},Vals [] us→us = []
  | _,.nil=>rfl
theorem Vals.dropLast {xs:List V} {us:List Value} (h:Vals xs us):Vals xs.dropLast us.dropLast:=by
  induction h with
  | nil=>exact .nil
  | cons r t ih =>
    cases t with
    | nil=>exact .nil
    | cons q t'=>exact .cons r ih
theorem erase_last {α : Type} (l:List α):l.eraseIdx (l.length - 1)=l.dropLast:=by
  induction l with
  | nil=>rfl
  | cons a r ih =>
    cases r with
    | nil=>rfl
    | cons b r =>
      have e:(a :: b :: r).length - 1=((b :: r).length - 1)+1:=by
        have h1:(a :: b :: r).length=r.length+2:=rfl
        have h2:(b :: r).length=r.length+1:=rfl
        omega
      rw [e,List.eraseIdx_cons_succ,ih]
      all_goals rfl

section
variable {X:Cx} {pins:List (Addr × Obj)} {σ : St} {H:Hp} {s:Shared} {l b:Addr} {xs ys zs:List V}

theorem Inv.lset {its its':List Value} {n:Nat} {f:Array Value→Array Value} {t':Nat} (I:Inv X pins σ H s) (hH:H l=some (.lst xs))
    (e:s.heap.get? l=some { cls := .type "list",data := .seq its.toArray n }) (hf:f its.toArray=its'.toArray) (hv:Vals ys its') (hz:ys.length≤sizeLine) :
    Inv X pins σ (upd H l (.lst ys)) { s with heap:=s.heap.update l (Obj.mapSeq f),toks:=t' }:=by
  have q:=PySem.IsL.update e f
  rw [hf] at q
  refine I.write (x:=l) (e:=l) (by rw [hH];exact trivial) (.inl rfl) (fun b' u hb hu=>(Heap.get?_update_other s.heap (Obj.mapSeq f) (Ne.symm hb)).trans hu) ⟨_,q⟩ ?_
  exact ⟨hz,its',_,hv,q⟩
theorem Inv.lnew {its:List Value} {t':Nat} (I:Inv X pins σ H s) (hv:Vals ys its) (hz:ys.length≤sizeLine) :
    Inv X pins σ (upd H s.heap.objs.size (.lst ys)) { s with heap:=s.heap.push { cls := .type "list",data := .seq its.toArray },toks:=t' } :=
  I.laid (fun _ _ q=>Heap.get?_push_of_some _ q) (Nat.le_refl _) ⟨hz,its,0,hv,Heap.get?_push_size _ rfl⟩
theorem Inv.fresh (I:Inv X pins σ H s):H s.heap.objs.size=none:=I.hok.fresh (Nat.le_refl _)
theorem Inv.lstM (I:Inv X pins σ H s) (hH:H l=some (.lst xs)):xs.length≤sizeLine∧∃ (its:List Value) (n:Nat),Vals xs its∧xs.length=its.length∧s.heap.get? l=some { cls := .type "list",data := .seq its.toArray n }:=by
  obtain ⟨z,its,n,r,e⟩:=I.hok l _ hH
  exact ⟨z,its,n,r,r.length,e⟩

end

section
variable {X:Cx}

inductive J_rAppend (x:V) (vs:List V) (H:Hp) (Q:VK):Prop
  | mk:∀ l xs y,(x = .ref l)→(vs = [y])→(H l=some (.lst xs))→(xs.length < sizeLine)→(Q .non (upd H l (.lst (xs ++ [y]))))→J_rAppend x vs H Q
noncomputable def rAppend:V→List V→Hp→VK→Prop:=fun x vs H Q=>J_rAppend x vs H Q
theorem mt_append:MtM X "list.append" rAppend:=by
  intro pins s σ H x vs v us Q I rx rv h
  obtain ⟨l,xs,y,rfl,rfl,hH,hz,q⟩:=h
  cases rx
  obtain ⟨u,rfl,ru⟩:=rv.one
  obtain ⟨z,its,n,r,hl,e⟩:=I.lstM hH
  refine call_meets F.slot_list_append ⟨_,e,rfl⟩ F.entry_list_append (F.args_list_append_2 _ _) (PySem.list_append l its.toArray n u (by rw [List.size_toArray];omega)) ⟨e,?_⟩
  refine ⟨.non,_,I.lset (its':=its ++ [u]) hH e (by simp) (r.append (.cons ru .nil)) ?_,rfl,q⟩
  rw [List.length_append,List.length_singleton]
  omega


inductive J_rPop (x:V) (vs:List V) (H:Hp) (Q:VK):Prop
  | mk:∀ l xs y,(x = .ref l)→(vs = [])→(H l=some (.lst xs))→(xs[xs.length - 1]? = some y)→(Q y (upd H l (.lst xs.dropLast)))→J_rPop x vs H Q
noncomputable def rPop:V→List V→Hp→VK→Prop:=fun x vs H Q=>J_rPop x vs H Q
theorem mt_pop:MtM X "list.pop" rPop:=by
  intro pins s σ H x vs v us Q I rx rv h
  obtain ⟨l,xs,y,rfl,rfl,hH,hy,q⟩:=h
  cases rx
  have hus:=rv.zero
  subst hus
  obtain ⟨z,its,n,r,hl,e⟩:=I.lstM hH
  obtain ⟨u,hu,ru⟩:=r.get hy
  have hy':its.toArray[its.toArray.size - 1]? = some u:=by
    show its.toArray[its.length - 1]? = some u
    rw [← Array.getElem?_toList, ← hl]
    exact hu
  refine call_meets F.slot_list_pop ⟨_,e,rfl⟩ F.entry_list_pop (F.args_list_pop_1 _) (MeetsSeq.list_pop_last l its.toArray n u hy' (by rw [List.size_toArray];omega)) ⟨e,?_⟩
  refine ⟨y,_,I.lset (its':=its.dropLast) hH e ?_ r.dropLast ?_,ru,q⟩
  · show its.toArray.eraseIdxIfInBounds (its.toArray.size - 1)=its.dropLast.toArray
    rw [List.size_toArray,List.eraseIdxIfInBounds_toArray,erase_last]
  · rw [List.length_dropLast]
    omega




inductive J_rCat (x:V) (y:V) (H:Hp) (Q:VK):Prop
  | mk:∀ l b xs zs,(x = .ref l)→(y = .ref b)→(H l=some (.lst xs))→(H b=some (.lst zs))→(xs.length+zs.length≤sizeLine)→(∀ p,H p=none→Q (.ref p) (upd H p (.lst (xs ++ zs))))→J_rCat x y H Q
noncomputable def rCat:R2:=fun x y H Q=>J_rCat x y H Q
theorem op_cat:OpR X (binaryOp .Add) rCat:=by
  intro pins s σ H x y v u Q I rx ry h
  obtain ⟨l,b,xs,zs,rfl,rfl,hH,hB,hz,q⟩:=h
  cases rx
  cases ry
  obtain ⟨z,its,n,r,hl,e⟩:=I.lstM hH
  obtain ⟨z2,its2,n2,r2,hl2,e2⟩:=I.lstM hB
  refine PySem.P.add_list e e2 ?_ (by rw [List.size_toArray,List.size_toArray];omega)
  have ea:its.toArray ++ its2.toArray=(its ++ its2).toArray:=by simp
  rw [ea]
  exact ⟨.ref _,_,I.lnew (t':=s.toks) (r.append r2) (by rw [List.length_append];omega),rfl,q _ I.fresh⟩

end

section
variable {prog:Program} {w:World} {A:Around} {E:Value→Shared→Prop} {s:Shared}
end

section
variable {X:Cx}
end
end L2

namespace Att
open PySem PySem.W PySem.Calls PyProof.Rows

theorem ints_of_wellAll {P:Params} {h:Heap}:∀ (ns:List Int) (vs:List Value),WellAll P h vs (ns.map WData.int)→IntsAre vs ns:=by
  intro ns
  induction ns with
  | nil =>
    intro vs w
    rw [List.map_nil] at w
    cases w
    exact .nil
  | cons n ns ih =>
    intro vs w
    rw [List.map_cons] at w
    cases w with
    | cons a b =>
      cases a
      exact .cons _ _ (ih _ b)

theorem script_of {l:OpenLaw} {n:Nat} (hn:l.most=some n) {P:Params} {h:Heap} {args:List WData} {vals:List Value}
    (hpre:l.row.toRowW.claim.pre args=true) (hwl:WellAll P h vals args) :
    ∃ a vs ns,vals = [Value.ref a]∧args = [WData.list (ns.map WData.int)]∧h.get? a=some { cls := .type "list",data := .seq vs.toArray }∧IntsAre vs ns∧ns.length≤n:=by
  have hsh:WShape.hasAll [] args [.list .int]=true:=(pre_splitW hpre).1
  have hc:l.pre.holds [] { args:=args }=true:=(pre_splitW hpre).2
  obtain ⟨d,r,rfl,h1,h2⟩:=hasAllW_cons hsh
  obtain rfl:=hasAllW_nil h2
  obtain ⟨xs,rfl,h3⟩:=hasW_list h1
  obtain ⟨ns,rfl⟩:=items_int h3
  have hlen:ns.length≤n:=by
    unfold OpenLaw.pre at hc
    have h4:(WTm.not (.lt (.lit (.int (n:Int))) (.len (.arg 0)))).holds [] { args := [.list (ns.map .int)] }=true:=by
      have h4:=(holds_andW hc).1
      rw [hn] at h4
      exact h4
    have h5:=condW_of h4 (w_not (w_lt w_lit (w_len_list (w_arg rfl))))
    rw [List.length_map] at h5
    refine Nat.le_of_not_lt fun q => ?_
    have q':(n:Int) < ((ns.length:Nat):Int):=by omega
    first
      | (rw [decide_eq_true q'] at h5;exact absurd h5 (by decide))
      | (simp at h5;omega)
  cases hwl with
  | cons w1 w2 =>
    cases w2
    cases w1 with
    | list ho hall=>exact ⟨_,_,ns,rfl,rfl,ho,ints_of_wellAll ns _ hall,hlen⟩

theorem post_true (l:OpenLaw) (args:List WData):l.row.toRowW.claim.post args (.bool true) args=true :=
  postW_of (r:=l.row.toRowW) (X:=(true == true))
    (show WShape.has [] (.bool true) .bool=true by first | rfl | decide | simp [WShape.has,WShape.arms,WShape.armsAll])
    (show (WTm.eq .res (.lit (.bool true))).value [] { args:=args,res:=some (.bool true),after:=args }=some (.bool (true == true)) from w_eq_bool (w_res rfl) w_lit) rfl




section
variable {prog:Program} {w:World} {A:Around} {E:Value→Shared→Prop} {s:Shared} {K:Frag}






end
end Att

namespace L2
open PySem PySem.Spec PyProof.Rows

theorem vals_ints:∀ {vs:List Value} {ns:List Int},IntsAre vs ns→Vals (ns.map V.int) vs
  | _,_,.nil => .nil
  | _,_,.cons n t h => .cons ⟨t,rfl⟩ (vals_ints h)

noncomputable def Only (H:Hp):Prop := ∀ b,H b=none∨∃ o xs,H b=some (.frz o (.lst xs))

theorem law_call {P:Program} {w:World} {K:PySem.W.Frag} {mg mb:Str→Option Value} {CX:CXT} {k:Nat} {fa a:Addr} {fd:FuncData} {x:Str} {sp:Sp} {s₁ : Shared} {vs:List Value} {ns:List Int}
    (KX:K.In s₁.heap) (hns:s₁.heap.Ns mainGlobals mg) (hb:s₁.heap.Ns builtinsNs mb) (hbb:∀ x:Str,x ≠ "__name__" → mb x=bootBuiltins x) (hlim:s₁.heap.NoLimit) (hg:s₁.gens = #[])
    (ha:s₁.heap.get? a=some { cls := .type "list",data := .seq vs.toArray }) (hi:IntsAre vs ns) (hl:ns.length≤sizeLine) (hr:Room k callerA)
    (F:∀ base:Heap,K.In base→base.Ns mainGlobals mg→FnOk P w K mg base CX k fa fd [x] sp) (hbind:∀ (s:Shared) (u:Value),BindsTo s fd ⟨[u], []⟩ [(x,u)])
    (hsp:∀ H:Hp,Only H→SqL K H a (ns.map V.int)→sp [.ref a] H (fun v _=>v = .bl true) fun _ _ _=>False)
    (hCX:∀ H e s',CX [] H s₁ (fun _ _ _=>False) e s'→False) :
    codeAny (model P w) callerA (.call (.ref fa) ⟨[.ref a], []⟩) (fun r s'=>r = .ok (.ret (.bool true))∧OldK s₁.heap s'.heap∧s'.os=s₁.os∧AllBare s'.gens) s₁ := by
  have rv:=vals_ints hi
  have lenV:=hi.length
  -- from an abstract heap in which nothing but the script may be tracked
  have core:∀ H:Hp,Only H→SqL K H a (ns.map V.int)→HOk P w H s₁.heap→(∀ b,H b≠none→b=a)→(H a≠none→K.lookup a=none) →
      codeAny (model P w) callerA (.call (.ref fa) ⟨[.ref a], []⟩) (fun r s'=>r = .ok (.ret (.bool true))∧OldK s₁.heap s'.heap∧s'.os=s₁.os∧AllBare s'.gens) s₁ := by
    intro H hO hS hok hA hK
    have base_of:∀ {b:Addr} {o:Obj},s₁.heap.get? b=some o→H b=none→(hidT s₁.heap H).get? b=some o:=fun e n=>hidT_get e n
    have noA:∀ {b:Addr} {o:Obj} {es:Array DictEntry} {ep:Nat},s₁.heap.get? b=some o→o.data = .dict es ep→H b=none:=fun {b o es ep} e d=>by
      cases q:H b with
      | none=>rfl
      | some u =>
        have e':b=a:=hA b (by rw [q];simp)
        subst e'
        rw [ha] at e;cases e
        have d':Data.seq vs.toArray _=Data.dict es ep:=d
        cases d'
    have nsK:∀ {b:Addr} {m:Str→Option Value},s₁.heap.Ns b m→(hidT s₁.heap H).Ns b m:=fun {b m} ⟨o,es,ep,e,d,r⟩=>⟨o,es,ep,base_of e (noA e d),d,r⟩
    have hKb:K.In (hidT s₁.heap H):=fun b o e=>base_of (KX b o e) (by
      cases q:H b with
      | none=>rfl
      | some u =>
        have e':b=a:=hA b (by rw [q];simp)
        subst e'
        rw [hK (by rw [q];simp)] at e;cases e)
    have hM:Mod K mg (hidT s₁.heap H):=⟨hKb,nsK hns,⟨mb,nsK hb,hbb⟩,let ⟨mc,h1,h2⟩:=hlim; ⟨mc,nsK h1,h2⟩⟩
    have e0:Env0 P w K mg (hidT s₁.heap H) callerA [] s₁ H:=⟨rfl,hM,fun b o e=>of_hidT e,Nat.le_of_eq (hidT_size _ _),trivial,fun b hb=>absurd (show b∈([]:List Addr) from hb) (by simp),hok,.of_eq hg⟩
    refine codeAny_mono ((F _ hKb (nsK hns)).run callerA [] s₁ H ⟨[.ref a], []⟩ [.ref a] [.ref a] _ _ hr e0 (hbind s₁ (.ref a)) (.cons rfl .nil) (hsp H hO hS)) fun r s' h => ?_
    cases r with
    | error e=>exact (hCX H e s' h).elim
    | ok fl =>
      cases fl with
      | next=>exact False.elim h
      | brk=>exact False.elim h
      | cont=>exact False.elim h
      | ret u =>
        obtain ⟨v,H',os,bare,un,hok',r',q⟩:=h
        have q':v = .bl true:=q
        subst q'
        obtain rfl:u=Value.bool true:=r'
        refine ⟨rfl,OldK.of_keep fun b o e => ?_,os,bare⟩
        cases q:H b with
        | none=>exact un.keep b o e q (by intro z;exact absurd (show b∈([]:List Addr) from z) (by simp)) (by simp)
        | some u =>
          rcases hO b with z | ⟨ob,xs,z⟩
          · rw [q] at z;cases z
          · have z2:=un.frzs b ob _ z
            obtain ⟨e1,_⟩:=hok b _ z
            obtain ⟨e2,_⟩:=hok' b _ z2
            rw [e] at e1;cases e1
            exact e2
  cases hk:K.lookup a with
  | some o =>
    -- the script is one of the module's own objects
    have e:=KX a o hk
    rw [ha] at e
    cases e
    refine core (fun _=>none) (fun _ => .inl rfl) (.inr ⟨_,vs.toArray,_,hk,rfl,rfl,rfl,by rw [List.size_toArray,lenV];exact hl,by simpa using rv⟩) (fun b u z=>by have z':(none:Option HO)=some u:=z;cases z') (fun b z=>absurd rfl z) fun z=>absurd rfl z
  | none =>
    refine core (fun b=>if b=a then some (.frz { cls := .type "list",data := .seq vs.toArray } (.lst (ns.map V.int))) else none) (fun b => ?_) (.inl (.inr ⟨{ cls := .type "list",data := .seq vs.toArray },if_pos rfl⟩)) (fun b u z => ?_) (fun b z => ?_) fun _=>hk
    · by_cases hb:b=a
      · exact .inr ⟨_,_,if_pos hb⟩
      · exact .inl (if_neg hb)
    · by_cases hb:b=a
      · have z':=(if_pos hb).symm.trans z
        cases z'
        subst hb
        exact ⟨ha,by rw [List.length_map];exact hl,vs,_,rv,ha⟩
      · have z':=(if_neg hb).symm.trans z
        cases z'
    · by_cases hb:b=a
      · exact hb
      · exact absurd (if_neg hb) z
end L2

namespace L2
open PySem PySem.Spec PyProof.Rows


end L2



namespace L2
open PySem PySem.Spec PyProof.Rows

noncomputable def defArgs (s:Stmt):Arguments:=match s with
  | .FunctionDef _ a _ _ _ _ _ _ _ _=>a
  | _=>{ posonlyargs := [],args := [],vararg:=none,kwonlyargs := [],kw_defaults := [],kwarg:=none,defaults := [] }
noncomputable def defBody (s:Stmt):List Stmt:=match s with
  | .FunctionDef _ _ b _ _ _ _ _ _ _=>b
  | _ => []
noncomputable def defScope (s:Stmt):Scope:=match s with
  | .FunctionDef _ _ _ _ _ _ sc _ _ _=>sc
  | _=>{ kind := .function,names := [],isGenerator:=false,isCoroutine:=false }

noncomputable abbrev CX0:CXT:=fun _ _ _ _ _ _=>False
noncomputable abbrev E0:XK:=fun _ _ _=>False
theorem pass0 {X:Cx}:Passes CX0 X E0:=fun _ _ _ _ _ _ _ h=>h.elim

structure Fun (K:PySem.W.Frag) (x qual:Str) (st:Stmt) (f:Addr) (fd:FuncData):Prop where
  ex:∃ (oc:Value) (od:Option Addr) (kV doc pm:Value) (an:Option Addr) (cdv ct:Value) (osl:Array (Option Value)),
    fd=PySem.W.fnOf x qual (defArgs st) (defBody st) (defScope st) .none kV doc pm an cdv ct∧K.lookup f=some ⟨oc,od,.func fd,osl⟩∧PySem.W.codeIn K cdv qual=true
  kp:PySem.W.keepIn K (.ref f)=true
section
variable {P:Program} {w:World} {K:PySem.W.Frag} {mg:Str→Option Value} {base:Heap}
theorem Fun.ok {x qual:Str} {st:Stmt} {f:Addr} {fd:FuncData} {N ps:List Str} {k:Nat} {sp:Sp} (F:Fun K x qual st f fd) (S:FnScope N ps (defScope st)) (len:∀ vs H Q E,sp vs H Q E→vs.length=ps.length)
    (hbody:∀ (cdv:Value) (A:Around) (outer:List Env) (s:Shared) (H:Hp) (vs:List V) (Q:VK) (E:XK),Room k (A.deeper (envOfC qual (defScope st) s.heap.objs.size f cdv))→sp vs H Q E →
      ∃ t,PSs (cxOf CX0 P w K mg base N qual (defScope st) f cdv A outer s H E).nox (defBody st) t∧t { nx:=fun _ H'=>Q .non H',rt:=Q } (start N vs) H):FnOk P w K mg base CX0 (k+1) f fd ps sp:=by
  obtain ⟨oc,od,kV,doc,pm,an,cdv,ct,osl,rfl,lk,hcd⟩:=F.ex
  refine fn_of lk hcd S len fun A outer s H vs Q E hr hsp => ?_
  obtain ⟨t,h,q⟩:=hbody cdv A outer s H vs Q E hr hsp
  exact ⟨t,h.nox,q⟩
theorem Fun.binds {x qual:Str} {st:Stmt} {f:Addr} {fd:FuncData} {ps:List Str} (F:Fun K x qual st f fd)
    (h:∀ (kV doc pm:Value) (an:Option Addr) (cdv ct:Value) (us:List Value),us.length=ps.length→bindArgs (PySem.W.fnOf x qual (defArgs st) (defBody st) (defScope st) .none kV doc pm an cdv ct) ⟨us, []⟩=pure (ps.zip us)):Binds K fd ps []:=by
  obtain ⟨oc,od,kV,doc,pm,an,cdv,ct,osl,rfl,lk,hcd⟩:=F.ex
  exact .all (h kV doc pm an cdv ct)
theorem fun_mk {x qual:Str} {st:Stmt} {f:Addr} {oc:Value} {od an:Option Addr} {osl:Array (Option Value)} {kV doc pm cdv ct:Value} (l:K.lookup f=some ⟨oc,od,.func (PySem.W.fnOf x qual (defArgs st) (defBody st) (defScope st) .none kV doc pm an cdv ct),osl⟩)
    (c:PySem.W.codeIn K cdv qual=true) (k:PySem.W.keepIn K (.ref f)=true):Fun K x qual st f (PySem.W.fnOf x qual (defArgs st) (defBody st) (defScope st) .none kV doc pm an cdv ct):=⟨⟨oc,od,kV,doc,pm,an,cdv,ct,osl,rfl,l,c⟩,k⟩
end
theorem hu_of {A:Around} {k:Nat} (hr:Room k A):A.units+1 < cLine:=Nat.lt_of_le_of_lt (Nat.add_le_add_left (by decide:1≤64) _) hr.units
theorem small1000 {n:Nat} (h:n≤1000):n < sizeLine:=Nat.lt_of_le_of_lt h (by decide)

section
variable {X:Cx}
theorem pv (i:Nat) {x:Str} {pos:Pos} (hN:X.N[i]? = some x:=by rfl) (hv:Vis X.env.scope x:=by first | exact Or.inl rfl | exact Or.inr (Or.inl rfl) | exact Or.inr (Or.inr rfl)) (hd:(x == ("__debug__" : Str))=false:=by decide)
    (hcd:(x == ("__classdict__" : Str))=false:=by decide):PE X (.Name x pos) (tVar i):=pe_var hN hv hd hcd
end

theorem iteF {A B:Prop} (h:B):if false=true then A else B:=by
  rw [if_neg Bool.false_ne_true]
  exact h
theorem iteT {A B:Prop} (h:A):if true=true then A else B:=by
  rw [if_pos rfl]
  exact h

noncomputable def Same (H H':Hp):Prop := ∀ b o,H b=some o→H' b=some o
theorem Same.refl (H:Hp):Same H H:=fun _ _ h=>h
theorem Same.trans {H H1 H2:Hp} (a:Same H H1) (b:Same H1 H2):Same H H2:=fun c o h=>b c o (a c o h)
theorem Same.free {H H':Hp} (e:Same H H') {l:Addr} (h:H' l=Option.none):H l=Option.none:=by
  cases q:H l with
  | none=>rfl
  | some o =>
    rw [e l o q] at h
    cases h
theorem Same.seq {K:PySem.W.Frag} {H H':Hp} {a:Addr} {xs:List V} (e:Same H H') (h:SqL K H a xs):SqL K H' a xs:=by
  rcases h with (h | ⟨o,h⟩) | h
  · exact .inl (.inl (e _ _ h))
  · exact .inl (.inr ⟨o,e _ _ h⟩)
  · exact .inr h

end L2
namespace L2
open PySem PySem.Spec PyProof.Rows

section
variable {X:Cx} {pins:List (Addr × Obj)} {σ : St} {H:Hp} {s:Shared} {h':Heap}
theorem Inv.turnedLaid {ch:List Addr} {a:Addr} {o:HO} {t':Nat} (I:Inv X pins σ H s) (k:∀ b u,b ∉ ch→s.heap.get? b=some u→h'.get? b=some u)
    (hch:∀ b∈ch,FpOk X pins H b) (hp:s.heap.objs.size≤a) (new:ObjOk X.prog X.w (upd H a o) h' a o):Inv X pins σ (upd H a o) { s with heap:=h',toks:=t' }:=by
  have hfr:H a=none:=I.hok.fresh hp
  have old:∀ b ob,s.heap.get? b=some ob→b≠a:=fun b ob e z=>by subst z;exact absurd (Nat.lt_of_lt_of_le (Heap.lt_size e) hp) (Nat.lt_irrefl _)
  have tr:∀ b u,H b=some u→b≠a:=fun b u e z=>by rw [z,hfr] at e;cases e
  have trc:∀ b u,H b=some u→b ∉ ch:=fun b u e z=>by rw [(hch b z).1] at e;cases e
  refine I.step (g':=s.gens) (d':=s.drawn) (ch:=ch) (fun b hb => ?_) (fun b ob _ _ hc e _=>k b ob hc e) (fun b ob _ _ hc e _=>⟨ob.slots,k b ob hc e⟩) (fun b ob _ e n => ?_)
    (fun b ob hc e=>⟨ob,k b ob hc e⟩) (fun b xs e => ?_) (fun b ob u e => ?_) (fun b ps e=>⟨#[],?_⟩) (fun m hm => ?_) (fun b u e => ?_) I.bare
  · obtain ⟨_,f1,_,f3,f4,f5⟩:=hch b hb
    exact ⟨f3,f1,f4,f5⟩
  · rw [upd_ne (old b ob e)];exact n
  · rw [upd_ne (tr b _ e)];exact e
  · rw [upd_ne (tr b _ e)];exact e
  · rw [upd_ne (tr b _ e),e];simp
  · obtain ⟨ob,es,ep,ho,r⟩:=hm
    exact ⟨ob,es,ep,k _ ob (fun z=>(hch _ z).2.1 rfl) ho,r⟩
  · by_cases hb:b=a
    · subst hb
      rw [upd_same] at e;cases e
      exact new
    · rw [upd_ne hb] at e
      refine (I.hok b u e).stay (fun c v hc q=>k c v ?_ q) (fun c q=>by rw [upd_ne (tr c _ q)];exact q) fun c xs q=>by rw [upd_ne (tr c _ q)];exact q
      rcases hc with z | z
      · rw [z];exact trc b u e
      · exact trc c _ z
end

noncomputable def Ite (K:PySem.W.Frag) (a:Addr):It :=
  ⟨fun i H=>∃ xs x,SqL K H a xs∧xs[i]? = some x,
   fun i H x H'=>∃ p v,H p=none∧x = .ref p∧(∀ xs,SqL K H a xs→xs[i]? = some v)∧H'=upd H p (.tup [.int (i:Int),v]),
   fun i H=>∃ xs,SqL K H a xs∧xs.length=i⟩
theorem turn_enum {P:Program} {w:World} {K:PySem.W.Frag} {elts:List Expr} {k:Nat} {tp:Pos} (a e it:Addr) (hne:e≠it) :
    Turn P w K (.Tuple elts k tp) (Ite K a) [e,it] e (fun i h=>(∃ old,IsEnum h e it (i:Int) old)∧h.IsListIter it a i) where
  mem:=by simp
  obj:=fun i h st b hb=>by
    obtain ⟨⟨old,he⟩,hit⟩:=st
    rcases List.mem_cons.mp hb with rfl | hb
    · exact ⟨_,he,fun v z=>by
        have z':Data.fields _=Data.cell v:=z
        cases z'⟩
    · have e:b=it:=by simpa using hb
      subst e
      obtain ⟨o,e,c,d⟩:=hit
      exact ⟨o,e,fun v z=>by rw [d] at z;cases z⟩
  keep:=fun i h h' st k=>by
    obtain ⟨⟨old,he⟩,hit⟩:=st
    exact ⟨⟨old,k e (by simp) _ he⟩,hit.at fun o q=>k it (by simp) o q⟩
  item:=by
    intro X hP hw hK hc i pins s σ H E I hf st hg
    subst hP hw hK
    obtain ⟨⟨old,he⟩,hit⟩:=st
    obtain ⟨xs,x,hq,hx⟩:=hg
    obtain ⟨its,rv,p,hz⟩:=I.list hq
    obtain ⟨u,hu,ru⟩:=rv.get hx
    have hai:a≠it:=fun z=>by
      obtain ⟨o,n,e1,c1,_⟩:=p
      obtain ⟨o',e2,c2,_⟩:=hit
      rw [z,e2] at e1;cases e1
      rw [c1] at c2
      exact absurd (Value.type.inj c2) (by decide)
    have hae:a≠e:=fun z=>by
      obtain ⟨o,n,e1,c1,_⟩:=p
      rw [z,he] at e1;cases e1
      exact absurd (Value.type.inj c1) (by decide)
    have hlt:i < its.toArray.size:=by
      rw [List.size_toArray]
      exact (List.getElem?_eq_some_iff.mp hu).1
    have hel:e < s.heap.objs.size:=Heap.lt_size he
    have hil:it < s.heap.objs.size:=by obtain ⟨o,q,_⟩:=hit;exact Heap.lt_size q
    refine wpAny_pyNext_enum_itemD (Draws.list (A:=X.A.in1) (I.ok.hd hc) it a hai its.toArray) he ⟨hit,p.isList⟩ hlt hne (by
      intro z
      rcases List.mem_cons.mp z with z | z
      · exact hne z
      · exact hae (List.mem_singleton.mp z).symm) fun y h1 tk hy ho hs1 hT hsz hk => ?_
    have hyu:y=u:=by
      have e1:its[i]? = some y:=by simpa using hy
      rw [hu] at e1
      exact (Option.some.inj e1).symm
    subst hyu
    refine ⟨_,rfl,wpAny_letOwnedTupleGo_enum ho fun h2 he2 hs2 => ?_⟩
    have kk:∀ b o,b ∉ [e,it]→s.heap.get? b=some o→h2.get? b=some o:=fun b o hb q=>by
      have b1:b≠e:=fun z=>hb (by simp [z])
      have b2:b≠it:=fun z=>hb (by simp [z])
      exact (hs2.2 b b1).trans (hk b o b1 b2 q)
    have hTe:s.heap.objs.size≠e:=Nat.ne_of_gt hel
    refine ⟨.ref s.heap.objs.size,upd H s.heap.objs.size (.tup [.int (i:Int),x]),?_,rfl,⟨_,x,I.hok.fresh (Nat.le_refl _),rfl,fun ys hy=>by rw [I.list_inj hy hq];exact hx,rfl⟩,
      ⟨⟨_,by simpa using he2⟩,hs1.1.at fun o q=>(hs2.2 it (Ne.symm hne)).trans q⟩,fun b hb => ?_⟩
    · refine I.turnedLaid (ch := [e,it]) (t':=tk+1) kk hf (Nat.le_refl _) ⟨by show 2≤sizeLine;decide, [.int (i:Int) tk,y],.cons ⟨_,rfl⟩ (.cons ru .nil),?_⟩
      exact ⟨_,(hs2.2 _ hTe).trans hT,rfl,_,rfl,rfl⟩
    · have hb':=hf b hb
      have:b≠s.heap.objs.size:=by
        rcases List.mem_cons.mp hb with rfl | hb
        · exact Nat.ne_of_lt hel
        · rw [List.mem_singleton.mp hb];exact Nat.ne_of_lt hil
      rw [upd_ne this]
      exact hb'.1
  done:=by
    intro X hP hw hK hc i pins s σ H E I hf st hg
    subst hP hw hK
    obtain ⟨⟨old,he⟩,hit⟩:=st
    obtain ⟨xs,hq,hx⟩:=hg
    obtain ⟨its,rv,p,hz⟩:=I.list hq
    have hai:a≠it:=fun z=>by
      obtain ⟨o,n,e1,c1,_⟩:=p
      obtain ⟨o',e2,c2,_⟩:=hit
      rw [z,e2] at e1;cases e1
      rw [c1] at c2
      exact absurd (Value.type.inj c2) (by decide)
    have hl:=rv.length
    have hi:i=its.toArray.size:=by rw [List.size_toArray];omega
    subst hi
    obtain ⟨f0,f1,f2,f3,f4,f5⟩:=hf it (by simp)
    exact wpAny_pyNext_enum_endD (Draws.list (A:=X.A.in1) (I.ok.hd hc) it a hai its.toArray) he ⟨hit,p.isList⟩ fun h1 eb=>⟨rfl,I.turned (t':=s.toks) (fun b o hb q=>eb b o hb q) f0 f1 f3 f4 f5⟩
  self:=fun _ _ _ _ _ st h=>by
    obtain ⟨⟨old,he⟩,_⟩:=st
    exact wpAny_pyIter_enum he h
inductive J_iEnum (K:PySem.W.Frag) (R:It→Hp→Prop) (vs:List V) (H1:Hp):Prop
  | mk:∀ a,(vs = [.ref a])→((∃ xs,SqL K H1 a xs))→(R (Ite K a) H1)→J_iEnum K R vs H1
noncomputable def iEnum (K:PySem.W.Frag) (ta:TA):TI:=fun σ H R=>ta σ H fun vs H1=>J_iEnum K R vs H1
theorem boot_enum:bootBuiltins "enumerate" = some (.type "enumerate"):=by decide +kernel
section
variable {X:Cx}
theorem pi_enum {l:Expr} {ta:TA} {elts:List Expr} {k:Nat} {tp p pos:Pos} (hg:Gl X "enumerate") (hm:X.mg "enumerate" = none) (ha:PA X [l] ta) (hs:starEach [l] X.env = [(false,eval l X.env)]:=by rfl) :
    PI X (.Tuple elts k tp) (.Call (.Name "enumerate" p) [l] [] pos) (iEnum X.K ta):=by
  intro pins s σ H R I h
  refine Call_ (ld_blt I hg hm boot_enum (PyProof.Rows.callWith_type1 (thn (ha pos pins s σ H _ I h) fun us s1 ⟨vs,H1,I1,r1,q1⟩ => ?_) hs rfl))
  obtain ⟨a,e,⟨xs,hq⟩,q⟩:=q1
  subst e
  obtain ⟨u,rfl,ru⟩:=vals1 r1
  cases ru
  obtain ⟨its,rv,pl,hz⟩:=I1.list hq
  refine call_enumerate_list pl.isList fun h1 he hit hsz hk => ?_
  have I2:Inv X pins σ H1 { s1 with heap:=h1 }:=I1.kept (t':=s1.toks) hk
  have hne:s1.heap.objs.size+1≠s1.heap.objs.size:=Nat.succ_ne_self _
  refine wpAny_pyIter_enum (s := { s1 with heap:=h1 }) he ⟨_, [s1.heap.objs.size+1,s1.heap.objs.size],_,_,H1,rfl,I2,turn_enum a _ _ hne,⟨⟨_,he⟩,hit⟩,fun b hb => ?_,q⟩
  rcases List.mem_cons.mp hb with rfl | hb
  · exact I1.fpOk (Nat.le_succ _) (I1.hok.fresh (Nat.le_succ _))
  · rw [List.mem_singleton.mp hb]
    exact I1.fpOk (Nat.le_refl _) (I1.hok.fresh (Nat.le_refl _))

end

theorem for_enum {K:PySem.W.Frag} {a:Addr} {xs:List V} {g:TG} {tb:TS} {D:Ends} {σ : St} {H:Hp} (Pv:Nat→St→Hp→Prop) (h0:Pv 0 σ H) (hl:∀ i σ H,i≤xs.length→Pv i σ H→SqL K H a xs)
    (hs:∀ i x p σ H,xs[i]? = some x→Pv i σ H→H p=none→g (.ref p) σ (upd H p (.tup [.int (i:Int),x])) fun σ2 H2=>tb { D with nx:=Pv (i+1),ct:=Pv (i+1),bk:=D.nx } σ2 H2) (hd:∀ σ H,Pv xs.length σ H→D.nx σ H) :
    ∃ W:Nat→Nat→St→Hp→Prop,(∃ m,W 0 m σ H)∧∀ i m σ H,W i m σ H →
      ((Ite K a).stop i H∧D.nx σ H)∨((Ite K a).go i H∧∃ N:St→Hp→Prop,(∀ σ' H',N σ' H'→∃ m',m' < m∧W (i+1) m' σ' H')∧∀ x H',(Ite K a).yld i H x H'→g x σ H' fun σ2 H2=>tb { D with nx:=N,ct:=N,bk:=D.nx } σ2 H2):=by
  refine ⟨fun i m σ H=>m=xs.length - i∧i≤xs.length∧Pv i σ H,⟨xs.length,by simp,Nat.zero_le _,h0⟩,?_⟩
  rintro i m σ H ⟨rfl,hi,p⟩
  have q:=hl i σ H hi p
  by_cases hlt:i < xs.length
  · refine .inr ⟨⟨xs,xs[i],q,by simp [hlt]⟩,Pv (i+1),fun σ' H' p'=>⟨xs.length - (i+1),by omega,rfl,hlt,p'⟩,fun x H' y => ?_⟩
    obtain ⟨pa,v,hpa,rfl,hv,rfl⟩:=y
    exact hs i v pa σ H (hv xs q) p hpa
  · have e:i=xs.length:=by omega
    subst e
    exact .inl ⟨⟨xs,q,rfl⟩,hd σ H p⟩

section
variable {X:Cx}
theorem foldl_cps (a:Array Nat):∀ (k:Nat) (acc:Array Nat),((List.replicate k a).foldl (· ++ ·) acc).toList=acc.toList ++ (List.replicate k a.toList).flatten
  | 0,acc=>by simp
  | k+1,acc=>by
    rw [List.replicate_succ,List.foldl_cons,foldl_cps a k,List.replicate_succ,List.flatten_cons,Array.toList_append,List.append_assoc]
noncomputable def timesS (z:Str) (n:Nat):Str:=⟨(List.replicate n z.cps.toList).flatten.toArray⟩
theorem timesS_len (z:Str) (n:Nat):(timesS z n).length=n * z.length:=by
  unfold timesS Str.length
  simp [List.length_flatten]
inductive J_op_mul_str (x:V) (y:V) (H:Hp) (Q:VK):Prop
  | mk:∀ z n,(x = .str z)→(y = .int n)→(1≤n)→(n≤1000)→(z.length≤1000)→(Q (.str (timesS z n.toNat)) H)→J_op_mul_str x y H Q
theorem op_mul_str:OpR X (binaryOp .Mult) (fun x y H Q=>J_op_mul_str x y H Q):=by
  intro pins s σ H x y v u Q I rx ry h
  obtain ⟨z,n,rfl,rfl,h1,h2,h3,q⟩:=h
  obtain ⟨t,rfl⟩:=rx
  obtain ⟨t',rfl⟩:=ry
  have e0:(⟨(List.replicate n.toNat z.cps).foldl (· ++ ·) #[]⟩:Str)=timesS z n.toNat:=by
    unfold timesS
    congr 1
    apply Array.toList_inj.mp
    rw [foldl_cps]
    simp
  have hlen:(timesS z n.toNat).length≤sizeLine:=by
    rw [timesS_len]
    have:n.toNat≤1000:=by omega
    have:=Nat.mul_le_mul this h3
    exact Nat.le_trans this (by decide)
  have e1:(n == 1 || z.length == 0)=true→timesS z n.toNat=z:=fun hc=>by
    unfold timesS
    rcases Bool.or_eq_true_iff.mp hc with hc | hc
    · have:n=1:=by simpa using hc
      subst this
      simp
    · have hz:z.length=0:=by simpa using hc
      have hz':z.cps = #[]:=Array.eq_empty_of_size_eq_zero hz
      cases z with
      | mk c =>
        simp only at hz'
        subst hz'
        simp
  refine PySem.P.mul_str (by
      have h1':¬ n < -(2 ^ 63:Int):=by omega
      have h2':¬ n ≥ 2 ^ 63:=by omega
      rw [decide_eq_false h1',decide_eq_false h2'];rfl) (fun _ _ => ?_) (fun _ _ => ?_) ?_
  · have e:((2:Int) ^ 63 - 1)=9223372036854775807:=by decide
    rw [e]
    have h4:(1000:Int)≤(9223372036854775807:Int) / n:=by
      refine (Int.le_ediv_iff_mul_le (by omega)).mpr ?_
      omega
    omega
  · unfold Builtin.Str.tooLong
    rw [timesS_len] at hlen
    exact decide_eq_false (by rw [Nat.mul_comm];omega)
  · rw [if_neg (by omega)]
    by_cases hc:(n == 1 || z.length == 0)=true
    · rw [if_pos hc]
      exact ⟨.str z,H,I,⟨_,rfl⟩,by rw [e1 hc] at q;exact q⟩
    · rw [if_neg hc]
      exact ⟨by rw [e0];exact hlen,⟨.str _,H,I.tok _,⟨_,rfl⟩,by rw [e0];exact q⟩⟩
inductive J_call_sumL (kK:PySem.W.Frag) (xs:List V) (H:Hp) (Q:VK):Prop
  | mk:∀ (p:Addr) (ns:List Int),(xs = [.ref p])→(SqL kK H p (ns.map V.int))→(Q (.int ns.sum) H)→J_call_sumL kK xs H Q
theorem call_sumL (hc:X.calm=true):CallR X (.builtin "sum") (fun xs H Q=>J_call_sumL X.K xs H Q):=by
  intro pins s σ H xs us Q I r h
  obtain ⟨p,ns,rfl,hq,q⟩:=h
  obtain ⟨u,rfl,ru⟩:=vals1 r
  cases ru
  obtain ⟨its,rv,pl,hz⟩:=I.list hq
  have hi:IntsAre its ns:=intsAre_of rv
  obtain ⟨ys,hx⟩:=hi.allInts.items
  have hl':s.heap.IsList p (intItems ys):=hx ▸ pl.isList
  refine sum_intListG (I.ok.hd hc) hl' fun h' tk t' hk => ?_
  have e1:ns=ys.toList.map (·.1):=by
    rw [← nums_intItems, ← hx]
    exact (show numsOf its.toArray.toList=ns from hi.numsOf).symm
  have e2:preSum (numAt ys) ys.size=ns.sum:=by
    rw [preSum_eq,List.take_of_length_le (by simp),e1]
  exact ⟨.int ns.sum,H,I.kept hk,⟨t',by rw [e2]⟩,q⟩
inductive J_call_isT (kK:PySem.W.Frag) (xs:List V) (H:Hp) (Q:VK):Prop
  | mk:∀ x T t b,(xs = [x,.ty T])→(TyOf kK H x t)→(PySem.W.kitOne kK t (.type T)=some b)→(Q (.bl b) H)→J_call_isT kK xs H Q
theorem call_isT:CallR X (.builtin "isinstance") (fun xs H Q=>J_call_isT X.K xs H Q):=by
  intro pins s σ H xs us Q I r h
  obtain ⟨x,T,t,b,rfl,ty,e,q⟩:=h
  obtain ⟨u,w',rfl,rx,ry⟩:=vals2 r
  cases ry
  exact isinst_ok I rx ty e fun tk=>⟨.bl b,H,I.tok _,rfl,q⟩
end
end L2
namespace L2
open PySem PySem.Spec PyProof.Rows

noncomputable def capsOf (cells:List (Str × Addr)):List (Str × NameKind)→List (Str × Addr)→List (Str × Addr)
  | [],acc=>acc
  | (n,k) :: r,acc=>if k == .free then (match cells.lookup n with | some c=>capsOf cells r ((n,c) :: acc) | none=>capsOf cells r acc) else capsOf cells r acc
theorem capsOf_cells {cells:List (Str × Addr)}:∀ {names:List (Str × NameKind)} {acc:List (Str × Addr)} {x:Str} {c:Addr},(∀ x c,acc.lookup x=some c→cells.lookup x=some c)→(capsOf cells names acc).lookup x=some c→cells.lookup x=some c
  | [],_,x,c,ha,h=>ha x c h
  | (n,k) :: r,acc,x,c,ha,h=>by
    unfold capsOf at h
    by_cases hk:(k == NameKind.free)=true
    · rw [if_pos hk] at h
      cases e:cells.lookup n with
      | none =>
        rw [e] at h
        exact capsOf_cells ha h
      | some d =>
        rw [e] at h
        refine capsOf_cells (fun y z hy => ?_) h
        rw [List.lookup_cons] at hy
        cases q:y == n with
        | true =>
          rw [q] at hy
          have:y=n:=by simpa using q
          rw [this,e];exact hy
        | false =>
          rw [q] at hy
          exact ha y z hy
    · rw [if_neg hk] at h
      exact capsOf_cells ha h
theorem capsOf_acc {cells:List (Str × Addr)}:∀ {names:List (Str × NameKind)} {acc:List (Str × Addr)} {x:Str},(acc.lookup x).isSome=true→((capsOf cells names acc).lookup x).isSome=true
  | [],_,_,h=>h
  | (n,k) :: r,acc,x,h=>by
    unfold capsOf
    by_cases hk:(k == NameKind.free)=true
    · rw [if_pos hk]
      cases e:cells.lookup n with
      | none=>exact capsOf_acc h
      | some d =>
        refine capsOf_acc ?_
        rw [List.lookup_cons]
        cases q:x == n with
        | true=>rfl
        | false=>exact h
    · rw [if_neg hk];exact capsOf_acc h
theorem capsOf_has {cells:List (Str × Addr)}:∀ {names:List (Str × NameKind)} {acc:List (Str × Addr)} {x:Str},(x,NameKind.free)∈names→(cells.lookup x).isSome=true→((capsOf cells names acc).lookup x).isSome=true
  | [],_,_,h,_=>nomatch h
  | (n,k) :: r,acc,x,h,hc=>by
    unfold capsOf
    rcases List.mem_cons.mp h with e | h
    · cases e
      rw [if_pos (show (NameKind.free == NameKind.free)=true from rfl)]
      cases e:cells.lookup n with
      | none=>rw [e] at hc;cases hc
      | some d =>
        refine capsOf_acc ?_
        rw [List.lookup_cons]
        simp
    · by_cases hk:(k == NameKind.free)=true
      · rw [if_pos hk]
        cases e:cells.lookup n with
        | none=>exact capsOf_has h hc
        | some d=>exact capsOf_has h hc
      · rw [if_neg hk];exact capsOf_has h hc
theorem caps_cells {cells:List (Str × Addr)} {names:List (Str × NameKind)} {x:Str} {c:Addr} (h:(capsOf cells names []).lookup x=some c):cells.lookup x=some c :=
  capsOf_cells (fun _ _ z=>by simp at z) h
theorem forIn_caps {env:Env}:∀ (names:List (Str × NameKind)) (acc:List (Str × Addr)),(∀ y∈names,y.2 = .free→∃ c,env.cells.lookup y.1=some c) →
    (forIn names acc fun x r=>match x with
      | (name,kind)=>if (kind == NameKind.free)=true then (do let c ← cellOf env name;pure (ForInStep.yield ((name,c) :: r))) else pure (ForInStep.yield r):Sem (List (Str × Addr)))=pure (capsOf env.cells names acc)
  | [],acc,_=>rfl
  | (n,k) :: r,acc,h=>by
    have hr:∀ y∈r,y.2 = .free→∃ c,env.cells.lookup y.1=some c:=fun y hy=>h y (List.mem_cons_of_mem _ hy)
    rw [List.forIn_cons]
    by_cases hk:(k == NameKind.free)=true
    · have ek:k = .free:=by simpa using hk
      obtain ⟨c,hc⟩:=h (n,k) List.mem_cons_self ek
      have e1:cellOf env n=pure c:=by
        have hc':env.cells.lookup n=some c:=hc
        unfold cellOf
        rw [hc']
      unfold capsOf
      rw [if_pos hk]
      have hc':env.cells.lookup n=some c:=hc
      rw [hc']
      simp only [hk,if_true,e1]
      exact forIn_caps r ((n,c) :: acc) hr
    · unfold capsOf
      rw [if_neg hk]
      simp only [hk]
      exact forIn_caps r acc hr
theorem closure_caps {scope:Scope} {env:Env} (h:∀ y∈scope.names,y.2 = .free→∃ c,env.cells.lookup y.1=some c):closureFor scope env=pure (capsOf env.cells scope.names []):=by
  have e:=forIn_caps scope.names [] h
  unfold closureFor
  show (Bind.bind (forIn scope.names [] fun x r=>match x with
      | (name,kind)=>if (kind == NameKind.free)=true then (do let c ← cellOf env name;pure (ForInStep.yield ((name,c) :: r))) else pure (ForInStep.yield r):Sem (List (Str × Addr))) fun r=>pure r)=_
  rw [e]
  rfl

theorem relabel_free {scope:Scope} {env:Env} {x:Str} (hc:∀ y∈scope.names,y.2 ≠ .cell) (h:(relabel scope env).names.lookup x=some .cell∨(relabel scope env).names.lookup x=some .free):(x,NameKind.free)∈scope.names:=by
  unfold relabel at h
  simp only at h
  generalize scope.names=names at h hc
  induction names with
  | nil=>rcases h with h | h <;> cases h
  | cons y r ih =>
    obtain ⟨n,k⟩:=y
    have hr:∀ y∈r,y.2≠NameKind.cell:=fun y hy=>hc y (List.mem_cons_of_mem _ hy)
    rw [List.map_cons] at h
    by_cases hk:(k == NameKind.free && env.scope.kind == .function && env.kindOf n == some .cell)=true
    · simp only [hk,if_true,List.lookup_cons] at h
      cases q:x == n with
      | true =>
        have e:x=n:=by simpa using q
        have ek:k = .free:=by
          have:=(Bool.and_eq_true_iff.mp (Bool.and_eq_true_iff.mp hk).1).1
          simpa using this
        rw [e,ek];exact List.mem_cons_self
      | false =>
        rw [q] at h
        exact List.mem_cons_of_mem _ (ih h hr)
    · simp only [hk,Bool.false_eq_true,if_false,List.lookup_cons] at h
      cases q:x == n with
      | true =>
        rw [q] at h
        have e:x=n:=by simpa using q
        have hk0:k ≠ .cell:=hc (n,k) List.mem_cons_self
        rcases h with h | h
        · exact absurd (Option.some.inj h) hk0
        · rw [e,Option.some.inj h];exact List.mem_cons_self
      | false =>
        rw [q] at h
        exact List.mem_cons_of_mem _ (ih h hr)

theorem relabel_of_free {scope:Scope} {env:Env} {x:Str} (h:scope.names.lookup x=some .free):(relabel scope env).names.lookup x=some .cell∨(relabel scope env).names.lookup x=some .free:=by
  unfold relabel
  simp only
  generalize scope.names=names at h
  induction names with
  | nil=>cases h
  | cons y r ih =>
    obtain ⟨n,k⟩:=y
    rw [List.map_cons]
    rw [List.lookup_cons] at h
    by_cases hk:(k == NameKind.free && env.scope.kind == .function && env.kindOf n == some .cell)=true
    · simp only [hk,if_true,List.lookup_cons]
      cases q:x == n with
      | true=>exact .inl rfl
      | false=>rw [q] at h;exact ih h
    · simp only [hk,Bool.false_eq_true,if_false,List.lookup_cons]
      cases q:x == n with
      | true=>rw [q] at h;exact .inr h
      | false=>rw [q] at h;exact ih h

noncomputable def cxComp (X:Cx) (scope:Scope) (N:List Str) (fp:List Addr) (s:Shared) (H:Hp):Cx :=
  { X with N:=N,s₀ := s,H₀ := H,env:=compEnvC scope (capsOf X.env.cells scope.names []) s.heap.objs.size X.env,outer:=X.stack,ex:=fp,fn:=fun _=>false,pn := [],xe:=fun _ _=>False }

structure CompScope (X:Cx) (scope:Scope) (own:List Str) (caps:List (Str × Nat)):Prop where
  kind:scope.kind = .function
  nocell:∀ y∈scope.names,y.2 ≠ .cell
  locs:∀ y∈scope.names,y.2 = .local→scope.names.lookup y.1=some .local
  frees:∀ y∈scope.names,y.2 = .free→X.env.kindOf y.1=some .cell
  own:∀ x∈own,scope.names.lookup x=some .local
  caps:∀ p∈caps,X.N[p.2]? = some p.1∧X.env.kindOf p.1=some .cell∧scope.names.lookup p.1=some .free

noncomputable def capt (σ : St) (caps:List (Str × Nat)):St:=caps.map fun p=>(σ[p.2]?).join
section
variable {X:Cx} {scope:Scope} {own:List Str} {caps:List (Str × Nat)} {pins:List (Addr × Obj)} {σ : St} {H:Hp} {s:Shared} {fp:List Addr}
theorem comp_ok (S:CompScope X scope own caps) (I:Inv X pins σ H s) (hf:∀ b∈fp,FpOk X pins H b) (hl:∀ b∈fp,b < s.heap.objs.size):(cxComp X scope (own ++ caps.map (·.1)) fp s H).Ok where
  mod:=I.ok.mod
  kind:=S.kind
  glob:=I.ok.glob
  blt:=I.ok.blt
  above:=Nat.le_refl _
  inj:=fun x y c h1 h2=>I.ok.inj x y c (caps_cells h1) (caps_cells h2)
  has:=fun x h=>by
    have hm:=relabel_free S.nocell h
    obtain ⟨c,hc⟩:=I.ok.has x (.inl (S.frees _ hm rfl))
    exact Option.isSome_iff_exists.mp (capsOf_has hm (by rw [hc];rfl))
  cab:=fun x c h _=>nomatch h
  hd:=I.ok.hd
  frames:=I.ok.frames
  stk := .inl rfl
  exf:=fun b hb=>⟨Nat.ne_of_lt (hl b hb),fun x c h=>(hf b hb).2.2.2.2.1 x c (caps_cells h)⟩
  bs:=I.bs
  bsz:=Nat.le_trans I.ok.bsz I.sz
  noex:=fun b o e hb=>by
    rcases (hf b hb).2.2.2.1 with z | z
    · exact I.ok.noex b o e z
    · exact absurd (Nat.lt_of_lt_of_le (Nat.lt_of_lt_of_le (Heap.lt_size e) I.ok.bsz) z) (Nat.lt_irrefl _)
  exfs:=fun b hb z=>by
    rcases List.mem_cons.mp (I.stkSub b z) with e | e
    · exact (hf b hb).2.1 e
    · exact (hf b hb).2.2.1 e
  funs:=I.stack
  frf:=I.stkFree
theorem comp_start (S:CompScope X scope own caps) (I:Inv X pins σ H s) (hf:∀ b∈fp,FpOk X pins H b) (hl:∀ b∈fp,b < s.heap.objs.size) {h1:Heap} {m:Str→Option Value} {t:Nat} (hn:h1.Ns s.heap.objs.size m)
    (hk:∀ b o,s.heap.get? b=some o→h1.get? b=some o):Inv (cxComp X scope (own ++ caps.map (·.1)) fp s H) [] (List.replicate own.length none ++ capt σ caps) H { s with heap:=h1,toks:=t }:=by
  refine ⟨comp_ok S I hf hl,rfl,I.bare,Un.kept hk,⟨m,hn,fun i y v e1 e2 e3 => ?_⟩,fun x c e => ?_,I.hok.fresh (Nat.le_refl _),fun x c e=>I.freeC x c (caps_cells e),(fun p hp=>by cases hp),I.hok.kept hk,?_⟩
  · have hi:own.length≤i:=by
      by_cases hi:i < own.length
      · rw [List.getElem?_append_left (by simpa using hi),List.getElem?_replicate,if_pos hi] at e2
        cases e2
      · omega
    rw [List.getElem?_append_right (by simpa using hi),List.length_replicate] at e2
    unfold capt at e2
    rw [List.getElem?_map] at e2
    have e1':(own ++ caps.map (·.1))[i]? = some y:=e1
    rw [List.getElem?_append_right hi,List.getElem?_map] at e1'
    cases q:caps[i - own.length]? with
    | none=>rw [q] at e2;cases e2
    | some p =>
      rw [q] at e1' e2
      have ey:p.1=y:=Option.some.inj e1'
      have ev:(σ[p.2]?).join=some v:=Option.some.inj e2
      have eσ : σ[p.2]? = some (some v):=by
        cases z : σ[p.2]? with
        | none=>rw [z] at ev;cases ev
        | some w'=>rw [z] at ev;rw [show w'=some v from ev]
      obtain ⟨hN,hkind,hfree⟩:=S.caps p (List.mem_of_getElem? q)
      rw [ey] at hN hkind hfree
      obtain ⟨mX,hnX,hlX⟩:=I.loc
      obtain ⟨u,ru,lk⟩:=hlX p.2 y v hN eσ (.inr (.inl hkind))
      refine ⟨u,ru,?_⟩
      rcases lk with ⟨k1,_⟩ | ⟨_,c,hc,hcell⟩
      · rw [hkind] at k1;cases k1
      · have hm:=relabel_free S.nocell (relabel_of_free (env:=X.env) hfree)
        obtain ⟨c',hc'⟩:=Option.isSome_iff_exists.mp (capsOf_has (acc := []) hm (by rw [hc];rfl))
        have:=caps_cells hc'
        rw [hc] at this;cases this
        obtain ⟨o,ho,hd⟩:=hcell
        exact .inr ⟨relabel_of_free (env:=X.env) hfree,c,hc',⟨o,hk _ _ ho,hd⟩⟩
  · obtain ⟨v,o,ho,hd⟩:=I.cell x c (caps_cells e)
    exact ⟨v,o,hk _ _ ho,hd⟩
  · show _=(own ++ caps.map (·.1)).length
    simp [capt]
theorem comp_back {N:List Str} {τ : St} {H':Hp} {s':Shared} (I:Inv X pins σ H s) (J:Inv (cxComp X scope N fp s H) [] τ H' s') (hf:∀ b∈fp,FpOk X pins H b):Inv X pins σ H' s' :=
  I.call' (ch:=fp) J.os J.base J.hok J.bare fun b hb=>by
    obtain ⟨_,f1,_,f3,f4,f5⟩:=hf b hb
    exact ⟨f3,f1,f4,f5⟩
theorem comp_go {prog:Program} {w:World} {A:Around} {R:Result→Shared→Prop} {elt target iter:Expr} {pos:Pos} {it acc:Value} {env:Env} (Iv:Nat→Shared→Prop)
    (turn:∀ n s,Iv n s→wpAny (model prog w) A (pyNext it) (fun r s₁ => match r with
      | none=>R (.ok .next) s₁
      | some v=>wpAny (model prog w) A (letOwnedTupleGo target it v) (fun _ s₂ => wpAny (model prog w) A (assign target env v) (fun _ s₃ => wpAny (model prog w) A (eval elt env) (fun x s₄ =>
              wpAny (model prog w) A (call (.builtin "list.append") [acc,x]) (fun _ s₅ => ∃ m,m < n∧Iv m s₅) (fun _ _=>False) s₄) (fun _ _=>False) s₃) (fun _ _=>False) s₂) (fun _ _=>False) s₁) (fun _ _=>False) s)
    (n:Nat) (h:Iv n s):codeAny (model prog w) A (.compLoop (.ListComp elt [⟨target,iter, [],0⟩] scope pos) 0 it acc env) R s:=by
  refine codeAny_loop rfl Iv (fun n s hI => ?_) n h
  show wpAny _ A ((compTurn (.ListComp elt [⟨target,iter, [],0⟩] scope pos) 0 it acc env).onRaise (fun x=>do noteFrame x env;theTreesLotGoes x)) _ _ s
  refine wpAny_noted ?_
  rw [compTurn_list]
  refine wpAny_bind (wpAny_standAt (wpAny_bind (wpAny_mono (turn n s hI) (fun r s₁ h₁ => ?_) fun _ _ z=>z.elim)))
  cases r with
  | none=>exact wpAny_pure h₁
  | some v =>
    refine wpAny_bind (wpAny_mono h₁ (fun _ s₂ h₂ => wpAny_bind (wpAny_mono h₂ (fun _ s₃ h₃ => wpAny_bind (wpAny_tests_nil ?_)) fun _ _ z=>z.elim)) fun _ _ z=>z.elim)
    exact wpAny_bind (wpAny_bind (wpAny_mono h₃ (fun x s₄ h₄ => wpAny_bind (wpAny_mono h₄ (fun _ s₅ h₅ => wpAny_pure (wpAny_pure ⟨rfl,h₅⟩)) fun _ _ z=>z.elim)) fun _ _ z=>z.elim))

noncomputable def CompBody (J:It) (g:TG) (te:TE) (τ0:St) (H1:Hp) (Q:VK):Prop := ∀ D,H1 D=none→∃ W:Nat→Nat→St→List V→Hp→Prop,
  (∃ m,W 0 m τ0 [] (upd H1 D (.lst []))) ∧
  ∀ i m τ ys H,W i m τ ys H→H D=some (.lst ys)∧((J.stop i H∧Q (.ref D) H)∨(J.go i H∧ys.length < sizeLine∧∀ x H',J.yld i H x H'→g x τ H' fun τ2 H2=>te τ2 H2 fun y H3 =>
    H3 D=some (.lst ys)∧∃ m',m' < m∧W (i+1) m' τ2 (ys ++ [y]) (upd H3 D (.lst (ys ++ [y])))))
noncomputable def tComp (wi:TI) (g:TG) (te:TE) (k:Nat) (caps:List (Str × Nat)):TE:=fun σ H Q=>wi σ H fun J H1=>CompBody J g te (List.replicate k none ++ capt σ caps) H1 Q

theorem comp_core {tg elt iter:Expr} {wi:TI} {g:TG} {te:TE} {pos p2:Pos} {use:Option (Value→Sem Unit)} {Q:VK} {Q':Value→Shared→Prop} (S:CompScope X scope own caps) (hi:PI X tg iter wi) (hc:X.calm=true)
    (hg:∀ fp s H,PG (cxComp X scope (own ++ caps.map (·.1)) fp s H) tg g) (he:∀ fp s H,PE (cxComp X scope (own ++ caps.map (·.1)) fp s H) elt te)
    (I:Inv X pins σ H s) (h:tComp wi g te own.length caps σ H Q)
    (fin:∀ D C H5 s5,Inv X pins σ H5 s5→Q (.ref D) H5→(∃ m,s5.heap.Ns C m)→H5 C=none→C≠X.env.locals→X.s₀.heap.objs.size≤C→(∀ x c,X.env.cells.lookup x=some c→c≠C)→(∀ p∈X.pn ++ pins,p.1≠C) →
      compPost (model X.prog X.w) X.A X.xe use Q' (.ref D) C (.ok .next) s5)
    (hs:∀ x,foldedSetIterable iter X.env x=pure x:=by intro _;rfl) :
    wpAny (model X.prog X.w) X.A (comprehension (.ListComp elt [⟨tg,iter, [],0⟩] scope pos) scope X.env p2 (newList []) false (eval iter X.env) use) Q' X.xe s:=by
  have hclos:closureFor scope X.env=pure (capsOf X.env.cells scope.names []):=closure_caps fun y hy hk=>I.ok.has y.1 (.inl (S.frees y hy hk))
  refine wpAny_comprehension_free (g:=⟨tg,iter, [],0⟩) (gs := []) rfl hs hclos S.kind S.locs (thn (hi pins s σ H _ I h) fun v s1 h1=>thn h1 fun itv s2 h2 => ?_)
  obtain ⟨it,fp,tn,J,H2,e,I2,T,st2,f2,R⟩:=h2
  subst e
  refine wpAny_newObj_type (wpAny_newFunctionEnv S.nocell (by intro y hy;simp at hy) (fun h₁ hns₁ hsb₁ => ?_) S.kind)
  have fr2:H2 s2.heap.objs.size=none:=I2.hok.fresh (Nat.le_refl _)
  obtain ⟨W,⟨m0,w0⟩,turn⟩:=R s2.heap.objs.size fr2
  have I3:Inv X pins σ (upd H2 s2.heap.objs.size (.lst [])) { s2 with heap:=s2.heap.push { cls := .type "list",dict:=none,data := .seq ([]:List Value).toArray } }:=I2.lnew (its := []) (t':=s2.toks) .nil (Nat.zero_le _)
  have lt2:∀ b∈fp,b < s2.heap.objs.size:=fun b hb=>by
    obtain ⟨o,ho,_⟩:=T.obj _ _ st2 b hb
    exact Heap.lt_size ho
  have f3:∀ b∈fp,FpOk X pins (upd H2 s2.heap.objs.size (.lst [])) b:=fun b hb=>⟨by rw [upd_ne (Nat.ne_of_lt (lt2 b hb))];exact (f2 b hb).1,(f2 b hb).2⟩
  generalize hs3:({ s2 with heap:=s2.heap.push { cls := .type "list",dict:=none,data := .seq ([]:List Value).toArray } }:Shared)=s3 at I3
  have hz3:s3.heap.objs.size=s2.heap.objs.size+1:=by rw [← hs3];exact Heap.size_push _ _
  have kp23:∀ b o,s2.heap.get? b=some o→s3.heap.get? b=some o:=fun b o e=>by rw [← hs3];exact Heap.get?_push_of_some _ e
  have lt3:∀ b∈fp,b < s3.heap.objs.size:=fun b hb=>by rw [hz3];exact Nat.lt_succ_of_lt (lt2 b hb)
  have hns₁':h₁.Ns s3.heap.objs.size (fun x=>([]:List (Str × Value)).reverse.lookup x):=by rw [← hs3];exact hns₁
  have kp31:∀ b o,s3.heap.get? b=some o→h₁.get? b=some o:=fun b o e=>by
    have hb:b≠s3.heap.objs.size:=Nat.ne_of_lt (Heap.lt_size e)
    rw [← hs3] at e hb
    exact hsb₁.extBut b o hb (Heap.get?_push_of_some _ e)
  have J1:=comp_start S I3 f3 lt3 (t:=s2.toks+([]:List (Str × Value)).length) hns₁' kp31
  have st1:tn 0 h₁ := T.keep _ _ _ st2 fun b hb o e=>kp31 b o (kp23 b o e)
  -- the loop
  have loop:∀ s₃ : Shared,s₃ = { s3 with heap:=h₁,toks:=s2.toks+([]:List (Str × Value)).length } →
      codeAny (model X.prog X.w) X.A (.compLoop (.ListComp elt [⟨tg,iter, [],0⟩] scope pos) 0 (.ref it) (.ref s2.heap.objs.size) (cxComp X scope (own ++ caps.map (·.1)) fp s3 (upd H2 s2.heap.objs.size (.lst []))).env)
        (compPost (model X.prog X.w) X.A X.xe use Q' (.ref s2.heap.objs.size) s3.heap.objs.size) s₃ := by
    rintro s₃ rfl
    refine comp_go (fun n s'=>∃ i τ ys H',Inv (cxComp X scope (own ++ caps.map (·.1)) fp s3 (upd H2 s2.heap.objs.size (.lst []))) [] τ H' s'∧tn i s'.heap∧(∀ b∈fp,H' b=none)∧W i n τ ys H') ?_ m0
      ⟨0,_, [],_,J1,st1,fun b hb=>(f3 b hb).1,w0⟩
    rintro n s' ⟨i, τ,ys,H',J',st',fr',w'⟩
    have fY:∀ {H'':Hp},(∀ b∈fp,H'' b=none)→∀ b∈fp,FpOk (cxComp X scope (own ++ caps.map (·.1)) fp s3 (upd H2 s2.heap.objs.size (.lst []))) [] H'' b:=fun hn b hb =>
      ⟨hn b hb,Nat.ne_of_lt (lt3 b hb),fun z=>by
          rcases List.mem_cons.mp (I3.stkSub b z) with e | e
          · exact (f3 b hb).2.1 e
          · exact (f3 b hb).2.2.1 e,.inl hb,fun x c e=>(f3 b hb).2.2.2.2.1 x c (caps_cells e),(fun p hp=>by cases hp)⟩
    obtain ⟨hD,tt⟩:=turn i n τ ys H' w'
    rcases tt with ⟨stop,qn⟩ | ⟨go,hlen,step⟩
    · refine thn (T.done (cxComp X scope (own ++ caps.map (·.1)) fp s3 (upd H2 s2.heap.objs.size (.lst []))) rfl rfl rfl hc i [] s' τ H' (fun _ _=>False) J' (fY fr') st' stop) fun r s4 ⟨hr,J4⟩ => ?_
      subst hr
      obtain ⟨m4,hn4,_⟩:=J4.loc
      have I5:=comp_back I3 J4 f3
      refine fin _ _ _ s4 I5 qn ⟨m4,hn4⟩ J4.free ?_ ?_ (fun x c e z => ?_) fun p hp z => ?_
      · exact Nat.ne_of_gt I3.lt
      · exact I3.sz
      · obtain ⟨v,q⟩:=I3.cell x c e
        rw [z] at q
        exact absurd q.lt (Nat.lt_irrefl _)
      · have q:=(I3.pin p hp).1
        rw [z] at q
        exact absurd (Heap.lt_size q) (Nat.lt_irrefl _)
    · refine thn (T.item (cxComp X scope (own ++ caps.map (·.1)) fp s3 (upd H2 s2.heap.objs.size (.lst []))) rfl rfl rfl hc i [] s' τ H' (fun _ _=>False) J' (fY fr') st' go) fun r s4 ⟨u,hr,h4⟩ => ?_
      subst hr
      refine thn h4 fun _ s5 ⟨x,H5,J5,r5,y5,st5,fr5⟩ => ?_
      have J5':=J5.pinned (fY fr5) (T.obj _ _ st5)
      refine thn (hg fp s3 _ _ s5 τ H5 x u _ J5' r5 (step x H5 y5)) fun _ s6 ⟨τ6,H6,J6,q6⟩ => ?_
      refine thn (he fp s3 _ _ s6 τ6 H6 _ J6 q6) fun yv s7 ⟨y,H7,J7,r7,hD7,m',hm',w7⟩ => ?_
      refine thn (mt_append (X:=cxComp X scope (own ++ caps.map (·.1)) fp s3 (upd H2 s2.heap.objs.size (.lst []))) _ s7 τ6 H7 (.ref s2.heap.objs.size) [y] _ [yv] (fun _ H8=>H8=upd H7 s2.heap.objs.size (.lst (ys ++ [y]))) J7 rfl (.cons r7 .nil) ⟨_,ys,y,rfl,rfl,hD7,hlen,rfl⟩) fun _ s8 ⟨_,H8,J8,_,e8⟩ => ?_
      subst e8
      refine ⟨m',hm',i+1, τ6,ys ++ [y],_,J8.unpinned,T.keep _ _ _ st5 fun b hb o e=>(J8.pin (b,o) (List.mem_append_right _ (List.mem_append_right _ (mem_pinsAt hb e)))).1,fun b hb => ?_,w7⟩
      obtain ⟨o,e,d⟩:=T.obj _ _ st5 b hb
      exact (J8.pin (b,o) (List.mem_append_right _ (List.mem_append_right _ (mem_pinsAt hb e)))).2.1
  have hloop:=loop _ rfl
  subst hs3
  exact codeAny_compStart_list hloop (T.self _ 0 _ _ _ st1 hloop)
theorem pe_comp {tg elt iter:Expr} {wi:TI} {g:TG} {te:TE} {pos:Pos} (S:CompScope X scope own caps) (hi:PI X tg iter wi) (hc:X.calm=true)
    (hg:∀ fp s H,PG (cxComp X scope (own ++ caps.map (·.1)) fp s H) tg g) (he:∀ fp s H,PE (cxComp X scope (own ++ caps.map (·.1)) fp s H) elt te)
    (hs:∀ x,foldedSetIterable iter X.env x=pure x:=by intro _;rfl):PE X (.ListComp elt [⟨tg,iter, [],0⟩] scope pos) (tComp wi g te own.length caps):=by
  intro pins s σ H Q I h
  rw [eval_ListComp]
  refine comp_core (use:=none) (Q:=Q) S hi hc hg he I h (fun D C H5 s5 I5 q ⟨m,hn⟩ hC hL hz hcell hpin => ?_) hs
  refine ⟨m,hn,fun h' hs' => ?_⟩
  exact ⟨.ref D,H5,I5.turned (t':=s5.toks) (fun b o hb e=>(hs'.2 b hb).trans e) hC hL (.inr hz) hcell hpin,rfl,q⟩
end
end L2
namespace L2
open PySem PySem.Spec PyProof.Rows

structure Has (P:Program) (w:World) (K:PySem.W.Frag) (mg:Str→Option Value) (base:Heap) (k:Nat) (x:Str) (ps:List Str) (sp:Sp):Prop where
  ex:∃ f fd,FnOk P w K mg base CX0 k f fd ps sp∧mg x=some (.ref f)∧PySem.W.keepIn K (.ref f)=true∧Binds K fd ps []
section
variable {X:Cx} {k k':Nat} {x:Str} {ps:List Str} {sp:Sp} {p pos:Pos} {e:Expr} {es:List Expr} {t:TA}
theorem pe_callH (h:Has X.prog X.w X.K X.mg X.base k x ps sp) (hr:Room k' X.A) (hk:k≤k') (hg:Gl X x) (ha:PA X (e :: es) t) (hdb:(x == ("__debug__" : Str))=false:=by decide)
    (he:starEach (e :: es) X.env=(false,eval e X.env) :: starEach es X.env:=by rfl) (hpl:(backTo pos (starEach es X.env)).any (·.1)=false:=by rfl) :
    PE X (.Call (.Name x p) (e :: es) [] pos) (tCall sp [] E0 t):=by
  obtain ⟨f,fd,F,hm,hkp,hb⟩:=h.ex
  exact pe_call F (hr.mono hk) hg hm hkp hb .nil pass0 ha hdb he hpl
end
structure Def (K:PySem.W.Frag) (mg:Str→Option Value) (x:Str) (st:Stmt) (ps:List Str):Prop where
  ex:∃ f fd,Fun K x x st f fd∧mg x=some (.ref f)∧Binds K fd ps []
theorem Def.has {P:Program} {w:World} {K:PySem.W.Frag} {mg:Str→Option Value} {base:Heap} {x:Str} {st:Stmt} {N ps:List Str} {k:Nat} {sp:Sp} (D:Def K mg x st ps) (S:FnScope N ps (defScope st)) (len:∀ vs H Q E,sp vs H Q E→vs.length=ps.length)
    (hbody:∀ (f:Addr) (cdv:Value) (A:Around) (outer:List Env) (s:Shared) (H:Hp) (vs:List V) (Q:VK) (E:XK),Room k (A.deeper (envOfC x (defScope st) s.heap.objs.size f cdv))→sp vs H Q E →
      ∃ t,PSs (cxOf CX0 P w K mg base N x (defScope st) f cdv A outer s H E).nox (defBody st) t∧t { nx:=fun _ H'=>Q .non H',rt:=Q } (start N vs) H):Has P w K mg base (k+1) x ps sp:=by
  obtain ⟨f,fd,F,hm,hb⟩:=D.ex
  exact ⟨f,fd,F.ok S len (hbody f),hm,F.kp,hb⟩

theorem same_new {H:Hp} {p:Addr} (h:H p=none) (o:HO):Same H (upd H p o):=fun b u q=>by rw [upd_ne (ne_of_none q h)];exact q
theorem Same.tup {K:PySem.W.Frag} {H H':Hp} {a:Addr} {xs:List V} (e:Same H H') (h:SqT K H a xs):SqT K H' a xs:=by
  rcases h with (h | ⟨o,h⟩) | h
  · exact .inl (.inl (e _ _ h))
  · exact .inl (.inr ⟨o,e _ _ h⟩)
  · exact .inr h
theorem Same.put {H0 H:Hp} {p:Addr} {o:HO} (e:Same H0 H) (h:H0 p=none):Same H0 (upd H p o):=fun b u q=>by rw [upd_ne (ne_of_none q h)];exact e b u q

theorem comp_list {K:PySem.W.Frag} {a:Addr} {xs:List V} {te:TE} {σ : St} {caps:List (Str × Nat)} {H:Hp} {Q:VK} (f:V→V) (hS:SqL K H a xs) (hz:xs.length≤1000)
    (hel:∀ x∈xs,∀ H',Same H H'→∀ Q':VK,Q' (f x) H'→te (some x :: capt σ caps) H' Q') (hq:∀ D,H D=none→Q (.ref D) (upd H D (.lst (xs.map f)))) :
    CompBody (Itl K a) (gName 0) te (List.replicate 1 none ++ capt σ caps) H Q:=by
  intro D hD
  refine ⟨fun i m τ ys H'=>m=xs.length - i∧i≤xs.length∧(∃ o, τ = o :: capt σ caps)∧ys=(xs.take i).map f∧H'=upd H D (.lst ys),⟨xs.length,by simp,Nat.zero_le _,⟨none,rfl⟩,by simp,rfl⟩,?_⟩
  rintro i m τ ys H' ⟨rfl,hi,⟨o,rfl⟩,rfl,rfl⟩
  have sm:Same H (upd H D (.lst ((xs.take i).map f))):=same_new hD _
  refine ⟨upd_same,?_⟩
  by_cases hlt:i < xs.length
  · refine .inr ⟨⟨xs,xs[i],sm.seq hS,by simp [hlt]⟩,?_,fun x H'' y => ?_⟩
    · rw [List.length_map,List.length_take]
      exact small1000 (by omega)
    obtain ⟨e,y⟩:=y
    subst e
    have hx:=y xs (sm.seq hS)
    show te (some x :: capt σ caps) _ _
    refine hel x (List.mem_of_getElem? hx) _ sm _ ?_
    refine ⟨upd_same,xs.length - (i+1),by omega,rfl,hlt,⟨_,rfl⟩,?_,?_⟩
    · rw [List.take_add_one,hx,List.map_append];rfl
    · rw [upd_upd]
  · have e:i=xs.length:=by omega
    subst e
    refine .inl ⟨⟨xs,sm.seq hS,Nat.le_refl _⟩,?_⟩
    rw [List.take_length]
    exact hq D hD
noncomputable def checkComp (xsc:Scope) (xN:List Str) (scope:Scope) (own:List Str) (caps:List (Str × Nat)):Bool :=
  scope.names.all (fun y=>y.2 != .cell) && scope.names.all (fun y=>y.2 != .local || scope.names.lookup y.1 == some .local) && scope.names.all (fun y=>y.2 != .free || xsc.names.lookup y.1 == some .cell)
    && own.all (fun x=>scope.names.lookup x == some .local) && caps.all (fun p=>xN[p.2]? == some p.1 && xsc.names.lookup p.1 == some .cell && scope.names.lookup p.1 == some .free)
theorem comp_scope {X:Cx} {scope:Scope} {own:List Str} {caps:List (Str × Nat)} (xsc:Scope) (xN:List Str) (hx:X.env.scope=xsc) (hN:X.N=xN) (hk:scope.kind = .function) (c:checkComp xsc xN scope own caps=true):CompScope X scope own caps:=by
  unfold checkComp at c
  simp only [Bool.and_eq_true,List.all_eq_true,Bool.or_eq_true,bne_iff_ne,beq_iff_eq,ne_eq] at c
  obtain ⟨⟨⟨⟨c1,c2⟩,c3⟩,c4⟩,c5⟩:=c
  refine ⟨hk,c1,fun y hy e => ?_,fun y hy e => ?_,c4,fun p hp => ?_⟩
  · rcases c2 y hy with z | z
    · exact absurd e z
    · exact z
  · rcases c3 y hy with z | z
    · exact absurd e z
    · show X.env.scope.names.lookup y.1=_
      rw [hx];exact z
  · obtain ⟨⟨z1,z2⟩,z3⟩:=c5 p hp
    refine ⟨by rw [hN];exact z1,?_,z3⟩
    show X.env.scope.names.lookup p.1=_
    rw [hx];exact z2
structure Blt (mg:Str→Option Value):Prop where
  len_:mg "len" = none
  min_:mg "min" = none
  max_:mg "max" = none
  sum_:mg "sum" = none
  range_:mg "range" = none
  enumerate_:mg "enumerate" = none
  isinstance_:mg "isinstance" = none
  tuple_:mg "tuple" = none
  int_:mg "int" = none
  bool_:mg "bool" = none
  str_:mg "str" = none
  list_:mg "list" = none
theorem boot_min_:bootBuiltins "min" = some (.builtin "min"):=by decide +kernel
theorem boot_max_:bootBuiltins "max" = some (.builtin "max"):=by decide +kernel
theorem boot_sum_:bootBuiltins "sum" = some (.builtin "sum"):=by decide +kernel
theorem boot_isinstance_:bootBuiltins "isinstance" = some (.builtin "isinstance"):=by decide +kernel
theorem boot_tuple_:bootBuiltins "tuple" = some (.type "tuple"):=by decide +kernel
theorem boot_int_:bootBuiltins "int" = some (.type "int"):=by decide +kernel
theorem boot_bool_:bootBuiltins "bool" = some (.type "bool"):=by decide +kernel
theorem boot_list_:bootBuiltins "list" = some (.type "list"):=by decide +kernel
theorem Paired.at {α β : Type} {F : α → β → Prop}:∀ {l₁ : List α} {l₂ : List β} {i:Nat} {a : α},Paired F l₁ l₂ → l₁[i]? = some a→∃ b,l₂[i]? = some b∧F a b
  | _,_,_,_,.nil,e=>by simp at e
  | _,_,0,_,.cons h _,e=>by simp at e;subst e;exact ⟨_,rfl,h⟩
  | _,_,i+1,a,.cons _ t,e=>by
    obtain ⟨b,h1,h2⟩:=Paired.at (i:=i) (a:=a) t (by simpa using e)
    exact ⟨b,by simpa using h1,h2⟩
theorem pos' {j:Int} (h:decide (0 < j)=true:=by decide):0 < j:=of_decide_eq_true h
theorem div' {i j:Int} (h:(decide (0 < j) && decide (j < 1073741824))=true:=by decide):CDiv i j :=
  ⟨of_decide_eq_true (Bool.and_eq_true_iff.mp h).1,of_decide_eq_true (Bool.and_eq_true_iff.mp h).2⟩
theorem iteD {c A B:Prop} [Decidable c] (h1:c→A) (h2:¬ c→B):if decide c=true then A else B:=by
  by_cases h:c
  · rw [decide_eq_true h];exact iteT (h1 h)
  · rw [decide_eq_false h];exact iteF (h2 h)
theorem iteDN {c A B:Prop} [Decidable c] (h1:¬ c→A) (h2:c→B):if (!decide c)=true then A else B:=by
  by_cases h:c
  · rw [decide_eq_true h];exact iteF (h2 h)
  · rw [decide_eq_false h];exact iteT (h1 h)
end L2
namespace L2
open PySem PySem.Spec PyProof.Rows

noncomputable def F2 (h:Heap) (e:Addr) (x:Value):Prop := ∃ o vs,h.get? e=some o∧o.data = .fields vs∧vs[2]? = some x
noncomputable def Ctx0 (h:Heap) (e:Addr):Prop:=F2 h e .none
theorem F2.other {h:Heap} {e b:Addr} {x:Value} {f:Obj→Obj} (c:F2 h e x) (n:b≠e):F2 (h.update b f) e x:=by
  obtain ⟨o,vs,a,d,i⟩:=c
  exact ⟨o,vs,(Heap.get?_update_other _ _ n).trans a,d,i⟩
section
variable {M:Model} {A:Around} {E:Value→Shared→Prop} {s:Shared}
inductive Entered (l:List Env) (e:Addr) (oe:Obj) (L:Addr) (h h':Heap):Prop
  | mk (T:Addr) (oT:Obj) (ts:Array Value) (old:∀ b o,b≠e→b ∉ l.filterMap (·.frame)→h.get? b=some o→h'.get? b=some o) (slots:∀ b o,b≠e→h.get? b=some o→∃ sl,h'.get? b=some { o with slots:=sl })
    (own:h'.get? e=some (oe.mapFields (·.setIfInBounds 1 (.ref T)))) (new:h.get? T=none) (ne:T≠e) (size:h.objs.size≤T) (there:h'.get? T=some oT) (data:oT.data = .fields ts) (fl:ts[3]? = some (rawInt L)):Entered l e oe L h h'
theorem entry_on {base:Heap} {env:Env} {outer:List Env} {L e:Addr} {oe:Obj} {vs:Array Value} {hd:Value} {nx:Bool} {Q:Unit→Shared→Prop}
    (af:A.frames=some (env :: outer)) (ff:s.heap.FunFrames base (env :: outer)) (fL:env.frame=some L) (ge:s.heap.get? e=some oe) (gd:oe.data = .fields vs) (gz:1 < vs.size)
    (k:∀ h',Entered (env :: outer) e oe L s.heap h'→Q () { s with heap:=h' }) :
    wpAny M A (do let a ← frameOf env;let pl ← entryPlaceOf L nx;let b ← EntryCells.newEntry hd a .none (rawInt L) .none pl;setField (.ref e) 1 b) Q E s:=by
  have hne:e ∉ (env :: outer).filterMap (·.frame):=fun m=>by
    obtain ⟨_,o,q,nf⟩:=ff.mem m
    rw [ge] at q
    cases q
    exact nf vs gd
  refine wpAny_bind (wpAny_frameOf_fun af ff fL fun h1 sl => ?_)
  refine wpAny_bind (wpAny_entryPlaceOf fun pl hp => ?_)
  unfold EntryCells.newEntry newFields
  refine wpAny_bind (wpAny_newObj_type ?_ (hp.sizeOk5 _ _ _ _ _))
  have g1:h1.get? e=some oe:=(sl.2.1 e hne).trans ge
  generalize hO:({ cls := .type "traceback",dict:=none,data := .fields ([hd,.ref L,.none,rawInt L,.none] ++ (if pl.isEmpty then List.replicate 6 Value.none else pl)).toArray }:Obj)=oT
  have g2:=Heap.get?_push_of_some (h:=h1) oT g1
  refine wpAny_setField g2 gd gz (k _ ?_)
  have nT:h1.objs.size≠e:=Nat.ne_of_gt (Heap.lt_size g1)
  have dd:=Obj.data_mapFields gd (·.setIfInBounds 1 (Value.ref h1.objs.size))
  have up:∀ b o,b≠e→h1.get? b=some o→((h1.push oT).update e (Obj.mapFields (·.setIfInBounds 1 (Value.ref h1.objs.size)))).get? b=some o:=fun b o n q=>by
    rw [Heap.get?_update_other _ _ (Ne.symm n)]
    exact Heap.get?_push_of_some _ q
  refine ⟨h1.objs.size,oT,_,fun b o n m q=>up b o n ((sl.2.1 b m).trans q),fun b o n q => ?_,Heap.get?_update_self _ g2 (Obj.isFreed_of_fields dd),Heap.get?_none_of_le (Nat.le_of_eq sl.1.symm),nT,Nat.le_of_eq sl.1.symm,?_,(by rw [← hO]),?_⟩
  · obtain ⟨x,q'⟩:=sl.2.2 b o q
    exact ⟨x,up b _ n q'⟩
  · rw [Heap.get?_update_other _ _ (Ne.symm nT)]
    exact Heap.get?_push_size h1 (by rw [← hO];rfl)
  · first
      | (simp;done)
      | (rcases hp with rfl | ⟨_,_,_,_,_,_,_,rfl⟩ <;> simp)
theorem Entered.noted {base:Heap} {l:List Env} {e L:Addr} {oe:Obj} {vs:Array Value} {a0:Value} {h h':Heap} (x:Entered l e oe L h h') (kb:base.StaysIn h) (be:base.get? e=none) (ff:h.FunFrames base l) (gd:oe.data = .fields vs) (gz:1 < vs.size) (g0:vs[0]? = some a0) (ge:h.get? e=some oe) :
    Heap.NotedW base l e oe.cls a0 (rawInt L) h h':=by
  obtain ⟨T,oT,ts,old,slots,own,new,ne,size,there,data,fl⟩:=x
  have nr:∀ b o,h.get? b=some o→(∀ ws,o.data ≠ .fields ws)→b≠e:=fun b o q nf z=>by
    rw [z,ge] at q
    cases q
    exact nf vs gd
  refine ⟨fun b o q=>old b o (fun z=>by rw [z,be] at q;cases q) (fun m=>by rw [(ff.mem m).1] at q;cases q) (kb b o q),ff.of_keeps fun b o q nf => ?_,?_,fun b o q nf=>slots b o (nr b o q nf) q⟩
  · obtain ⟨sl,q'⟩:=slots b o (nr b o q nf) q
    exact ⟨_,q',rfl⟩
  · refine ⟨_,_,T,oT,ts,own,⟨Obj.cls_mapFields _ _,?_⟩,Obj.data_mapFields gd _,by simp [gz],?_,ne,there,data,fl⟩
    · rw [Array.getElem?_setIfInBounds_ne (by decide)];exact g0
    · cases q:base.get? T with
      | none=>rfl
      | some o=>have:=kb _ _ q;rw [new] at this;cases this
theorem Entered.ctx {l:List Env} {e L:Addr} {oe:Obj} {vs:Array Value} {h h':Heap} {y:Value} (x:Entered l e oe L h h') (gd:oe.data = .fields vs) (ge:h.get? e=some oe) (c:F2 h e y):F2 h' e y:=by
  obtain ⟨T,oT,ts,old,slots,own,new,ne,size,there,data,fl⟩:=x
  obtain ⟨o,ws,q1,q2,q3⟩:=c
  rw [ge] at q1
  cases q1
  rw [gd] at q2
  cases q2
  exact ⟨_,_,own,Obj.data_mapFields gd _,by rw [Array.getElem?_setIfInBounds_ne (by decide)];exact q3⟩
theorem note_new {base:Heap} {env:Env} {outer:List Env} {L e:Addr} {oe:Obj} {vs:Array Value} {a0:Value} {Q:Unit→Shared→Prop} (af:A.frames=some (env :: outer)) (ff:s.heap.FunFrames base (env :: outer)) (fL:env.frame=some L)
    (ge:s.heap.get? e=some oe) (kb:base.StaysIn s.heap) (be:base.get? e=none) (gd:oe.data = .fields vs) (g1:vs[1]? = some .none) (g0:vs[0]? = some a0)
    (k:∀ h',Heap.HeldW base (env :: outer) e oe.cls a0 L h'→s.heap.UpToSlots h'→(∀ y,F2 s.heap e y→F2 h' e y)→Q () { s with heap:=h' }):wpAny M A (noteFrame (.ref e) env) Q E s:=by
  have gz:=(Array.getElem?_eq_some_iff.mp g1).1
  unfold noteFrame
  simp only [fL]
  refine wpAny_bind (wpAny_field ge gd g1 ?_)
  rw [if_neg (by decide)]
  refine entry_on af ff fL ge gd gz fun h' x => ?_
  obtain ⟨n1,n2,n3,n4⟩:=x.noted kb be ff gd gz g0 ge
  exact k h' ⟨n1,be,n2,n3⟩ n4 fun y c=>x.ctx gd ge c
theorem flight_off {base:Heap} {l:List Env} {e:Addr} {cls a0 m:Value} {Q:Unit→Shared→Prop} (kb:base.StaysIn s.heap) (be:base.get? e=none) (ff:s.heap.FunFrames base l) (tr:s.heap.TracedAtW base e cls a0 m)
    (k:∀ h',Heap.FlyingW base l e cls a0 h'→s.heap.UpToSlots h'→(∀ y,F2 s.heap e y→F2 h' e y)→Q () { s with heap:=h' }):wpAny M A (setFlight (.ref e) none) Q E s:=by
  obtain ⟨oe,vs,Tr,oT,ts,ge,gc,gd,g1,bT,nTe,gT,dT,g3⟩:=tr
  have z3:=(Array.getElem?_eq_some_iff.mp g3).1
  have ot:∀ b,b≠Tr→(s.heap.update Tr (Obj.mapFields (·.setIfInBounds 3 ((none:Option Addr).elim Value.none fun f=>rawInt f)))).get? b=s.heap.get? b:=fun b n=>Heap.get?_update_other _ _ (Ne.symm n)
  have nr:∀ b o,s.heap.get? b=some o→(∀ ws,o.data ≠ .fields ws)→b≠Tr:=fun b o q nf z=>by
    rw [z,gT] at q
    cases q
    exact nf ts dT
  unfold setFlight
  refine wpAny_bind (wpAny_field ge gd g1 ?_)
  rw [if_pos (show (Value.ref Tr != Value.none)=true by simp)]
  refine wpAny_setField gT dT z3 (k _ ⟨fun b o q=>(ot b fun z=>by rw [z,bT] at q;cases q).trans (kb b o q),be,ff.of_keeps fun b o q nf=>⟨o,(ot b (nr b o q nf)).trans q,rfl⟩,?_⟩ (fun b o q nf=>⟨o.slots,(ot b (nr b o q nf)).trans q⟩) fun y c=>c.other nTe)
  exact ⟨oe,vs,Tr,_,_,(ot e (Ne.symm nTe)).trans ge,gc,gd,g1,bT,nTe,Heap.get?_update_self _ gT (Obj.isFreed_of_fields (Obj.data_mapFields dT _)),Obj.data_mapFields dT _,by simp [z3]⟩
theorem leave_new {base:Heap} {env:Env} {outer:List Env} {L e:Addr} {oe:Obj} {vs:Array Value} {a0:Value} {Q:Unit→Shared→Prop} (af:A.frames=some (env :: outer)) (ff:s.heap.FunFrames base (env :: outer)) (fL:env.frame=some L)
    (ge:s.heap.get? e=some oe) (kb:base.StaysIn s.heap) (be:base.get? e=none) (gd:oe.data = .fields vs) (g1:vs[1]? = some .none) (g0:vs[0]? = some a0)
    (k:∀ h',Heap.FlyingW base outer e oe.cls a0 h'→s.heap.UpToSlots h'→(∀ y,F2 s.heap e y→F2 h' e y)→Q () { s with heap:=h' }):wpAny M A (leaving env (.ref e)) Q E s:=by
  unfold leaving
  refine wpAny_bind (note_new af ff fL ge kb be gd g1 g0 fun h1 hh sl c1 => ?_)
  obtain ⟨n1,n2,n3,n4⟩:=hh
  refine flight_off (s := { s with heap:=h1 }) n1 n2 n3 n4 fun h2 f2 sl2 c2 => ?_
  obtain ⟨m1,m2,⟨_,_,m3⟩,m4⟩:=f2
  exact k h2 ⟨m1,m2,m3,m4⟩ (sl.trans sl2) fun y c=>c2 y (c1 y c)
end
end L2
namespace L2
open PySem PySem.Spec PyProof.Rows

section
variable {P:Program} {w:World} {H H':Hp} {h h':Heap} {a:Addr} {o:HO}
theorem ObjOk.there (x:ObjOk P w H h a o):∃ ob,h.get? a=some ob:=by
  cases o with
  | lst xs=>obtain ⟨_,_,_,_,e⟩:=x;exact ⟨_,e⟩
  | tup xs=>obtain ⟨_,_,_,_,e,_⟩:=x;exact ⟨_,e⟩
  | dK kvs=>obtain ⟨_,_,_,_,o,_,_,e,_⟩:=x;exact ⟨_,e⟩
  | dT kvs=>obtain ⟨_,_,_,_,o,_,_,e,_⟩:=x;exact ⟨_,e⟩
  | set S n=>obtain ⟨o,_,_,_,e,_⟩:=x;exact ⟨_,e⟩
  | ins C dx fs=>obtain ⟨_,_,_,e,_⟩:=x;exact ⟨_,e⟩
  | own y=>exact x
  | xd fs=>obtain ⟨_,⟨_,_,_,e,_⟩,_⟩:=x;exact ⟨_,e⟩
  | rng lo hi=>obtain ⟨_,_,_,e⟩:=x;exact ⟨_,e⟩
  | frz ob u=>obtain ⟨e,_⟩:=x;exact ⟨_,e⟩
  | tbl ps=>exact ⟨_,(show h.get? a=some _ from x)⟩
  | met f y=>exact ⟨_,(show h.get? a=some _ from x)⟩
  | ext φ => obtain ⟨_,e,_⟩:=x;exact e
theorem HOk.notThere (x:HOk P w H h) (e:h.get? a=none):H a=none:=by
  cases q:H a with
  | none=>rfl
  | some u=>obtain ⟨ob,z⟩:=(x a u q).there;rw [e] at z;cases z
theorem HOk.part (x:HOk P w H h) (k:∀ b u v,H b=some u→h.get? b=some v→h'.get? b=some v):HOk P w H h':=fun a o e =>
  (x a o e).stay (fun b u hb q=>by
    rcases hb with z | z
    · subst z;exact k _ _ _ e q
    · exact k _ _ _ z q) (fun _ q=>q) fun _ _ q=>q
end
theorem Un.fly {fs:List Addr} {L:Addr} {H₀ H H':Hp} {h0 h h1 h2 B:Heap} (U1:Un fs [] H₀ H h0 h) (U2:Un (L :: fs) [] H H' h h1) (hL:h0.get? L=none)
    (cov:∀ b o,h.get? b=some o→b ∉ L :: fs→∃ o',B.get? b=some o') (k1:∀ b o,B.get? b=some o→h1.get? b=some o) (k2:∀ b o,B.get? b=some o→h2.get? b=some o)
    (sl:h1.UpToSlots h2) (nf:∀ b∈fs,∃ o,h1.get? b=some o∧∀ vs,o.data ≠ .fields vs):Un fs [] H₀ H' h0 h2:=by
  have nL:∀ b o,h0.get? b=some o→b ∉ fs→b ∉ L :: fs:=fun b o q hb z=>by
    rcases List.mem_cons.mp z with z | z
    · rw [z,hL] at q;cases q
    · exact hb z
  refine ⟨fun b o q n hb hx => ?_,fun b o q n hb hx => ?_,fun b o q n hx => ?_,fun b o q hx => ?_,fun b xs q=>U2.tups _ _ (U1.tups _ _ q),fun b o u q=>U2.frzs _ _ _ (U1.frzs _ _ _ q),fun b ps q => ?_⟩
  · have q1:=U1.keep b o q n hb hx
    have q2:=U2.keep b o q1 (U1.free b o q n hx) (nL b o q hb) hx
    obtain ⟨o',e⟩:=cov b o q1 (nL b o q hb)
    have e1:=k1 _ _ e
    rw [q2] at e1
    cases e1
    exact k2 _ _ e
  · obtain ⟨s1,q1⟩:=U1.slot b o q n hb hx
    obtain ⟨s2,q2⟩:=U2.slot b _ q1 (U1.free b o q n hx) (List.mem_cons_of_mem _ hb) hx
    obtain ⟨ob,q3,d⟩:=nf b hb
    rw [q2] at q3
    cases q3
    obtain ⟨s4,q4⟩:=sl b _ q2 d
    exact ⟨s4,q4⟩
  · obtain ⟨o1,q1⟩:=U1.there b o q hx
    exact U2.free b o1 q1 (U1.free b o q n hx) hx
  · by_cases hb:b∈fs
    · obtain ⟨ob,q3,d⟩:=nf b hb
      obtain ⟨s4,q4⟩:=sl b _ q3 d
      exact ⟨_,q4⟩
    · obtain ⟨o1,q1⟩:=U1.there b o q hx
      obtain ⟨o',e⟩:=cov b o1 q1 (nL b o q hb)
      exact ⟨_,k2 _ _ e⟩
  · obtain ⟨m1,e1⟩:=U1.tbls b ps q
    obtain ⟨m2,e2⟩:=U2.tbls b _ e1
    exact ⟨m1 ++ m2,by rw [e2,Array.append_assoc]⟩

noncomputable def CXE (P:Program) (w:World):CXT:=fun outer H s E e s'=>∃ (ea C:Addr) (a0:Value) (B:Heap) (H':Hp),e = .ref ea∧Heap.FlyingW B outer ea (.ref C) a0 s'.heap∧s'.os=s.os∧AllBare s'.gens ∧
  HOk P w H' B∧Un (frs outer) [] H H' s.heap s'.heap∧(∀ b o,s.heap.get? b=some o→b ∉ frs outer→∃ o',B.get? b=some o')∧∃ m:Option Addr,(m=none→Ctx0 s'.heap ea)∧E (.ref C) m H'

section
variable {P:Program} {w:World} {K:PySem.W.Frag} {mg:Str→Option Value} {base:Heap} {N:List Str} {qual:Str} {scope:Scope} {f:Addr} {cdv:Value} {A:Around} {outer:List Env} {s0 s:Shared} {H0 H:Hp} {E E':XK}
  {pins:List (Addr × Obj)} {σ : St} {CX:CXT}
theorem stack_frs {e:Env} {L:Addr} {l:List Env} (h:e.frame=some L):frs (e :: l)=L :: frs l:=by
  unfold frs
  rw [List.filterMap_cons,h]
theorem flies {h':Heap} {e C:Addr} {args:List Value} (I:Inv (cxOf (CXE P w) P w K mg base N qual scope f cdv A outer s0 H0 E) pins σ H s) (hx:Heap.MadeExcOf s.heap h' e (.ref C) args) (q:E (.ref C) none H) :
    (cxOf (CXE P w) P w K mg base N qual scope f cdv A outer s0 H0 E).xe (.ref e) { s with heap:=h' }:=by
  have fr:s.heap.FunFrames base (envOfC qual scope s0.heap.objs.size f cdv :: outer):=I.stack
  have sf:∀ b∈frs (envOfC qual scope s0.heap.objs.size f cdv :: outer),H b=none:=I.stkFree
  have hin:∀ env∈(envOfC qual scope s0.heap.objs.size f cdv :: outer),∀ b,env.frame=some b→b∈frs (envOfC qual scope s0.heap.objs.size f cdv :: outer):=fun env he b hb=>List.mem_filterMap.mpr ⟨env,he,hb⟩
  have es:frs (envOfC qual scope s0.heap.objs.size f cdv :: outer)=s0.heap.objs.size :: frs outer:=stack_frs rfl
  show wpAny _ _ (leaving _ _) _ _ _
  obtain ⟨t,gt,_,_⟩:=hx.there
  have ff:=(PySem.W.funFrames_hide fr hin).of_keeps (h':=h') fun b o z _=>⟨o,hx.keeps b o z,rfl⟩
  have kb:(PySem.W.hideAll s.heap (frs (envOfC qual scope s0.heap.objs.size f cdv :: outer))).StaysIn h':=fun b o z=>hx.keeps b o (PySem.W.of_hideAll _ z)
  have be:(PySem.W.hideAll s.heap (frs (envOfC qual scope s0.heap.objs.size f cdv :: outer))).get? e=none:=by
    cases z:(PySem.W.hideAll s.heap (frs (envOfC qual scope s0.heap.objs.size f cdv :: outer))).get? e with
    | none=>rfl
    | some o=>have:=PySem.W.of_hideAll _ z;rw [hx.new] at this;cases this
  refine leave_new (s := { s with heap:=h' }) (a0 := .ref t) I.ok.frames ff rfl gt kb be rfl rfl rfl ?_
  intro h'' x1 x4 x5
  have cov:∀ b o,s.heap.get? b=some o→b ∉ s0.heap.objs.size :: frs outer→(PySem.W.hideAll s.heap (frs (envOfC qual scope s0.heap.objs.size f cdv :: outer))).get? b=some o:=fun b o z hb=>PySem.W.hideAll_get _ z (by rw [es];exact hb)
  have Ib:Un (frs outer) [] H0 H s0.heap s.heap:=I.base
  refine ⟨e,C,.ref t,_,H,rfl,x1,I.os,I.bare,HOk.part I.hok fun b u v z1 z2=>PySem.W.hideAll_get _ z2 fun hm => ?_,?_,?_,none,fun _=>x5 _ ⟨_,_,gt,rfl,rfl⟩,q⟩
  · rw [sf b hm] at z1;cases z1
  · refine Un.fly (h:=s.heap) (h1:=h') (L:=s0.heap.objs.size) Ib (Un.kept hx.keeps) (Heap.get?_none_of_le (Nat.le_refl _)) (fun b o z hb=>⟨o,cov b o z hb⟩) (fun b o z=>hx.keeps _ _ (PySem.W.of_hideAll _ z)) x1.1 x4 fun b hb => ?_
    obtain ⟨_,o,z,d⟩:=fr.mem (b:=b) (by show b∈frs _;rw [es];exact List.mem_cons_of_mem _ hb)
    exact ⟨o,hx.keeps _ _ z,d⟩
  · intro b o z hb
    obtain ⟨o1,z1⟩:=Ib.there b o z (by simp)
    refine ⟨o1,cov b o1 z1 fun hm => ?_⟩
    rcases List.mem_cons.mp hm with y | y
    · rw [y,Heap.get?_none_of_le (Nat.le_refl _)] at z;cases z
    · exact hb y
end

structure Exc (K:PySem.W.Frag) (mg:Str→Option Value) (x:Str) (C:Addr):Prop where
  glob:mg x=some (.ref C)
  here:PySem.W.excIn K C [.type "ValueError",.type "Exception",.type "BaseException",.type "object"] "ValueError.__new__" = true
theorem Exc.own {K:PySem.W.Frag} {mg:Str→Option Value} {x:Str} {C:Addr} {h:Heap} (e:Exc K mg x C) (X:K.In h):OwnCls x C [.type "ValueError",.type "Exception",.type "BaseException",.type "object"] "ValueError.__new__" mg h:=by
  refine ⟨e.glob,?_⟩
  have q:=e.here
  unfold PySem.W.excIn at q
  split at q
  · rename_i dd cd sl ho
    split at q
    · rename_i C' bm k0 k1 k2 k3 n k5 hm hs
      simp only [Bool.and_eq_true,beq_iff_eq,Bool.not_eq_true'] at q
      obtain ⟨⟨⟨⟨⟨rfl,rfl⟩,hdel⟩,ht⟩,hok⟩,hni⟩:=q
      obtain ⟨nm,bs,mro,ns,qn,hd,sn,sub,ab,col,del⟩:=cd
      dsimp only at hm hdel hok hni
      subst hm hdel
      have hsl:sl = #[k0,k1,k2,k3,some (.builtin "ValueError.__new__"),k5]:=by
        obtain ⟨l⟩:=sl
        simp only at hs
        rw [hs]
      subst hsl
      exact ⟨bm,ns,nm,qn,bs,hd,sn,sub,ab,col,dd,k0,k1,k2,k3,k5,_,X _ _ ho,.of_isNs (PySem.W.isNs_of_in X hok),PySem.W.nsMap_none_of_in X hok hni,PySem.W.tail_of_in X ht⟩
    · cases q
  · cases q
noncomputable def Flies (X:Cx) (C:Addr) (E:XK):Prop := ∀ (pins:List (Addr × Obj)) (σ : St) (H:Hp) (s:Shared) (h':Heap) (e:Addr) (args:List Value),Inv X pins σ H s→Heap.MadeExcOf s.heap h' e (.ref C) args→E (.ref C) none H→X.xe (.ref e) { s with heap:=h' }
noncomputable def tRaise (C:Addr) (E:XK) (t:TA):TS:=fun _ σ H=>t σ H fun vs H1=>vs.length≤sizeLine∧E (.ref C) none H1
theorem ps_raise {X:Cx} {x:Str} {C:Addr} {E:XK} {e₀ : Expr} {rest:List Expr} {t:TA} {np cpos pos:Pos} (O:Exc X.K X.mg x C) (hc:X.calm=true) (F:Flies X C E) (ha:PA X (e₀ :: rest) t) (hg:Gl X x)
    (he:starEach (e₀ :: rest) X.env=(false,eval e₀ X.env) :: starEach rest X.env:=by rfl) (hplain:(backTo cpos (starEach rest X.env)).any (·.1)=false:=by rfl) (hd:(x == ("__debug__" : Str))=false:=by decide) :
    PS X (.Raise (some (.Call (.Name x np) (e₀ :: rest) [] cpos)) none pos) (tRaise C E t):=by
  intro pins s σ H D I h
  obtain ⟨tl,N,nm,q,bs,hdct,sn,sub,ab,col,dd,k0,k1,k2,k3,k5,mN,hC,hN,hni,T⟩:=(O.own I.ok.mod.kin).obj
  refine wpAny_Raise_call_subT (C:=C) (nm:=nm) (q:=q) (N:=N) (bs:=bs) (bm:=tl) (hdct:=hdct) (sn:=sn) (sub:=sub) (ab:=ab) (col:=col) (dd:=dd) (k0:=k0) (k1:=k1) (k2:=k2) (k3:=k3) (k5:=k5)
    PySem.F.excBase_ValueError (mN:=mN) (T.hasType PySem.F.excBase_ValueError.hasBase) (I.ok.hd hc) (by rw [he];show (false || (backTo cpos (starEach rest X.env)).any (·.1))=false;rw [hplain];rfl) hni (ld_glob I hg O.glob ⟨rfl,?_⟩ hd)
  have h₂ := ha cpos pins s σ H _ I h
  rw [he] at h₂ ⊢
  exact Calls.evalArgs_plain (wpAny_mono h₂ (fun vs s₂ ⟨xs,H1,I1,r,hl,hq⟩=>⟨rfl,by rw [← r.length];exact hl,I1.bk _ _ hC,hN.keeps I1.bk,T.keeps I1.bk,fun h' e hm=>F pins σ H1 s₂ h' e vs I1 hm hq⟩) fun _ _ y=>y)
end L2
namespace L2
open PySem PySem.Spec PyProof.Rows PySem.W

section
variable {prog:Program} {w:World} {A:Around} {E:Value→Shared→Prop} {h:Heap} {g:Array GenState} {d:Drawn} {t:Nat} {os:OsState} {a:Addr} {o:Obj}
  {nm q:Str} {C N:Addr} {bs bm:List Value} {hdct:Bool} {sn:List Str} {sub:List Value} {ab:Bool} {col:Option Bool} {dd:Option Addr} {k0 k1 k2 k3 k5:Option Value} {newId:String}





end
end L2
namespace L2
open PySem PySem.Spec PyProof.Rows

noncomputable def XO (ea C:Addr):HO := .ext fun h=>∃ o,h.get? ea=some o∧o.cls = .ref C
noncomputable abbrev Cx.uncalm (X:Cx) (A:Around) (xe:Value→Shared→Prop):Cx := { X with A:=A,calm:=false,xe:=xe }
section
variable {X:Cx} {pins:List (Addr × Obj)} {σ : St} {H:Hp} {s:Shared} {xe:Value→Shared→Prop} {A:Around}
theorem Inv.uncalm (I:Inv X pins σ H s) (hf:A.frames=X.A.frames):Inv (X.uncalm A xe) pins σ H s :=
  ⟨⟨I.ok.mod,I.ok.kind,I.ok.glob,I.ok.blt,I.ok.above,I.ok.inj,I.ok.has,I.ok.cab,(fun h=>absurd (show false=true from h) (by decide)),hf.trans I.ok.frames,I.ok.stk,I.ok.exf,I.ok.bs,I.ok.bsz,I.ok.noex,I.ok.exfs,I.ok.funs,I.ok.frf⟩,
    I.os,I.bare,I.base,I.loc,I.cell,I.free,I.freeC,I.pin,I.hok,I.len⟩
theorem Inv.recalm (I:Inv (X.uncalm A xe) pins σ H s) (hd:X.calm=true→X.A.handled=none) (hf:X.A.frames=A.frames):Inv X pins σ H s :=
  ⟨⟨I.ok.mod,I.ok.kind,I.ok.glob,I.ok.blt,I.ok.above,I.ok.inj,I.ok.has,I.ok.cab,hd,hf.trans I.ok.frames,I.ok.stk,I.ok.exf,I.ok.bs,I.ok.bsz,I.ok.noex,I.ok.exfs,I.ok.funs,I.ok.frf⟩,
    I.os,I.bare,I.base,I.loc,I.cell,I.free,I.freeC,I.pin,I.hok,I.len⟩
end
theorem Un.on {fs:List Addr} {H H':Hp} {h h1 h2 B:Heap} (U:Un fs [] H H' h h1) (cov:∀ b o,h.get? b=some o→b ∉ fs→∃ o',B.get? b=some o') (k1:∀ b o,B.get? b=some o→h1.get? b=some o) (k2:∀ b o,B.get? b=some o→h2.get? b=some o)
    (sl:h1.UpToSlots h2) (nf:∀ b∈fs,∃ o,h1.get? b=some o∧∀ vs,o.data ≠ .fields vs):Un fs [] H H' h h2:=by
  refine ⟨fun b o q n hb hx => ?_,fun b o q n hb hx => ?_,U.free,fun b o q hx => ?_,U.tups,U.frzs,U.tbls⟩
  · have q2:=U.keep b o q n hb hx
    obtain ⟨o',e⟩:=cov b o q hb
    have e1:=k1 _ _ e
    rw [q2] at e1
    cases e1
    exact k2 _ _ e
  · obtain ⟨s1,q1⟩:=U.slot b o q n hb hx
    obtain ⟨ob,q3,d⟩:=nf b hb
    rw [q1] at q3
    cases q3
    obtain ⟨s4,q4⟩:=sl b _ q1 d
    exact ⟨s4,q4⟩
  · by_cases hb:b∈fs
    · obtain ⟨ob,q3,d⟩:=nf b hb
      obtain ⟨s4,q4⟩:=sl b _ q3 d
      exact ⟨_,q4⟩
    · obtain ⟨o',e⟩:=cov b o q hb
      exact ⟨_,k2 _ _ e⟩
theorem Un.more {fs:List Addr} {H H':Hp} {h h2:Heap} {a:Addr} {o:HO} (U:Un fs [] H H' h h2) (hn:h.get? a=none) (hH:H' a=none):Un fs [] H (upd H' a o) h h2:=by
  have ne:∀ b u,h.get? b=some u→b≠a:=fun b u q z=>by rw [z,hn] at q;cases q
  refine ⟨U.keep,U.slot,fun b u q n hx=>by rw [upd_ne (ne b u q)];exact U.free b u q n hx,U.there,fun b xs q => ?_,fun b u xs q => ?_,fun b ps q => ?_⟩
  · have e:=U.tups b xs q
    rw [upd_ne (ne_of_none e hH)];exact e
  · have e:=U.frzs b u xs q
    rw [upd_ne (ne_of_none e hH)];exact e
  · obtain ⟨m,e⟩:=U.tbls b ps q
    exact ⟨m,by rw [upd_ne (ne_of_none e hH)];exact e⟩
section
variable {X:Cx} {pins:List (Addr × Obj)} {σ : St} {H0 H':Hp} {s0 s':Shared} {ea C:Addr} {a0:Value} {B h5:Heap} {env:Env} {outer:List Env}
theorem caught_inv (I:Inv X pins σ H0 s0) (fl:Heap.FlyingW B X.stack ea (.ref C) a0 s'.heap) (os:s'.os=s0.os) (bare:AllBare s'.gens) (hok:HOk X.prog X.w H' B) (un:Un (frs X.stack) [] H0 H' s0.heap s'.heap)
    (cov:∀ b o,s0.heap.get? b=some o→b ∉ frs X.stack→∃ o',B.get? b=some o') (k5:∀ b o,B.get? b=some o→h5.get? b=some o) (sl:s'.heap.UpToSlots h5) (he:∃ o vs,h5.get? ea=some o∧o.cls = .ref C∧o.data = .fields vs) :
    Inv X pins σ (upd H' ea (XO ea C)) { s' with heap:=h5 }∧H' ea=none:=by
  have hn:H' ea=none:=hok.notThere fl.2.1
  have fm:∀ b∈frs X.stack,∃ o,s'.heap.get? b=some o∧∀ vs,o.data ≠ .fields vs:=fun b hb=>(fl.2.2.1.mem hb).2
  obtain ⟨oe,vs,h1,h2,h3⟩:=he
  have new:s0.heap.get? ea=none:=by
    cases q:s0.heap.get? ea with
    | none=>rfl
    | some o =>
      by_cases hb:ea∈frs X.stack
      · obtain ⟨ob,q3,d⟩:=fm ea hb
        obtain ⟨s4,q4⟩:=sl ea _ q3 d
        rw [h1] at q4
        cases q4
        exact absurd h3 (d vs)
      · obtain ⟨o',e⟩:=cov ea o q hb
        rw [fl.2.1] at e;cases e
  refine ⟨Inv.call' (s' := { s' with heap:=h5 }) I os ((un.on cov fl.1 k5 sl fm).more new hn) ?_ bare (fun b z=>absurd z (by simp)),hn⟩
  intro b u e
  have tup:∀ c xs,H' c=some (.tup xs)→upd H' ea (XO ea C) c=some (.tup xs):=fun c xs z=>by rw [upd_ne (ne_of_none z hn)];exact z
  have own:∀ c y,H' c=some (.own y)→upd H' ea (XO ea C) c=some (.own y):=fun c y z=>by rw [upd_ne (ne_of_none z hn)];exact z
  by_cases hb:b=ea
  · subst hb
    rw [upd_same] at e
    cases e
    refine ⟨⟨oe,h1,h2⟩,⟨oe,h1⟩,fun g1 g2 ⟨o,z1,z2⟩ k=>⟨o,k o z1,z2⟩⟩
  · rw [upd_ne hb] at e
    exact (hok b u e).stay (fun c v hc q=>k5 _ _ q) (fun c z=>own c b z) tup
end

noncomputable def Wish (X:Cx) (pins:List (Addr × Obj)) (σ : St) (E:XK) (xe:Value→Shared→Prop):Prop := ∀ (H0:Hp) (s0:Shared) (e:Value) (s':Shared),Inv X pins σ H0 s0→CXE X.prog X.w X.stack H0 s0 E e s'→xe e s'
noncomputable def PEt (X:Cx) (e:Expr) (t:XK→TE):Prop := ∀ (E:XK) (pins:List (Addr × Obj)) (s:Shared) (σ : St) (H:Hp) (Q:VK) (xe:Value→Shared→Prop),Wish X pins σ E xe→Inv X pins σ H s→t E σ H Q →
  wpAny (model X.prog X.w) X.A (eval e X.env) (EP X pins σ Q) xe s
noncomputable def PSt (X:Cx) (st:List Stmt) (t:XK→TS):Prop := ∀ (E:XK) (pins:List (Addr × Obj)) (s:Shared) (σ : St) (H:Hp) (D:Ends) (xe:Value→Shared→Prop),Wish X pins σ E xe→Inv X pins σ H s→t E D σ H →
  wpAny (model X.prog X.w) X.A (execs st X.env) (SP X pins D) xe s
section
variable {X:Cx} {k:Nat} {f:Addr} {fd:FuncData} {ps:List Str} {sp:Sp} {dvs:List V} {ds:List Value} {x:Str} {p pos:Pos} {e:Expr} {es:List Expr} {t:TA}
theorem run_fnX {CX:CXT} {E:XK} {xe:Value→Shared→Prop} {pins:List (Addr × Obj)} {σ : St} {H:Hp} {s:Shared} {Q:VK} {us:List Value} {vs:List V} (F:FnOk X.prog X.w X.K X.mg X.base CX k f fd ps sp) (hr:Room k X.A) (hb:Binds X.K fd ps ds) (hd:Vals dvs ds)
    (I:Inv X pins σ H s) (hx:∀ e s',CX X.stack H s E e s'→xe e s') (r:Vals vs us) (h:sp (vs ++ dvs) H Q E):wpAny (model X.prog X.w) X.A (call (.ref f) us) (EP X pins σ Q) xe s:=by
  have r2:Vals (vs ++ dvs) (us ++ ds):=r.append hd
  have hl:(us ++ ds).length=ps.length:=by rw [← r2.length];exact F.len _ _ _ _ h
  refine wpAny_call (codeAny_mono (F.run X.A X.stack s H ⟨us, []⟩ (us ++ ds) (vs ++ dvs) Q E hr I.env0 (hb s us I.kIn hl) r2 h) fun r s' hq => ?_)
  cases r with
  | error e=>exact hx e s' hq
  | ok fl =>
    cases fl with
    | ret u=>exact I.after hq
    | next=>exact False.elim hq
    | brk=>exact False.elim hq
    | cont=>exact False.elim hq
theorem pet_call (F:FnOk X.prog X.w X.K X.mg X.base (CXE X.prog X.w) k f fd ps sp) (hr:Room k X.A) (hg:Gl X x) (hm:X.mg x=some (.ref f)) (hk:PySem.W.keepIn X.K (.ref f)=true) (hb:Binds X.K fd ps ds) (hd:Vals dvs ds)
    (ha:PA X.nox (e :: es) t) (hdb:(x == ("__debug__" : Str))=false:=by decide) (he:starEach (e :: es) X.env=(false,eval e X.env) :: starEach es X.env:=by rfl) (hpl:(backTo pos (starEach es X.env)).any (·.1)=false:=by rfl) :
    PEt X (.Call (.Name x p) (e :: es) [] pos) (fun E=>tCall sp dvs E t):=by
  intro E pins s σ H Q xe W I h
  refine wpAny_Call_Name_kw (ld_glob I hg hm ?_ hdb)
  refine PySem.W.callWith_K (h₀ := X.base) I.ok.mod.kin hk (wpAny_mono (ha pos pins s σ H _ (I.wish _) h) (fun us s1 ⟨vs,H1,I1,r,q⟩=>⟨I1.unwish.kIn,?_⟩) fun _ _ z=>False.elim z) he hpl
  exact run_fnX F hr hb hd I1.unwish (fun e s' hq=>W H1 s1 e s' I1.unwish hq) r q
theorem pst_set {i:Nat} {y:Str} {te:XK→TE} {pos':Pos} (hN:X.N.Nodup) (hi:X.N[i]? = some y) (hx:Loc X.env.scope y) (he:PEt X e te) (hs:swapsWith e (some (.Name y pos')) pos.line X.env=pure false:=by rfl)
    (hf:X.fn y=true∨X.env.scope.names.lookup y=some .local:=by first | exact .inl rfl | exact .inr rfl | assumption):PSt X [.Assign [.Name y pos'] e pos] (fun E=>tAsg (te E) (gName i)):=by
  intro E pins s σ H D xe W I h
  refine wpAny_execs_cons (wpAny_Assign_Name (thn (he E pins s σ H _ xe W I h) fun v s1 ⟨z,H1,I1,r1,q1⟩ => ?_) hs)
  exact store_ok I1 hN hi hx r1 (fun s2 I2=>wpAny_execs_nil ⟨_,H1,I2,q1⟩) hf
end


end L2
namespace L2
open PySem PySem.Spec PyProof.Rows

theorem joins_mono {M:Model} {A:Around} {E:Value→Shared→Prop} {R R':Str→Shared→Prop} (h:∀ z s,R z s→R' z s):∀ {l:List (Sem Value)} {acc:Str} {s:Shared},Joins M A E l acc R s→Joins M A E l acc R' s
  | [],acc,s,q=>h _ _ q
  | x :: r,acc,s,q=>wpAny_mono q (fun v s1 ⟨y,t,e,hz,q1⟩=>⟨y,t,e,hz,joins_mono h q1⟩) fun _ _ z=>z
section
variable {X:Cx}
noncomputable abbrev TJ:=St→Hp→(Hp→Prop)→Prop
noncomputable def PJ (X:Cx) (es:List Expr) (t:TJ):Prop := ∀ (pins:List (Addr × Obj)) (s:Shared) (σ : St) (H:Hp) (acc:Str) (Q:Hp→Prop),Inv X pins σ H s→acc.length+1000 * es.length≤100000 →
  t σ H Q→Joins (model X.prog X.w) X.A X.xe (evalEach es X.env) acc (fun out s1=>out.length≤100000∧∃ H1,Inv X pins σ H1 s1∧Q H1) s
noncomputable def jNil:TJ:=fun _ H Q=>Q H
noncomputable def jCons (te:TE) (t:TJ):TJ:=fun σ H Q=>te σ H fun x H1=>∃ z,x = .str z∧z.length≤1000∧t σ H1 Q
theorem pj_nil:PJ X [] jNil:=fun pins s σ H acc R I hl h=>⟨by simpa using hl,H,I,h⟩
theorem pj_cons {e:Expr} {es:List Expr} {te:TE} {t:TJ} (he:PE X e te) (hr:PJ X es t) (hs:evalEach (e :: es) X.env=eval e X.env :: evalEach es X.env:=by rfl):PJ X (e :: es) (jCons te t):=by
  intro pins s σ H acc R I hl h
  rw [hs]
  rw [List.length_cons] at hl
  refine thn (he pins s σ H _ I h) fun v s1 ⟨x,H1,I1,rx,z,ex,hz,q⟩ => ?_
  subst ex
  obtain ⟨tk,rfl⟩:=rx
  have hlen:(acc ++ z).length=acc.length+z.length:=Str.length_append _ _
  refine ⟨z,tk,rfl,by rw [hlen];exact Nat.le_trans (by omega:_≤100000) (by decide),hr pins s1 σ H1 (acc ++ z) R I1 (by rw [hlen];omega) q⟩
noncomputable def tJoined (n:Nat) (t:TJ):TE:=fun σ H Q=>n≤90∧t σ H fun H1=>∀ z:Str,Q (.str z) H1
theorem pe_joined {a b:Expr} {r:List Expr} {t:TJ} {pos:Pos} (h:PJ X (a :: b :: r) t):PE X (.JoinedStr (a :: b :: r) pos) (tJoined (a :: b :: r).length t):=by
  intro pins s σ H Q I hw
  obtain ⟨hn,hq⟩:=hw
  refine wpAny_JoinedStr (joins_mono (fun z s1 ⟨hz,H1,I1,q⟩=>⟨Nat.le_trans hz (by decide),⟨.str z,H1,I1.tok _,⟨_,rfl⟩,q z⟩⟩) (h pins s σ H Str.empty _ I ?_ hq))
  show 0+_≤_
  omega
noncomputable def tFmtI (tv:TE):TE:=fun σ H Q=>tv σ H fun x H1=>∃ i,x = .int i∧i.natAbs.log2 < 1920∧Q (.str (toString i)) H1
theorem pe_fmtI {v:Expr} {tv:TE} {pos:Pos} (h:PE X v tv):PE X (.FormattedValue v (-1) none pos) (tFmtI tv):=by
  intro pins s σ H Q I hw
  refine FormattedValue_plain (thn (h pins s σ H _ I hw) fun u s1 ⟨x,H1,I1,rx,i,ex,hi,q⟩ => ?_)
  subst ex
  obtain ⟨tk,rfl⟩:=rx
  exact formatField_int_small hi ⟨.str _,H1,I1.tok _,⟨_,rfl⟩,q⟩
theorem pe_globI {x:Str} {i:Int} {pos:Pos} (h:∃ t,X.mg x=some (.int i t)) (hg:Gl X x) (hd:(x == ("__debug__" : Str))=false:=by decide):PE X (.Name x pos) (tC (.int i)) :=
  let ⟨t,e⟩:=h;pe_glob hg e ⟨t,rfl⟩ hd
end

theorem Fun.okE {P:Program} {w:World} {K:PySem.W.Frag} {mg:Str→Option Value} {base:Heap} {x qual:Str} {st:Stmt} {f:Addr} {fd:FuncData} {N ps:List Str} {k:Nat} {sp:Sp} (F:Fun K x qual st f fd) (S:FnScope N ps (defScope st)) (len:∀ vs H Q E,sp vs H Q E→vs.length=ps.length)
    (hbody:∀ (cdv:Value) (A:Around) (outer:List Env) (s:Shared) (H:Hp) (vs:List V) (Q:VK) (E:XK),Room k (A.deeper (envOfC qual (defScope st) s.heap.objs.size f cdv))→sp vs H Q E →
      ∃ t,PSs (cxOf (CXE P w) P w K mg base N qual (defScope st) f cdv A outer s H E) (defBody st) t∧t { nx:=fun _ H'=>Q .non H',rt:=Q } (start N vs) H):FnOk P w K mg base (CXE P w) (k+1) f fd ps sp:=by
  obtain ⟨oc,od,kV,doc,pm,an,cdv,ct,osl,rfl,lk,hcd⟩:=F.ex
  exact fn_of lk hcd S len fun A outer s H vs Q E hr hsp=>hbody cdv A outer s H vs Q E hr hsp
structure HasE (P:Program) (w:World) (K:PySem.W.Frag) (mg:Str→Option Value) (base:Heap) (k:Nat) (x:Str) (ps:List Str) (sp:Sp):Prop where
  ex:∃ f fd,FnOk P w K mg base (CXE P w) k f fd ps sp∧mg x=some (.ref f)∧PySem.W.keepIn K (.ref f)=true∧Binds K fd ps []
section
variable {P:Program} {w:World} {K:PySem.W.Frag} {mg:Str→Option Value} {base:Heap} {x m qual:Str} {C:Addr} {st:Stmt} {N ps:List Str} {k:Nat} {sp:Sp}
theorem Def.hasE (D:Def K mg x st ps) (S:FnScope N ps (defScope st)) (len:∀ vs H Q E,sp vs H Q E→vs.length=ps.length)
    (hbody:∀ (f:Addr) (cdv:Value) (A:Around) (outer:List Env) (s:Shared) (H:Hp) (vs:List V) (Q:VK) (E:XK),Room k (A.deeper (envOfC x (defScope st) s.heap.objs.size f cdv))→sp vs H Q E →
      ∃ t,PSs (cxOf (CXE P w) P w K mg base N x (defScope st) f cdv A outer s H E) (defBody st) t∧t { nx:=fun _ H'=>Q .non H',rt:=Q } (start N vs) H):HasE P w K mg base (k+1) x ps sp:=by
  obtain ⟨f,fd,F,hm,hb⟩:=D.ex
  exact ⟨f,fd,F.okE S len (hbody f),hm,F.kp,hb⟩
end
section
variable {X:Cx} {k k':Nat} {x m:Str} {C:Addr} {ps:List Str} {sp:Sp} {p pos apos:Pos} {e o:Expr} {es:List Expr} {ta:TE} {t:TA} {E:XK}
theorem pet_callE (h:HasE X.prog X.w X.K X.mg X.base k x ps sp) (hr:Room k' X.A) (hk:k≤k') (hg:Gl X x) (ha:PA X.nox (e :: es) t) (hdb:(x == ("__debug__" : Str))=false:=by decide)
    (he:starEach (e :: es) X.env=(false,eval e X.env) :: starEach es X.env:=by rfl) (hpl:(backTo pos (starEach es X.env)).any (·.1)=false:=by rfl) :
    PEt X (.Call (.Name x p) (e :: es) [] pos) (fun E=>tCall sp [] E t):=by
  obtain ⟨f,fd,F,hm,hkp,hb⟩:=h.ex
  exact pet_call F (hr.mono hk) hg hm hkp hb .nil ha hdb he hpl
end
end L2
namespace L2
open PySem PySem.Spec PyProof.Rows
end L2
namespace L2
open PySem PySem.Spec PyProof.Rows
section
variable {X:Cx}
inductive J_call_intB (xs:List V) (H:Hp) (Q:VK):Prop
  | mk:∀ b,(xs = [.bl b])→(Q (.int (if b then 1 else 0)) H)→J_call_intB xs H Q
theorem call_intB:CallR X (.type "int") (fun xs H Q=>J_call_intB xs H Q):=by
  intro pins s σ H xs us Q I r h
  obtain ⟨b,rfl,q⟩:=h
  obtain ⟨u,rfl,rx⟩:=Vals.one r
  cases (show u=Value.bool b from rx)
  exact call_int_bool ⟨.int _,H,I.tok _,⟨_,rfl⟩,q⟩
end
theorem comp_tupS {K:PySem.W.Frag} {a:Addr} {xs ys:List V} {te:TE} {σ : St} {caps:List (Str × Nat)} {H:Hp} {Q:VK} (hS:SqT K H a xs) (hz:xs.length≤1000) (hy:ys.length=xs.length)
    (hel:∀ (i:Nat) (x y:V),xs[i]? = some x→ys[i]? = some y→∀ H',Same H H'→∀ Q':VK,(∀ H'',Same H' H''→Q' y H'')→te (some x :: capt σ caps) H' Q') (hq:∀ D H',H D=none→Same H H'→H' D=some (.lst ys)→Q (.ref D) H') :
    CompBody (Itt K a) (gName 0) te (List.replicate 1 none ++ capt σ caps) H Q:=by
  intro D hD
  refine ⟨fun i m τ zs H'=>m=xs.length - i∧i≤xs.length∧(∃ o, τ = o :: capt σ caps)∧zs=ys.take i∧Same H H'∧H' D=some (.lst zs),⟨xs.length,by simp,Nat.zero_le _,⟨none,rfl⟩,by simp,same_new hD _,upd_same⟩,?_⟩
  rintro i m τ zs H' ⟨rfl,hi,⟨o,rfl⟩,rfl,sm,hDl⟩
  refine ⟨hDl,?_⟩
  by_cases hlt:i < xs.length
  · refine .inr ⟨⟨xs,xs[i],sm.tup hS,by simp [hlt]⟩,?_,fun x H'' y => ?_⟩
    · rw [List.length_take]
      exact small1000 (by omega)
    obtain ⟨e,y⟩:=y
    subst e
    have hx:=y xs (sm.tup hS)
    have hyi:ys[i]? = some ys[i]:=List.getElem?_eq_getElem (by omega)
    show te (some x :: capt σ caps) _ _
    refine hel i x ys[i] hx hyi _ sm _ (fun H2 s2 => ?_)
    refine ⟨s2 _ _ hDl,xs.length - (i+1),by omega,rfl,hlt,⟨_,rfl⟩,?_,(sm.trans s2).put hD,?_⟩
    · rw [List.take_add_one,hyi];rfl
    · rw [upd_same]
  · have e:i=xs.length:=by omega
    subst e
    refine .inl ⟨⟨xs,sm.tup hS,Nat.le_refl _⟩,?_⟩
    rw [← hy,List.take_length] at hDl
    exact hq D H' hD sm hDl
end L2
namespace L2
open PySem PySem.Spec PyProof.Rows
inductive StrsC:List Expr→List Str→Prop where
  | nil:StrsC [] []
  | cons {x:Str} {j:Nat} {p:Pos} {es:List Expr} {L:List Str} (h:StrsC es L):StrsC (.Constant (.str x) j p :: es) (x :: L)
noncomputable def tStrs (L:List Str):TA:=fun _ H Q=>Q (L.map V.str) H
theorem pa_strs {X:Cx} {es:List Expr} {L:List Str} (h:StrsC es L):PA X es (tStrs L):=by
  induction h with
  | nil=>exact pa_nil
  | cons h ih=>exact pa_cons pe_str ih
end L2
namespace L2
open PySem PySem.Spec PyProof.Rows

inductive D where
  | non | int (i:Int) | str (x:Str) | tup (ds:List D) | lst (ds:List D)
noncomputable instance:DecidableEq D:=fun _ _=>Classical.propDecidable _
mutual
noncomputable def D.deep:D→Nat
  | .tup ds=>D.deeps ds+1
  | .lst ds=>D.deeps ds+1
  | .non=>0
  | .int _=>0
  | .str _=>0
noncomputable def D.deeps:List D→Nat
  | []=>0
  | d :: ds=>max d.deep (D.deeps ds)
end
theorem deeps_le:∀ {ds:List D} {d:D},d∈ds→d.deep≤D.deeps ds
  | e :: ds,d,h=>by
    rw [D.deeps]
    rcases List.mem_cons.mp h with rfl | h
    · omega
    · have:=deeps_le h;omega
mutual
noncomputable def DenR (h:Heap):D→Value→Prop
  | .non,u=>u=Value.none
  | .int i,u=>(∃ t,u=Value.int i t)∨∃ b,u=Value.bool b∧i=(if b then 1 else 0)
  | .str x,u=>∃ t,u=Value.str x t
  | .tup ds,u=>∃ a us,u=Value.ref a∧h.IsTuple a us.toArray∧DenRs h ds us
  | .lst ds,u=>∃ a us,u=Value.ref a∧h.IsList a us.toArray∧DenRs h ds us
noncomputable def DenRs (h:Heap):List D→List Value→Prop
  | [],us=>us = []
  | d :: ds,us=>∃ u us',us=u :: us'∧DenR h d u∧DenRs h ds us'
end
mutual
noncomputable def Den (H:Hp):D→V→Prop
  | .non,v=>v = .non
  | .int i,v=>v = .int i∨∃ b,v = .bl b∧i=(if b then 1 else 0)
  | .str x,v=>v = .str x
  | .tup ds,v=>∃ a vs,v = .ref a∧H a=some (.tup vs)∧Dens H ds vs
  | .lst ds,v=>∃ a vs,v = .ref a∧H a=some (.lst vs)∧Dens H ds vs
noncomputable def Dens (H:Hp):List D→List V→Prop
  | [],vs=>vs = []
  | d :: ds,vs=>∃ v vs',vs=v :: vs'∧Den H d v∧Dens H ds vs'
end
theorem denRs_len {h:Heap}:∀ {ds:List D} {us:List Value},DenRs h ds us→us.length=ds.length
  | [],us,r=>by rw [DenRs] at r;subst r;rfl
  | d :: ds,us,r=>by
    rw [DenRs] at r
    obtain ⟨u,us',rfl,_,r⟩:=r
    rw [List.length_cons,List.length_cons,denRs_len r]
theorem denRs_at {h:Heap}:∀ {ds:List D} {us:List Value} {j:Nat} {d:D},DenRs h ds us→ds[j]? = some d→∃ u,us[j]? = some u∧DenR h d u
  | [],us,j,d,r,e=>by simp at e
  | c :: ds,us,0,d,r,e=>by
    rw [DenRs] at r
    obtain ⟨u,us',rfl,r1,_⟩:=r
    simp at e;subst e
    exact ⟨u,rfl,r1⟩
  | c :: ds,us,j+1,d,r,e=>by
    rw [DenRs] at r
    obtain ⟨u,us',rfl,_,r⟩:=r
    obtain ⟨u',e',r'⟩:=denRs_at (j:=j) (d:=d) r (by simpa using e)
    exact ⟨u',by simpa using e',r'⟩
theorem dens_cons {H:Hp} {d:D} {v:V} {ds:List D} {vs:List V} (r:Den H d v) (q:Dens H ds vs):Dens H (d :: ds) (v :: vs):=by
  rw [Dens];exact ⟨v,vs,rfl,r,q⟩
theorem dens_nil {H:Hp}:Dens H [] []:=by rw [Dens]
mutual
theorem den_raw {P:Program} {w:World} {H:Hp} {h:Heap} (ok:HOk P w H h):∀ {d:D} {v:V} {u:Value},Den H d v→RelV v u→DenR h d u
  | .non,v,u,r,q=>by rw [Den] at r;subst r;rw [DenR];exact q
  | .int i,v,u,r,q=>by
    rw [Den] at r
    rw [DenR]
    rcases r with rfl | ⟨b,rfl,e⟩
    · exact .inl q
    · exact .inr ⟨b,q,e⟩
  | .str x,v,u,r,q=>by rw [Den] at r;subst r;rw [DenR];exact q
  | .tup ds,v,u,r,q=>by
    rw [Den] at r
    obtain ⟨a,vs,rfl,e,r⟩:=r
    rw [DenR]
    obtain ⟨_,its,rv,p⟩:=(show ObjOk P w H h a (.tup vs) from ok a _ e)
    exact ⟨a,its,q,p.tup,dens_raw ok r rv⟩
  | .lst ds,v,u,r,q=>by
    rw [Den] at r
    obtain ⟨a,vs,rfl,e,r⟩:=r
    rw [DenR]
    obtain ⟨_,its,n,rv,p⟩:=(show ObjOk P w H h a (.lst vs) from ok a _ e)
    exact ⟨a,its,q,⟨_,p,rfl,n,rfl⟩,dens_raw ok r rv⟩
theorem dens_raw {P:Program} {w:World} {H:Hp} {h:Heap} (ok:HOk P w H h):∀ {ds:List D} {vs:List V} {us:List Value},Dens H ds vs→Vals vs us→DenRs h ds us
  | [],vs,us,r,q=>by rw [Dens] at r;subst r;cases q;rw [DenRs]
  | d :: ds,vs,us,r,q=>by
    rw [Dens] at r
    obtain ⟨v,vs',rfl,r1,r⟩:=r
    cases q with
    | cons q1 q2 =>
      rw [DenRs]
      exact ⟨_,_,rfl,den_raw ok r1 q1,dens_raw ok r q2⟩
end
theorem tup_seq {h:Heap} {a:Addr} {x y:Array Value} (p:h.IsTuple a x) (q:h.IsTuple a y):x=y:=by
  obtain ⟨o,e,_,n,d⟩:=p
  obtain ⟨o',e',_,n',d'⟩:=q
  rw [e] at e';cases e'
  rw [d] at d'
  injection d'
theorem lst_seq {h:Heap} {a:Addr} {x y:Array Value} (p:h.IsList a x) (q:h.IsList a y):x=y:=by
  obtain ⟨o,e,_,n,d⟩:=p
  obtain ⟨o',e',_,n',d'⟩:=q
  rw [e] at e';cases e'
  rw [d] at d'
  injection d'
theorem lst_tup {h:Heap} {a:Addr} {x y:Array Value} (p:h.IsList a x) (q:h.IsTuple a y):False:=by
  obtain ⟨o,e,c,n,d⟩:=p
  obtain ⟨o',e',c',n',d'⟩:=q
  rw [e] at e';cases e'
  rw [c] at c'
  exact absurd (Value.type.inj c') (by decide)
mutual
theorem denR_inj {h:Heap}:∀ {d e:D} {u:Value},DenR h d u→DenR h e u→d=e
  | .non,e,u,r,q=>by
    rw [DenR] at r;subst r
    cases e with
    | non=>rfl
    | int i=>rw [DenR] at q;rcases q with ⟨t,z⟩ | ⟨b,z,_⟩ <;> cases z
    | str x=>rw [DenR] at q;obtain ⟨t,z⟩:=q;cases z
    | tup es=>rw [DenR] at q;obtain ⟨a,us,z,_⟩:=q;cases z
    | lst es=>rw [DenR] at q;obtain ⟨a,us,z,_⟩:=q;cases z
  | .int i,e,u,r,q=>by
    rw [DenR] at r
    cases e with
    | non=>rw [DenR] at q;subst q;rcases r with ⟨t,z⟩ | ⟨b,z,_⟩ <;> cases z
    | int j =>
      rw [DenR] at q
      rcases r with ⟨t,rfl⟩ | ⟨b,rfl,hb⟩ <;> rcases q with ⟨t',z⟩ | ⟨b',z,hb'⟩ <;> cases z
      · rfl
      · rw [hb,hb']
    | str x=>rw [DenR] at q;obtain ⟨t,rfl⟩:=q;rcases r with ⟨t,z⟩ | ⟨b,z,_⟩ <;> cases z
    | tup es=>rw [DenR] at q;obtain ⟨a,us,rfl,_⟩:=q;rcases r with ⟨t,z⟩ | ⟨b,z,_⟩ <;> cases z
    | lst es=>rw [DenR] at q;obtain ⟨a,us,rfl,_⟩:=q;rcases r with ⟨t,z⟩ | ⟨b,z,_⟩ <;> cases z
  | .str x,e,u,r,q=>by
    rw [DenR] at r
    obtain ⟨t,rfl⟩:=r
    cases e with
    | non=>rw [DenR] at q;cases q
    | int i=>rw [DenR] at q;rcases q with ⟨t,z⟩ | ⟨b,z,_⟩ <;> cases z
    | str x=>rw [DenR] at q;obtain ⟨t,z⟩:=q;cases z;rfl
    | tup es=>rw [DenR] at q;obtain ⟨a,us,z,_⟩:=q;cases z
    | lst es=>rw [DenR] at q;obtain ⟨a,us,z,_⟩:=q;cases z
  | .tup ds,e,u,r,q=>by
    rw [DenR] at r
    obtain ⟨a,us,rfl,p,r⟩:=r
    cases e with
    | non=>rw [DenR] at q;cases q
    | int i=>rw [DenR] at q;rcases q with ⟨t,z⟩ | ⟨b,z,_⟩ <;> cases z
    | str x=>rw [DenR] at q;obtain ⟨t,z⟩:=q;cases z
    | tup es =>
      rw [DenR] at q;obtain ⟨a',us',z,p',q⟩:=q;cases z
      have e:us=us':=by have:=tup_seq p p';simpa using this
      subst e
      rw [denRs_inj r q]
    | lst es=>rw [DenR] at q;obtain ⟨a',us',z,p',_⟩:=q;cases z;exact absurd p (fun p=>lst_tup p' p)
  | .lst ds,e,u,r,q=>by
    rw [DenR] at r
    obtain ⟨a,us,rfl,p,r⟩:=r
    cases e with
    | non=>rw [DenR] at q;cases q
    | int i=>rw [DenR] at q;rcases q with ⟨t,z⟩ | ⟨b,z,_⟩ <;> cases z
    | str x=>rw [DenR] at q;obtain ⟨t,z⟩:=q;cases z
    | tup es=>rw [DenR] at q;obtain ⟨a',us',z,p',_⟩:=q;cases z;exact absurd p (fun p=>lst_tup p p')
    | lst es =>
      rw [DenR] at q;obtain ⟨a',us',z,p',q⟩:=q;cases z
      have e:us=us':=by have:=lst_seq p p';simpa using this
      subst e
      rw [denRs_inj r q]
theorem denRs_inj {h:Heap}:∀ {ds es:List D} {us:List Value},DenRs h ds us→DenRs h es us→ds=es
  | [],es,us,r,q=>by
    rw [DenRs] at r;subst r
    cases es with
    | nil=>rfl
    | cons e es=>rw [DenRs] at q;obtain ⟨u,us',z,_⟩:=q;cases z
  | d :: ds,es,us,r,q=>by
    rw [DenRs] at r
    obtain ⟨u,us',rfl,r1,r⟩:=r
    cases es with
    | nil=>rw [DenRs] at q;cases q
    | cons e es =>
      rw [DenRs] at q;obtain ⟨u',us'',z,q1,q⟩:=q
      cases z
      rw [denR_inj r1 q1,denRs_inj r q]
end
theorem dec_true {p:Prop} [Decidable p] {b:Bool} (h:p↔b=true):b=decide p:=by
  cases b with
  | true=>exact (decide_eq_true (h.mpr rfl)).symm
  | false=>exact (decide_eq_false fun z=>Bool.false_ne_true (h.mp z)).symm
theorem all_eq (ds es:List D):((List.range (min ds.length es.length)).all (fun j=>decide (ds[j]? = es[j]?)) && ds.length == es.length)=decide (ds=es):=by
  refine dec_true ⟨fun h=>by subst h;simp,fun h => ?_⟩
  rw [Bool.and_eq_true,List.all_eq_true] at h
  have hl:ds.length=es.length:=eq_of_beq h.2
  refine List.ext_getElem? fun j => ?_
  by_cases hj:j < ds.length
  · exact of_decide_eq_true (h.1 j (List.mem_range.mpr (by omega)))
  · rw [List.getElem?_eq_none (by omega),List.getElem?_eq_none (by omega)]
theorem all_eq' (ds es:List D) (hl:ds.length=es.length):(List.range ds.length).all (fun j=>decide (ds[j]? = es[j]?))=decide (ds=es):=by
  have:=all_eq ds es
  rw [← hl,Nat.min_self] at this
  simpa using this
section
open SeqAt
variable {A:Around} {s:Shared}
theorem eqAt_cast {u v:Value} {b c:Bool} (h:EqAt A s u v b) (e:b=c):EqAt A s u v c:=e ▸ h
theorem eqAt_D:∀ (n:Nat) {d e:D} {A:Around} {u v:Value},d.deep≤n→DenR s.heap d u→DenR s.heap e v→A.units+n < cLine→EqAt A s u v (decide (d=e)):=by
  intro n
  induction n with
  | zero => ?_
  | succ n ih => ?_
  all_goals intro d e A u v hn r q hu
  all_goals have hu0:A.units < cLine:=by omega
  all_goals cases d with
    | non =>
      rw [DenR] at r;subst r
      cases e with
      | non=>rw [DenR] at q;subst q;exact eqAt_cast (EqAt.same _) (decide_eq_true rfl).symm
      | int j =>
        rw [DenR] at q
        rcases q with ⟨t,rfl⟩ | ⟨b,rfl,_⟩
        · exact eqAt_cast (EqAt.none_int j t) (decide_eq_false (fun z=>nomatch z)).symm
        · exact eqAt_cast (EqAt.none_bool b) (decide_eq_false (fun z=>nomatch z)).symm
      | str y=>rw [DenR] at q;obtain ⟨t,rfl⟩:=q;exact eqAt_cast (EqAt.none_str y t) (decide_eq_false (fun z=>nomatch z)).symm
      | tup es=>rw [DenR] at q;obtain ⟨a,us,rfl,p,_⟩:=q;exact eqAt_cast (EqAt.none_tuple p hu0) (decide_eq_false (fun z=>nomatch z)).symm
      | lst es=>rw [DenR] at q;obtain ⟨a,us,rfl,p,_⟩:=q;exact eqAt_cast (EqAt.none_list p hu0) (decide_eq_false (fun z=>nomatch z)).symm
    | int i =>
      rw [DenR] at r
      cases e with
      | non =>
        rw [DenR] at q;subst q
        rcases r with ⟨t,rfl⟩ | ⟨b,rfl,_⟩
        · exact eqAt_cast (EqAt.int_none i t) (decide_eq_false (fun z=>nomatch z)).symm
        · exact eqAt_cast (EqAt.bool_none b) (decide_eq_false (fun z=>nomatch z)).symm
      | int j =>
        rw [DenR] at q
        have key:∀ x y:Int,(x == y)=decide (D.int x=D.int y):=fun x y=>dec_true ⟨fun z=>by cases z;simp,fun z=>by rw [eq_of_beq z]⟩
        rcases r with ⟨t,rfl⟩ | ⟨b,rfl,hb⟩ <;> rcases q with ⟨t',rfl⟩ | ⟨b',rfl,hb'⟩
        · exact eqAt_cast (EqAt.int_int i t j t') (key i j)
        · rw [hb'];exact eqAt_cast (EqAt.int_bool i t b') (key _ _)
        · rw [hb];exact eqAt_cast (EqAt.bool_int b j t') (key _ _)
        · rw [hb,hb'];exact eqAt_cast (EqAt.bool_bool b b') (by rw [← key];cases b <;> cases b' <;> rfl)
      | str y =>
        rw [DenR] at q;obtain ⟨t,rfl⟩:=q
        rcases r with ⟨t',rfl⟩ | ⟨b,rfl,_⟩
        · exact eqAt_cast (EqAt.int_str i t' y t) (decide_eq_false (fun z=>nomatch z)).symm
        · exact eqAt_cast (EqAt.bool_str b y t) (decide_eq_false (fun z=>nomatch z)).symm
      | tup es =>
        rw [DenR] at q;obtain ⟨a,us,rfl,p,_⟩:=q
        rcases r with ⟨t',rfl⟩ | ⟨b,rfl,_⟩
        · exact eqAt_cast (EqAt.int_tuple i t' p hu0) (decide_eq_false (fun z=>nomatch z)).symm
        · exact eqAt_cast (EqAt.bool_tuple b p hu0) (decide_eq_false (fun z=>nomatch z)).symm
      | lst es =>
        rw [DenR] at q;obtain ⟨a,us,rfl,p,_⟩:=q
        rcases r with ⟨t',rfl⟩ | ⟨b,rfl,_⟩
        · exact eqAt_cast (EqAt.int_list i t' p hu0) (decide_eq_false (fun z=>nomatch z)).symm
        · exact eqAt_cast (EqAt.bool_list b p hu0) (decide_eq_false (fun z=>nomatch z)).symm
    | str x =>
      rw [DenR] at r;obtain ⟨t',rfl⟩:=r
      cases e with
      | non=>rw [DenR] at q;subst q;exact eqAt_cast (EqAt.str_none x t') (decide_eq_false (fun z=>nomatch z)).symm
      | int j =>
        rw [DenR] at q
        rcases q with ⟨t,rfl⟩ | ⟨b,rfl,_⟩
        · exact eqAt_cast (EqAt.str_int x t' j t) (decide_eq_false (fun z=>nomatch z)).symm
        · exact eqAt_cast (EqAt.str_bool x t' b) (decide_eq_false (fun z=>nomatch z)).symm
      | str y =>
        rw [DenR] at q;obtain ⟨t,rfl⟩:=q
        exact eqAt_cast (EqAt.str_str x t' y t) (dec_true ⟨fun z=>by cases z;simp,fun z=>by rw [eq_of_beq z]⟩)
      | tup es=>rw [DenR] at q;obtain ⟨a,us,rfl,p,_⟩:=q;exact eqAt_cast (EqAt.str_tuple x t' p hu0) (decide_eq_false (fun z=>nomatch z)).symm
      | lst es=>rw [DenR] at q;obtain ⟨a,us,rfl,p,_⟩:=q;exact eqAt_cast (EqAt.str_list x t' p hu0) (decide_eq_false (fun z=>nomatch z)).symm
    | tup ds => ?_
    | lst ds => ?_
  · rw [D.deep] at hn;omega
  · rw [D.deep] at hn;omega
  · rw [D.deep] at hn
    have r0:=r
    rw [DenR] at r
    obtain ⟨a,us,rfl,p,r⟩:=r
    cases e with
    | non=>rw [DenR] at q;subst q;exact eqAt_cast (EqAt.tuple_none p hu0) (decide_eq_false (fun z=>nomatch z)).symm
    | int j =>
      rw [DenR] at q
      rcases q with ⟨t,rfl⟩ | ⟨b,rfl,_⟩
      · exact eqAt_cast (EqAt.tuple_int j t p hu0) (decide_eq_false (fun z=>nomatch z)).symm
      · exact eqAt_cast (EqAt.tuple_bool b p hu0) (decide_eq_false (fun z=>nomatch z)).symm
    | str y=>rw [DenR] at q;obtain ⟨t,rfl⟩:=q;exact eqAt_cast (EqAt.tuple_str y t p hu0) (decide_eq_false (fun z=>nomatch z)).symm
    | tup es =>
      have q0:=q
      rw [DenR] at q
      obtain ⟨b,us',rfl,p',q⟩:=q
      by_cases hab:a=b
      · subst hab
        rw [denR_inj r0 q0]
        exact eqAt_cast (EqAt.same _) (decide_eq_true rfl).symm
      · refine eqAt_cast (EqAt.of_refs hab (RcAt.tuples (e:=fun j=>decide (ds[j]? = es[j]?)) p p' hu0 fun j h1 h2 => ?_)) ?_
        · have l1:=denRs_len r
          have l2:=denRs_len q
          have h1':j < us.length:=by simpa using h1
          have h2':j < us'.length:=by simpa using h2
          have e1:=List.getElem?_eq_getElem (l:=ds) (i:=j) (by omega)
          have e2:=List.getElem?_eq_getElem (l:=es) (i:=j) (by omega)
          obtain ⟨u,f1,g1⟩:=denRs_at r e1
          obtain ⟨v,f2,g2⟩:=denRs_at q e2
          have z1:us.toArray[j]=u:=by rw [List.getElem?_eq_getElem h1'] at f1;simpa using f1
          have z2:us'.toArray[j]=v:=by rw [List.getElem?_eq_getElem h2'] at f2;simpa using f2
          rw [z1,z2]
          have:=ih (d:=ds[j]) (e:=es[j]) (A:=A.in1) (by have:=deeps_le (List.getElem_mem (l:=ds) (n:=j) (by omega));omega) g1 g2 (by show A.units+1+n < cLine;omega)
          refine eqAt_cast this ?_
          rw [e1,e2]
          exact decide_eq_decide.mpr ⟨fun z=>by rw [z],fun z=>Option.some.inj z⟩
        · have:=all_eq ds es
          simp only [List.size_toArray,denRs_len r,denRs_len q]
          rw [this]
          exact decide_eq_decide.mpr ⟨fun z=>by rw [z],fun z=>by injection z⟩
    | lst es=>rw [DenR] at q;obtain ⟨b,us',rfl,p',_⟩:=q;exact eqAt_cast (EqAt.tuple_list p p' hu0) (decide_eq_false (fun z=>nomatch z)).symm
  · rw [D.deep] at hn
    have r0:=r
    rw [DenR] at r
    obtain ⟨a,us,rfl,p,r⟩:=r
    cases e with
    | non=>rw [DenR] at q;subst q;exact eqAt_cast (EqAt.list_none p hu0) (decide_eq_false (fun z=>nomatch z)).symm
    | int j =>
      rw [DenR] at q
      rcases q with ⟨t,rfl⟩ | ⟨b,rfl,_⟩
      · exact eqAt_cast (EqAt.list_int j t p hu0) (decide_eq_false (fun z=>nomatch z)).symm
      · exact eqAt_cast (EqAt.list_bool b p hu0) (decide_eq_false (fun z=>nomatch z)).symm
    | str y=>rw [DenR] at q;obtain ⟨t,rfl⟩:=q;exact eqAt_cast (EqAt.list_str y t p hu0) (decide_eq_false (fun z=>nomatch z)).symm
    | tup es=>rw [DenR] at q;obtain ⟨b,us',rfl,p',_⟩:=q;exact eqAt_cast (EqAt.list_tuple p p' hu0) (decide_eq_false (fun z=>nomatch z)).symm
    | lst es =>
      have q0:=q
      rw [DenR] at q
      obtain ⟨b,us',rfl,p',q⟩:=q
      have l1:=denRs_len r
      have l2:=denRs_len q
      by_cases hab:a=b
      · subst hab
        rw [denR_inj r0 q0]
        exact eqAt_cast (EqAt.same _) (decide_eq_true rfl).symm
      by_cases hl:ds.length=es.length
      · refine eqAt_cast (EqAt.of_refs hab (RcAt.lists (e:=fun j=>decide (ds[j]? = es[j]?)) p p' (by simp only [List.size_toArray];omega) hu0 fun j h1 h2 => ?_)) ?_
        · have h1':j < us.length:=by simpa using h1
          have h2':j < us'.length:=by simpa using h2
          have e1:=List.getElem?_eq_getElem (l:=ds) (i:=j) (by omega)
          have e2:=List.getElem?_eq_getElem (l:=es) (i:=j) (by omega)
          obtain ⟨u,f1,g1⟩:=denRs_at r e1
          obtain ⟨v,f2,g2⟩:=denRs_at q e2
          have z1:us.toArray[j]=u:=by rw [List.getElem?_eq_getElem h1'] at f1;simpa using f1
          have z2:us'.toArray[j]=v:=by rw [List.getElem?_eq_getElem h2'] at f2;simpa using f2
          rw [z1,z2]
          have:=ih (d:=ds[j]) (e:=es[j]) (A:=A.in1) (by have:=deeps_le (List.getElem_mem (l:=ds) (n:=j) (by omega));omega) g1 g2 (by show A.units+1+n < cLine;omega)
          refine eqAt_cast this ?_
          rw [e1,e2]
          exact decide_eq_decide.mpr ⟨fun z=>by rw [z],fun z=>Option.some.inj z⟩
        · have:=all_eq' ds es hl
          simp only [List.size_toArray,l1]
          rw [this]
          exact decide_eq_decide.mpr ⟨fun z=>by rw [z],fun z=>by injection z⟩
      · refine eqAt_cast (EqAt.of_refs hab (RcAt.lists_lengths p p' (by simp only [List.size_toArray];simp;omega) hu0)) ?_
        exact (decide_eq_false (fun z=>hl (by injection z with z;rw [z]))).symm
end
section
variable {X:Cx}
inductive J_rInD (neg:Bool) (x:V) (y:V) (H:Hp) (Q:VK):Prop
  | mk:∀ d ds,(Den H d x)→((Den H (.lst ds) y∨Den H (.tup ds) y))→(D.deeps ds≤150)→(Q (.bl (if neg then !decide (d∈ds) else decide (d∈ds))) H)→J_rInD neg x y H Q
noncomputable def rInD (neg:Bool):R2:=fun x y H Q=>J_rInD neg x y H Q
noncomputable def eqR (h:Heap) (d:D) (y:Value):Bool := @decide (DenR h d y) (Classical.propDecidable _)
theorem eqR_eq {h:Heap} {d e:D} {y:Value} (r:DenR h e y):eqR h d y=decide (e=d):=by
  unfold eqR
  by_cases z:e=d
  · subst z;rw [decide_eq_true rfl];exact @decide_eq_true _ (Classical.propDecidable _) r
  · rw [decide_eq_false z];exact @decide_eq_false _ (Classical.propDecidable _) fun q=>z (denR_inj r q)
theorem denRs_mem {h:Heap}:∀ {ds:List D} {us:List Value} {u:Value},DenRs h ds us→u∈us→∃ d∈ds,DenR h d u
  | [],us,u,r,m=>by rw [DenRs] at r;subst r;cases m
  | d :: ds,us,u,r,m=>by
    rw [DenRs] at r
    obtain ⟨v,us',rfl,r1,r⟩:=r
    rcases List.mem_cons.mp m with rfl | m
    · exact ⟨d,List.mem_cons_self,r1⟩
    · obtain ⟨e,he,q⟩:=denRs_mem r m
      exact ⟨e,List.mem_cons_of_mem _ he,q⟩
theorem any_eqR {h:Heap} {d:D}:∀ {ds:List D} {us:List Value},DenRs h ds us→us.any (eqR h d)=decide (d∈ds)
  | [],us,r=>by rw [DenRs] at r;subst r;simp
  | e :: ds,us,r=>by
    rw [DenRs] at r
    obtain ⟨v,us',rfl,r1,r⟩:=r
    rw [List.any_cons,any_eqR r,eqR_eq r1]
    refine dec_true ⟨fun z => ?_,fun z => ?_⟩
    · rcases List.mem_cons.mp z with rfl | z
      · simp
      · rw [decide_eq_true z];simp
    · rw [Bool.or_eq_true] at z
      rcases z with z | z
      · rw [of_decide_eq_true z];exact List.mem_cons_self
      · exact List.mem_cons_of_mem _ (of_decide_eq_true z)
theorem op_notInD (hu:X.A.units+151 < cLine):OpR X (compareOp .NotIn) (rInD true):=by
  intro pins s σ H x y v u Q I rx ry h
  obtain ⟨d,ds,h1,h2,hd,q⟩:=h
  have g1:=den_raw I.hok h1 rx
  have el:∀ us:List Value,DenRs s.heap ds us→∀ y,y∈us.toArray→SeqAt.EqAt X.A.in1 s y v (eqR s.heap d y):=fun us r y hy=>by
    obtain ⟨e,he,r1⟩:=denRs_mem r (by simpa using hy)
    refine eqAt_cast (eqAt_D 150 (by have:=deeps_le he;omega) r1 g1 (by show X.A.units+1+150 < cLine;omega)) (eqR_eq r1).symm
  rcases h2 with h2 | h2
  · have g2:=den_raw I.hok h2 ry
    rw [DenR] at g2
    obtain ⟨b,us',rfl,p',r'⟩:=g2
    refine SeqAt.notIn_listAt (eqR s.heap d) p' (el us' r') ⟨.bl (!decide (d∈ds)),H,I,?_,q⟩
    rw [← any_eqR r']
    show Value.bool _=Value.bool _
    rw [List.any_toArray]
  · have g2:=den_raw I.hok h2 ry
    rw [DenR] at g2
    obtain ⟨b,us',rfl,p',r'⟩:=g2
    refine SeqAt.notIn_tupleAt (eqR s.heap d) p' (el us' r') ⟨.bl (!decide (d∈ds)),H,I,?_,q⟩
    rw [← any_eqR r']
    show Value.bool _=Value.bool _
    rw [List.any_toArray]
end
end L2
namespace L2
open PySem PySem.Spec PyProof.Rows

section
variable {κ : Type} [DecidableEq κ]
noncomputable def valV (kvs:List (κ × V)) (k : κ):Option V:=(kvs.find? fun kv=>decide (kv.1=k)).map (·.2)
noncomputable def putK (kvs:List (κ × V)) (k : κ) (v:V):List (κ × V) :=
  if (kvs.any fun kv=>decide (kv.1=k))=true then kvs.map (fun kv=>if kv.1=k then (kv.1,v) else kv) else kvs ++ [(k,v)]

theorem valV_nil {k : κ}:valV ([]:List (κ × V)) k=none:=rfl
theorem valV_pos {p : κ × V} {r:List (κ × V)} {k : κ} (e:p.1=k):valV (p :: r) k=some p.2:=by simp [valV,List.find?_cons,e]
theorem valV_neg {p : κ × V} {r:List (κ × V)} {k : κ} (e:¬ p.1=k):valV (p :: r) k=valV r k:=by simp [valV,List.find?_cons,e]
theorem valV_any (k : κ):∀ kvs:List (κ × V),(kvs.any fun kv=>decide (kv.1=k))=(valV kvs k).isSome
  | []=>rfl
  | p :: r=>by
    rw [List.any_cons]
    by_cases e:p.1=k
    · simp only [valV_pos e,decide_eq_true e,Bool.true_or,Option.isSome_some]
    · rw [valV_neg e,decide_eq_false e,Bool.false_or];exact valV_any k r
theorem valV_map (k j : κ) (y:V):∀ kvs:List (κ × V),valV (kvs.map fun kv=>if kv.1=k then (kv.1,y) else kv) j=(valV kvs j).map fun x=>if j=k then y else x
  | []=>rfl
  | p :: r=>by
    have ih:=valV_map k j y r
    rw [List.map_cons]
    by_cases h:p.1=k
    · rw [if_pos h]
      by_cases e:p.1=j
      · rw [valV_pos (p:=(p.1,y)) e,valV_pos e,Option.map_some,if_pos (e.symm.trans h)]
      · rw [valV_neg (p:=(p.1,y)) e,valV_neg e,ih]
    · rw [if_neg h]
      by_cases e:p.1=j
      · rw [valV_pos (p:=p) e,valV_pos e,Option.map_some,if_neg (fun z=>h (e.trans z))]
      · rw [valV_neg (p:=p) e,valV_neg e,ih]
theorem valV_snoc (k j : κ) (y:V):∀ kvs:List (κ × V),valV kvs k=none→valV (kvs ++ [(k,y)]) j=if j=k then some y else valV kvs j
  | [],_=>by
    by_cases e:k=j
    · rw [if_pos e.symm];exact valV_pos (p:=(k,y)) e
    · rw [if_neg (fun z=>e z.symm)];exact valV_neg (p:=(k,y)) e
  | p :: r,hn=>by
    rw [List.cons_append]
    have hk:¬ p.1=k:=fun z=>by rw [valV_pos z] at hn;cases hn
    rw [valV_neg hk] at hn
    have ih:=valV_snoc k j y r hn
    by_cases e:p.1=j
    · rw [valV_pos e,valV_pos e,if_neg (fun z=>hk (e.trans z))]
    · rw [valV_neg e,valV_neg e,ih]
theorem valV_put (kvs:List (κ × V)) (k j : κ) (y:V):valV (putK kvs k y) j=if j=k then some y else valV kvs j:=by
  unfold putK
  by_cases a:(kvs.any fun kv=>decide (kv.1=k))=true
  · rw [if_pos a,valV_map]
    rw [valV_any] at a
    by_cases e:j=k
    · obtain ⟨x,hx⟩:=Option.isSome_iff_exists.mp a
      rw [if_pos e,e,hx,Option.map_some,if_pos rfl]
    · rw [if_neg e]
      cases valV kvs j with
      | none=>rfl
      | some x=>rw [Option.map_some,if_neg e]
  · rw [if_neg a]
    refine valV_snoc k j y kvs ?_
    rw [valV_any] at a
    cases q:valV kvs k with
    | none=>rfl
    | some x=>rw [q] at a;exact (a rfl).elim
theorem length_putK (kvs:List (κ × V)) (k : κ) (v:V):(putK kvs k v).length≤kvs.length+1:=by
  unfold putK
  split
  · rw [List.length_map];omega
  · rw [List.length_append,List.length_cons,List.length_nil];omega
theorem putK_new {kvs:List (κ × V)} {k : κ} (v:V) (h:valV kvs k=none):putK kvs k v=kvs ++ [(k,v)]:=by
  unfold putK
  rw [valV_any,h]
  exact if_neg (by decide)

theorem RelO.isSome_eq {o:Option V} {u:Option Value} (r:RelO o u):o.isSome=u.isSome:=by
  cases o with
  | none=>cases u with
    | none=>rfl
    | some _=>exact (show False from r).elim
  | some _=>cases u with
    | none=>exact (show False from r).elim
    | some _=>rfl
theorem RelO.getD {o:Option V} {u:Option Value} {d:V} {d':Value} (r:RelO o u) (rd:RelV d d'):RelV (o.getD d) (u.getD d'):=by
  cases o with
  | none=>cases u with
    | none=>exact rd
    | some _=>exact (show False from r).elim
  | some _=>cases u with
    | none=>exact (show False from r).elim
    | some _=>exact r

theorem KV.val {kvs:List (κ × V)} {vs:List (κ × Value)} (r:KV kvs vs) (k : κ):RelO (valV kvs k) (valueAt vs k):=by
  unfold KV at r
  induction r with
  | nil=>exact True.intro
  | @cons p q ps qs h t ih =>
    obtain ⟨h1,h2⟩:=h
    by_cases e:p.1=k
    · have e':q.1=k:=h1.symm.trans e
      have b:valueAt (q :: qs) k=some q.2:=by simp [valueAt,List.find?_cons,e']
      rw [valV_pos e,b];exact h2
    · have e':¬ q.1=k:=fun z=>e (h1.trans z)
      have b:valueAt (q :: qs) k=valueAt qs k:=by simp [valueAt,List.find?_cons,e']
      rw [valV_neg e,b];exact ih
theorem KV.any {kvs:List (κ × V)} {vs:List (κ × Value)} (r:KV kvs vs) (k : κ):(kvs.any fun kv=>decide (kv.1=k))=vs.any fun kv=>decide (kv.1=k):=by
  unfold KV at r
  induction r with
  | nil=>rfl
  | cons h t ih=>rw [List.any_cons,List.any_cons,ih,h.1]
theorem KV.repl {kvs:List (κ × V)} {vs:List (κ × Value)} (r:KV kvs vs) (k : κ) {y:V} {u:Value} (ry:RelV y u) :
    KV (kvs.map fun kv=>if kv.1=k then (kv.1,y) else kv) (vs.map fun kv=>if kv.1=k then (kv.1,u) else kv):=by
  unfold KV at r ⊢
  induction r with
  | nil=>exact .nil
  | @cons p q ps qs h t ih =>
    rw [List.map_cons,List.map_cons]
    refine .cons ?_ ih
    obtain ⟨h1,h2⟩:=h
    by_cases e:p.1=k
    · rw [if_pos e,if_pos (h1.symm.trans e)];exact ⟨h1,ry⟩
    · rw [if_neg e,if_neg (fun z=>e (h1.trans z))];exact ⟨h1,h2⟩
theorem KV.put {kvs:List (κ × V)} {vs:List (κ × Value)} (r:KV kvs vs) (k : κ) {y:V} {u:Value} (ry:RelV y u):KV (putK kvs k y) (stored vs k u):=by
  unfold putK stored
  rw [r.any k]
  by_cases e:(vs.any fun kv=>decide (kv.1=k))=true
  · rw [if_pos e,if_pos e];exact r.repl k ry
  · rw [if_neg e,if_neg e];exact Paired.snoc r ⟨rfl,ry⟩
theorem KV.keys {kvs:List (κ × V)} {vs:List (κ × Value)} (r:KV kvs vs):kvs.map (·.1)=vs.map (·.1):=by
  unfold KV at r
  induction r with
  | nil=>rfl
  | cons h t ih=>rw [List.map_cons,List.map_cons,ih,h.1]
theorem KV.length {kvs:List (κ × V)} {vs:List (κ × Value)} (r:KV kvs vs):kvs.length=vs.length:=Paired.length r
end


theorem kV_is {P:Program} {w:World} {k:Key} {u:Value} (r:RelV (kV k) u):(mixKind P w).is k u=true:=by
  cases k with
  | inl i=>obtain ⟨t,e⟩:=(show ∃ t,u=Value.int i t from r);subst e;exact mixKind_int P w i t
  | inr x=>obtain ⟨t,e⟩:=(show ∃ t,u=Value.str x t from r);subst e;exact mixKind_str P w x t
theorem items_are {P:Program} {w:World}:∀ {ks:List Key} {us:List Value},Vals (ks.map kV) us→ItemsAre (mixKind P w) ks us
  | [],_,r=>by rw [List.map_nil] at r;cases r;exact .nil
  | k :: ks,_,r=>by
    rw [List.map_cons] at r
    cases r with
    | cons h t=>exact .cons (kV_is h) (items_are t)

noncomputable abbrev KT (H:Hp):List (List Key × V)→List (List Key × Addr × Value)→Prop:=Paired fun p q=>p.1=q.1∧H q.2.1=some (.tup (p.1.map kV))∧RelV p.2 q.2.2
theorem KT.val {H:Hp} {kvs:List (List Key × V)} {xs:List (List Key × Addr × Value)} (r:KT H kvs xs) (k:List Key):RelO (valV kvs k) ((atKey xs k).map (·.2)):=by
  induction r with
  | nil=>exact True.intro
  | @cons p q ps qs h t ih =>
    obtain ⟨h1,_,h2⟩:=h
    by_cases e:p.1=k
    · have e':q.1=k:=h1.symm.trans e
      have b:atKey (q :: qs) k=some q.2:=by simp [atKey,List.find?_cons,e']
      rw [valV_pos e,b];exact h2
    · have e':¬ q.1=k:=fun z=>e (h1.trans z)
      have b:atKey (q :: qs) k=atKey qs k:=by simp [atKey,List.find?_cons,e']
      rw [valV_neg e,b];exact ih
theorem KT.repl {H:Hp} {kvs:List (List Key × V)} {xs:List (List Key × Addr × Value)} (r:KT H kvs xs) (k:List Key) {y:V} {u:Value} (ry:RelV y u) :
    KT H (kvs.map fun kv=>if kv.1=k then (kv.1,y) else kv) (xs.map (putAt k u)):=by
  induction r with
  | nil=>exact .nil
  | @cons p q ps qs h t ih =>
    rw [List.map_cons,List.map_cons]
    refine .cons ?_ ih
    obtain ⟨h1,h2,h3⟩:=h
    unfold putAt
    by_cases e:p.1=k
    · rw [if_pos e,if_pos (h1.symm.trans e)];exact ⟨h1,h2,ry⟩
    · rw [if_neg e,if_neg (fun z=>e (h1.trans z))];exact ⟨h1,h2,h3⟩
theorem KT.put {H:Hp} {kvs:List (List Key × V)} {xs:List (List Key × Addr × Value)} (r:KT H kvs xs) (k:List Key) {b:Addr} {y:V} {u:Value} (hb:H b=some (.tup (k.map kV))) (ry:RelV y u) :
    KT H (putK kvs k y) (storedH xs k b u):=by
  have e:(kvs.any fun kv=>decide (kv.1=k))=(atKey xs k).isSome:=by
    rw [valV_any,(r.val k).isSome_eq,Option.isSome_map]
  unfold putK storedH
  rw [e]
  by_cases q:(atKey xs k).isSome=true
  · rw [if_pos q,if_pos q];exact r.repl k ry
  · rw [if_neg q,if_neg q];exact Paired.snoc r ⟨rfl,hb,ry⟩
theorem KT.keeps {H H':Hp} {kvs:List (List Key × V)} {xs:List (List Key × Addr × Value)} (r:KT H kvs xs) (ht:∀ b ys,H b=some (.tup ys)→H' b=some (.tup ys)):KT H' kvs xs :=
  Paired.mapP r fun _ _ z=>⟨z.1,ht _ _ z.2.1,z.2.2⟩

section
variable {P:Program} {w:World} {H:Hp} {h:Heap} {a:Addr}
theorem rd_of {u:HO} (ok:HOk P w H h) (e:Rd H a u):ObjOk P w H h a u:=e.ok ok
theorem dk_rd {kvs:List (Key × V)} (ok:HOk P w H h) (e:Rd H a (.dK kvs)):kvs.length≤sizeLine∧(a == sysModules)=false∧∃ vs,KV kvs vs∧h.DictOf (mixKind P w) a vs :=
  show ObjOk P w H h a (.dK kvs) from rd_of ok e
theorem dk_of {kvs:List (Key × V)} (ok:HOk P w H h) (e:H a=some (.dK kvs)):kvs.length≤sizeLine∧(a == sysModules)=false∧∃ vs,KV kvs vs∧h.DictOf (mixKind P w) a vs:=dk_rd ok (.inl e)
theorem key_of {ks:List Key} (ok:HOk P w H h) (e:H a=some (.tup (ks.map kV))):(tupleKind (mixKind P w)).is h ks a:=by
  obtain ⟨_,its,r,o,h1,h2,n,h3,_⟩:=(show ObjOk P w H h a (.tup (ks.map kV)) from ok a _ e)
  exact ⟨o,its.toArray,n,h1,h2,h3,by simpa using items_are r⟩
theorem dt_rd {kvs:List (List Key × V)} (ok:HOk P w H h) (e:Rd H a (.dT kvs)):kvs.length≤sizeLine∧(a == sysModules)=false ∧
    ∃ xs,KT H kvs xs∧h.DictOfH (tupleKind (mixKind P w)) a xs:=by
  obtain ⟨z,y,xs,r,o,es,ep,h1,h2,h3,h4,h5⟩:=(show ObjOk P w H h a (.dT kvs) from rd_of ok e)
  refine ⟨z,y,xs,r,o,es,ep,h1,h2,h3,h4,fun x hx => ?_,h5⟩
  have all:∀ {l:List (List Key × V)} {m:List (List Key × Addr × Value)},KT H l m→∀ x∈m,(tupleKind (mixKind P w)).is h x.1 x.2.1:=by
    intro l m q
    induction q with
    | nil=>intro x hx;exact nomatch hx
    | @cons p q ps qs hq t ih =>
      intro x hx
      rcases List.mem_cons.mp hx with e | hx
      · subst e
        exact key_of ok (by rw [← hq.1];exact hq.2.1)
      · exact ih x hx
  exact all r x hx
theorem dt_of {kvs:List (List Key × V)} (ok:HOk P w H h) (e:H a=some (.dT kvs)):kvs.length≤sizeLine∧(a == sysModules)=false ∧
    ∃ xs,KT H kvs xs∧h.DictOfH (tupleKind (mixKind P w)) a xs:=dt_rd ok (.inl e)
end

noncomputable def DGet (H:Hp) (a:Addr) (y:V) (r:Option V):Prop :=
  (∃ kvs k,Rd H a (.dK kvs)∧y=kV k∧r=valV kvs k)∨∃ kvs k b,Rd H a (.dT kvs)∧y = .ref b∧H b=some (.tup (k.map kV))∧r=valV kvs k
noncomputable def DPut (H:Hp) (a:Addr) (y v:V) (H':Hp):Prop :=
  (∃ kvs k,H a=some (.dK kvs)∧y=kV k∧kvs.length < sizeLine∧H'=upd H a (.dK (putK kvs k v))) ∨
  ∃ kvs k b,H a=some (.dT kvs)∧y = .ref b∧H b=some (.tup (k.map kV))∧kvs.length < sizeLine∧H'=upd H a (.dT (putK kvs k v))
theorem DGet.k {H:Hp} {a:Addr} {kvs:List (Key × V)} {k:Key} (e:H a=some (.dK kvs)):DGet H a (kV k) (valV kvs k) := .inl ⟨kvs,k,.inl e,rfl,rfl⟩
theorem DPut.k {H:Hp} {a:Addr} {kvs:List (Key × V)} {k:Key} {v:V} (e:H a=some (.dK kvs)) (hl:kvs.length < sizeLine):DPut H a (kV k) v (upd H a (.dK (putK kvs k v))) := .inl ⟨kvs,k,e,rfl,hl,rfl⟩


section
variable {X:Cx} {pins:List (Addr × Obj)} {σ : St} {H:Hp} {s:Shared} {a:Addr} {y v:V} {u r:Value} {o:Option V} {A:Around} {E:Value→Shared→Prop}

theorem Inv.big (I:Inv X pins σ H s):sysModules < s.heap.objs.size:=by
  have h:mainGlobals < s.heap.objs.size:=(I.mod.glob.keeps I.bk).lt
  exact Nat.lt_trans (by decide) h

theorem d_getItem {Q:Value→Shared→Prop} (hu:A.units+1 < cLine) (I:Inv X pins σ H s) (g:DGet H a y (some v)) (ry:RelV y u) (h:∀ w' s',Inv X pins σ H s'→RelV v w'→Q w' s') :
    wpAny (model X.prog X.w) A (getItem (.ref a) u) Q E s:=by
  rcases g with ⟨kvs,k,e,ey,l⟩ | ⟨kvs,k,b,e,ey,eb,l⟩
  · subst ey
    obtain ⟨z,hd,vs,rel,dd⟩:=dk_rd I.hok e
    obtain ⟨w',hw,rw'⟩:=RelO.some_of (v:=v) (o:=valueAt vs k) (by rw [l];exact rel.val k)
    exact wpAny_getItem_of (kV_is ry) dd.mapOf hw (h w' _ (I.tok _) rw')
  · subst ey
    cases (show u=Value.ref b from ry)
    obtain ⟨z,hd,xs,rel,dd⟩:=dt_rd I.hok e
    obtain ⟨w',hw,rw'⟩:=RelO.some_of (v:=v) (o:=(atKey xs k).map (·.2)) (by rw [l];exact rel.val k)
    obtain ⟨p,hp,hp2⟩:=Option.map_eq_some_iff.mp hw
    refine wpAny_getItem_heap (tupleKind_room_in1 hu) (key_of I.hok eb) dd hp ?_
    rw [hp2]
    exact h w' _ (I.tok _) rw'
theorem d_in {Q:Value→Shared→Prop} (hu:A.units+1 < cLine) (I:Inv X pins σ H s) (g:DGet H a y o) (ry:RelV y u) (h:∀ s',Inv X pins σ H s'→Q (.bool o.isSome) s') :
    wpAny (model X.prog X.w) A (compareOp .In u (.ref a)) Q E s:=by
  rcases g with ⟨kvs,k,e,ey,l⟩ | ⟨kvs,k,b,e,ey,eb,l⟩
  · subst ey
    obtain ⟨z,hd,vs,rel,dd⟩:=dk_rd I.hok e
    refine wpAny_in_of (kV_is ry) hd dd.mapOf ?_
    rw [← (rel.val k).isSome_eq, ← l]
    exact h _ (I.tok _)
  · subst ey
    cases (show u=Value.ref b from ry)
    obtain ⟨z,hd,xs,rel,dd⟩:=dt_rd I.hok e
    refine wpAny_in_heap (tupleKind_room_in1 hu) (key_of I.hok eb) hd dd ?_
    have q:=(rel.val k).isSome_eq
    rw [Option.isSome_map] at q
    rw [← q, ← l]
    exact h _ (I.tok _)
theorem d_notIn {Q:Value→Shared→Prop} (hu:A.units+1 < cLine) (I:Inv X pins σ H s) (g:DGet H a y o) (ry:RelV y u) (h:∀ s',Inv X pins σ H s'→Q (.bool (!o.isSome)) s') :
    wpAny (model X.prog X.w) A (compareOp .NotIn u (.ref a)) Q E s:=by
  rcases g with ⟨kvs,k,e,ey,l⟩ | ⟨kvs,k,b,e,ey,eb,l⟩
  · subst ey
    obtain ⟨z,hd,vs,rel,dd⟩:=dk_rd I.hok e
    refine wpAny_notIn_of (kV_is ry) hd dd.mapOf ?_
    rw [← (rel.val k).isSome_eq, ← l]
    exact h _ (I.tok _)
  · subst ey
    cases (show u=Value.ref b from ry)
    obtain ⟨z,hd,xs,rel,dd⟩:=dt_rd I.hok e
    refine wpAny_notIn_heap (tupleKind_room_in1 hu) (key_of I.hok eb) hd dd ?_
    have q:=(rel.val k).isSome_eq
    rw [Option.isSome_map] at q
    rw [← q, ← l]
    exact h _ (I.tok _)
theorem d_write {h':Heap} {t':Nat} {ob:HO} (I:Inv X pins σ H s) (mu:Mut (H a)) (hs:Heap.SameBut a s.heap h') (he:∃ q,h'.get? a=some q) (new:ObjOk X.prog X.w (upd H a ob) h' a ob) :
    Inv X pins σ (upd H a ob) { s with heap:=h',toks:=t' } :=
  I.write (x:=a) (e:=a) mu (.inl rfl) (fun b q hb z=>(hs.2 b hb).trans z) he new
theorem dk_new {P:Program} {w:World} {H':Hp} {h':Heap} {kvs:List (Key × V)} {vs:List (Key × Value)} (z:kvs.length≤sizeLine) (hd:(a == sysModules)=false) (rel:KV kvs vs) (dd:h'.DictOf (mixKind P w) a vs) :
    ObjOk P w H' h' a (.dK kvs):=⟨z,hd,vs,rel,dd⟩
theorem d_setItem {H':Hp} {Q:Unit→Shared→Prop} (hu:A.units+1 < cLine) (I:Inv X pins σ H s) (g:DPut H a y v H') (ry:RelV y u) (rv:RelV v r) (h:∀ s',Inv X pins σ H' s'→Q () s') :
    wpAny (model X.prog X.w) A (setItem (.ref a) u r) Q E s:=by
  rcases g with ⟨kvs,k,e,ey,l,eH⟩ | ⟨kvs,k,b,e,ey,eb,l,eH⟩
  · subst ey eH
    obtain ⟨z,hd,vs,rel,dd⟩:=dk_of I.hok e
    have hz:vs.length≤sizeLine:=by rw [← rel.length];exact z
    have hl:(putK kvs k v).length≤sizeLine:=by have:=length_putK kvs k v;omega
    refine wpAny_setItem_pairs (hsz:=hz) (kV_is ry) dd fun h' dd' hs=>h _ ?_
    have he:∃ q,h'.get? a=some q:=let ⟨q,_,_,hq,_⟩:=dd'; ⟨q,hq⟩
    exact d_write I (by rw [e];exact True.intro) hs he (dk_new hl hd (rel.put k rv) dd')
  · subst ey eH
    cases (show u=Value.ref b from ry)
    obtain ⟨z,hd,xs,rel,dd⟩:=dt_of I.hok e
    have hz:xs.length≤sizeLine:=by rw [← Paired.length rel];exact z
    have hl:(putK kvs k v).length≤sizeLine:=by have:=length_putK kvs k v;omega
    refine wpAny_setItem_heap (hsz:=hz) (tupleKind_room_in1 hu) (key_of I.hok eb) dd fun h' dd' hs=>h _ ?_
    obtain ⟨q,es,ep,hq,h2,h3,h4,_,h5⟩:=dd'
    refine d_write I (by rw [e];exact True.intro) hs ⟨q,hq⟩ ⟨hl,hd,_,(rel.put k eb rv).keeps fun c ys ec => ?_,q,es,ep,hq,h2,h3,h4,h5⟩
    rw [upd_ne (ne_of ec e (fun z=>nomatch z))]
    exact ec
end

section
variable {X:Cx} {pins:List (Addr × Obj)} {σ : St} {H:Hp} {s:Shared} {a:Addr} {kvs:List (Key × V)} {k:Key} {u:Value} {A:Around} {E:Value→Shared→Prop}
end


noncomputable def NoSl (i:Expr):Prop := ∀ ov iv,subscripted i false ov iv=operate [ov,iv] (getItem ov iv)
theorem subD_of {prog:Program} {w:World} {A:Around} {E:Value→Shared→Prop} {s:Shared} {env:Env} {value slice:Expr} {pos:Pos} {T id:String} {Q:Value→Shared→Prop}
    (hl:typeLookup (.type T) "__getitem__" = pure (some (.builtin id))) (hs:NoSl slice)
    (h:wpAny (model prog w) A (eval value env) (fun o s₁ => wpAny (model prog w) A (eval slice env) (fun i s₂ => s₂.TypeIs o T∧wpAny (model prog w) A (getItem o i) Q E s₂) E s₁) E s) :
    wpAny (model prog w) A (eval (.Subscript value slice pos) env) Q E s:=by
  refine Subscript_ (wpAny_mono h (fun o s₁ h₁ => wpAny_mono h₁ (fun i s₂ h₂ => ?_) fun _ _ x=>x) fun _ _ x=>x)
  obtain ⟨hT,h₂⟩:=h₂
  unfold subscriptTail
  refine wpAny_bind ?_
  rw [getitemInPython_of_ne hT.not_modules]
  refine wpAny_bind (wpAny_specialOf hT hl ?_)
  have fin:wpAny (model prog w) A (subscripted slice false o i) (fun r s₃ => wpAny (model prog w) A (letTemporaryGo value o r >>= fun _=>pure r) Q E s₃) E s₂ := by
    rw [hs o i]
    exact wpAny_operating (wpAny_mono h₂ (fun r s₃ h₃ => wpAny_bind (wpAny_letTemporaryGo (wpAny_pure h₃))) fun _ _ x=>x)
  first
    | exact wpAny_pure (wpAny_bind fin)
    | exact wpAny_bind (wpAny_pure (wpAny_bind fin))
    | exact wpAny_bind fin

theorem dict_typeIs {X:Cx} {pins:List (Addr × Obj)} {σ : St} {H:Hp} {s:Shared} {a:Addr} {y:V} {o:Option V} (I:Inv X pins σ H s) (g:DGet H a y o):s.TypeIs (.ref a) "dict" := by
  rcases g with ⟨kvs,k,e,_,_⟩ | ⟨kvs,k,b,e,_,_,_⟩
  · obtain ⟨_,_,vs,_,dd⟩:=dk_rd I.hok e
    exact dd.typeIs
  · obtain ⟨_,_,xs,_,dd⟩:=dt_rd I.hok e
    exact dd.typeIs

inductive J_tDGet (Q:VK) (x:V) (y:V) (H2:Hp):Prop
  | mk:∀ a v,(x = .ref a)→(DGet H2 a y (some v))→(Q v H2)→J_tDGet Q x y H2
noncomputable def tDGet (td ty:TE):TE:=fun σ H Q=>td σ H fun x H1=>ty σ H1 fun y H2=>J_tDGet Q x y H2
inductive J_tDIn (Q:VK) (y:V) (x:V) (H2:Hp):Prop
  | mk:∀ a o,(x = .ref a)→(DGet H2 a y o)→(Q (.bl o.isSome) H2)→J_tDIn Q y x H2
noncomputable def tDIn (ty td:TE):TE:=fun σ H Q=>ty σ H fun y H1=>td σ H1 fun x H2=>J_tDIn Q y x H2
inductive J_tDNotIn (Q:VK) (y:V) (x:V) (H2:Hp):Prop
  | mk:∀ a o,(x = .ref a)→(DGet H2 a y o)→(Q (.bl (!o.isSome)) H2)→J_tDNotIn Q y x H2
noncomputable def tDNotIn (ty td:TE):TE:=fun σ H Q=>ty σ H fun y H1=>td σ H1 fun x H2=>J_tDNotIn Q y x H2
inductive J_sDPut (D:Ends) (σ : St) (v:V) (x:V) (y:V) (H3:Hp):Prop
  | mk:∀ a H4,(x = .ref a)→(DPut H3 a y v H4)→(D.nx σ H4)→J_sDPut D σ v x y H3
noncomputable def sDPut (td ty tv:TE):TS:=fun D σ H=>tv σ H fun v H1=>td σ H1 fun x H2=>ty σ H2 fun y H3=>J_sDPut D σ v x y H3

section
variable {X:Cx} {o i e value:Expr} {pos pos' tpos:Pos} {td ty tv:TE}
theorem pe_dget (hu:X.A.units+1 < cLine) (ho:PE X o td) (hi:PE X i ty) (hs:NoSl i):PE X (.Subscript o i pos) (tDGet td ty):=by
  intro pins s σ H Q I h
  refine subD_of PySem.F.slot_dict_getitem.lookup hs (thn (ho pins s σ H _ I h) fun u s1 ⟨x,H1,I1,rx,q1⟩=>thn (hi pins s1 σ H1 _ I1 q1) fun iv s2 ⟨y,H2,I2,ry,a,v,ex,g,q2⟩ => ?_)
  subst ex
  obtain rfl:u=Value.ref a:=rx
  exact ⟨dict_typeIs I2 g,d_getItem hu I2 g ry fun w' s3 I3 rw'=>⟨v,H2,I3,rw',q2⟩⟩
theorem pc_din (hu:X.A.units+1 < cLine) (hi:PE X i ty) (ho:PE X o td):PC X .In i o (tDIn ty td):=by
  intro pins s σ H Q I h
  refine thn (hi pins s σ H _ I h) fun iv s1 ⟨y,H1,I1,ry,q1⟩=>thn (ho pins s1 σ H1 _ I1 q1) fun u s2 ⟨x,H2,I2,rx,a,ov,ex,g,q2⟩ => ?_
  subst ex
  obtain rfl:u=Value.ref a:=rx
  exact d_in hu I2 g ry fun s3 I3=>⟨.bl ov.isSome,H2,I3,rfl,q2⟩
theorem pc_dnotin (hu:X.A.units+1 < cLine) (hi:PE X i ty) (ho:PE X o td):PC X .NotIn i o (tDNotIn ty td):=by
  intro pins s σ H Q I h
  refine thn (hi pins s σ H _ I h) fun iv s1 ⟨y,H1,I1,ry,q1⟩=>thn (ho pins s1 σ H1 _ I1 q1) fun u s2 ⟨x,H2,I2,rx,a,ov,ex,g,q2⟩ => ?_
  subst ex
  obtain rfl:u=Value.ref a:=rx
  exact d_notIn hu I2 g ry fun s3 I3=>⟨.bl (!ov.isSome),H2,I3,rfl,q2⟩
theorem ps_dput (hu:X.A.units+1 < cLine) (ho:PE X o td) (hi:PE X i ty) (hv:PE X value tv) (hs:swapsWith value (some (.Subscript o i pos')) pos.line X.env=pure false) :
    PS X (.Assign [.Subscript o i pos'] value pos) (sDPut td ty tv):=by
  intro pins s σ H D I h
  refine wpAny_Assign_Subscript (thn (hv pins s σ H _ I h) fun r s1 ⟨v,H1,I1,rv,q1⟩=>thn (ho pins s1 σ H1 _ I1 q1) fun u s2 ⟨x,H2,I2,rx,q2⟩=>thn (hi pins s2 σ H2 _ I2 q2) fun iv s3 ⟨y,H3,I3,ry,a,H4,ex,g,q3⟩ => ?_) hs
  subst ex
  obtain rfl:u=Value.ref a:=rx
  exact d_setItem hu I3 g ry rv fun s4 I4=>⟨σ,H4,I4,q3⟩
end


theorem dk_empty {P:Program} {w:World} {H:Hp} (h:Heap) (hb:sysModules < h.objs.size):ObjOk P w H (h.push { cls := .type "dict",data := .dict #[] }) h.objs.size (.dK []) :=
  ⟨Nat.zero_le _,beq_eq_false_iff_ne.mpr (Ne.symm (Nat.ne_of_lt hb)), [],.nil,Heap.DictOf.new h⟩
noncomputable def tDNewK:TE:=fun _ H Q=>∀ p,H p=none→Q (.ref p) (upd H p (.dK []))
section
variable {X:Cx} {pos:Pos}
theorem pe_dnewK:PE X (.Dict [] [] pos) tDNewK:=fun pins s σ H Q I h =>
  wpAny_Dict_empty ⟨.ref s.heap.objs.size,_,I.laid (a:=s.heap.objs.size) (o := .dK []) (t':=s.toks) (fun _ _ q=>Heap.get?_push_of_some _ q) (Nat.le_refl _) (dk_empty s.heap I.big),rfl,h _ (I.hok.fresh (Nat.le_refl _))⟩
end

noncomputable def tPairs:List (TE × TE)→St→Hp→(List (V × V)→Hp→Prop)→Prop
  | [],_,H,Q=>Q [] H
  | (tk,tv) :: r, σ,H,Q=>tk σ H fun x H1=>tv σ H1 fun y H2=>tPairs r σ H2 fun ps H3=>Q ((x,y) :: ps) H3
noncomputable abbrev VV:List (V × V)→List (Value × Value)→Prop:=Paired fun p q=>RelV p.1 q.1∧RelV p.2 q.2
noncomputable def PPs (X:Cx) (pos:Pos) (keys:List (Option Expr)) (values:List Expr) (trs:List (TE × TE)):Prop :=
  ∀ (pins:List (Addr × Obj)) (s:Shared) (σ : St) (H:Hp) (Q:List (V × V)→Hp→Prop),Inv X pins σ H s→tPairs trs σ H Q →
    wpAny (model X.prog X.w) X.A (evalPairs (pairTrees keys values X.env pos)) (fun vs s'=>∃ ps H',Inv X pins σ H' s'∧VV ps vs∧Q ps H') X.xe s
theorem pps_nil {X:Cx} {pos:Pos}:PPs X pos [] [] []:=fun pins s σ H Q I h=>pairTrees_nil_walk ⟨[],H,I,.nil,h⟩
theorem pps_cons {X:Cx} {pos:Pos} {k v:Expr} {ks:List (Option Expr)} {vs:List Expr} {tk tv:TE} {trs:List (TE × TE)} (hk:PE X k tk) (hv:PE X v tv) (hr:PPs X pos ks vs trs) :
    PPs X pos (some k :: ks) (v :: vs) ((tk,tv) :: trs):=fun pins s σ H Q I h =>
  pairTrees_cons_walk (thn (hk pins s σ H _ I h) fun u s1 ⟨x,H1,I1,rx,q1⟩=>thn (hv pins s1 σ H1 _ I1 q1) fun w2 s2 ⟨y,H2,I2,ry,q2⟩ =>
    thn (hr pins s2 σ H2 _ I2 q2) fun ws s3 ⟨ps,H3,I3,rel,q3⟩=>⟨(x,y) :: ps,H3,I3,.cons ⟨rx,ry⟩ rel,q3⟩)

noncomputable def mergeK (kvs more:List (Key × V)):List (Key × V):=more.foldl (fun acc kv=>putK acc kv.1 kv.2) kvs
theorem KV.merge:∀ {more:List (Key × V)} {rs:List (Key × Value)} {kvs:List (Key × V)} {vs:List (Key × Value)},KV more rs→KV kvs vs→KV (mergeK kvs more) (merged vs rs):=by
  intro more rs kvs vs r
  unfold KV at r
  induction r generalizing kvs vs with
  | nil=>intro q;exact q
  | @cons p q ps qs h t ih =>
    intro r0
    have e:KV (putK kvs p.1 p.2) (stored vs q.1 q.2):=by
      have:=r0.put p.1 h.2
      rw [← h.1];exact this
    exact ih e
theorem length_mergeK:∀ (more kvs:List (Key × V)),(mergeK kvs more).length≤kvs.length+more.length
  | [],kvs=>by show kvs.length≤kvs.length+0;omega
  | p :: r,kvs=>by
    have h1:=length_mergeK r (putK kvs p.1 p.2)
    have h2:=length_putK kvs p.1 p.2
    show (mergeK (putK kvs p.1 p.2) r).length≤_
    rw [List.length_cons];omega
theorem carries_of {P:Program} {w:World}:∀ {kvs:List (Key × V)} {ws:List (Value × Value)},VV (kvs.map fun kv=>(kV kv.1,kv.2)) ws→∃ rs,Carries (mixKind P w) ws rs∧KV kvs rs
  | [],_,r=>by rw [List.map_nil] at r;cases r;exact ⟨[],True.intro,.nil⟩
  | p :: kvs,_,r=>by
    rw [List.map_cons] at r
    cases r with
    | @cons a b as bs h t =>
      obtain ⟨rs,c,q⟩:=carries_of (P:=P) (w:=w) t
      obtain ⟨b1,b2⟩:=b
      exact ⟨(p.1,b2) :: rs,⟨kV_is h.1,rfl,c⟩,.cons ⟨rfl,h.2⟩ q⟩
noncomputable def tDisp (trs:List (TE × TE)):TE:=fun σ H Q=>∀ p,H p=none→tPairs trs σ (upd H p (.dK [])) fun ps H2=>H2 p=some (.dK [])∧∃ kvs:List (Key × V),ps=kvs.map (fun kv=>(kV kv.1,kv.2))∧kvs.length≤15∧Q (.ref p) (upd H2 p (.dK (mergeK [] kvs)))
theorem pe_disp {X:Cx} {pos:Pos} {keys:List (Option Expr)} {values:List Expr} {trs:List (TE × TE)} (h:PPs X pos keys values trs) (hall:keys.all (·.isSome)=true) (hl:keys.length=values.length) (h0:keys ≠ [])
    (h15:keys.length≤15):PE X (.Dict keys values pos) (tDisp trs):=by
  intro pins s σ H Q I q
  have hn:=I.hok.fresh (Nat.le_refl s.heap.objs.size)
  have I1:=I.laid (a:=s.heap.objs.size) (o := .dK []) (h':=s.heap.push { cls := .type "dict",data := .dict #[] }) (t':=s.toks) (fun _ _ q=>Heap.get?_push_of_some _ q) (Nat.le_refl _) (dk_empty s.heap I.big)
  refine wpAny_Dict_walk (knd:=mixKind X.prog X.w) hall hl h0 h15 (thn (h pins _ σ _ _ I1 (q _ hn)) fun ws s2 ⟨ps,H2,I2,rel,e,kvs,ep,lk,q2⟩ => ?_)
  subst ep
  obtain ⟨rs,c,rk⟩:=carries_of (P:=X.prog) (w:=X.w) rel
  obtain ⟨z,hd,vs0,r0,dd⟩:=dk_of I2.hok e
  cases r0
  refine ⟨rs,c,dd,fun h' dd' hs=>⟨.ref s.heap.objs.size,_,?_,rfl,q2⟩⟩
  have hz:(mergeK [] kvs).length≤sizeLine:=by
    have h1:=length_mergeK kvs []
    rw [List.length_nil] at h1
    rw [sizeLine_eq];omega
  have he:∃ q,h'.get? s.heap.objs.size=some q:=let ⟨q,_,_,hq,_⟩:=dd'; ⟨q,hq⟩
  exact d_write I2 (by rw [e];exact True.intro) hs he (dk_new hz hd (rk.merge .nil) dd')


structure M2 (X:Cx) (o:Expr) (m:Str) (apos:Pos) (e f:Expr) (cpos:Pos):Prop where
  base:attributeBase o m X.env (eval o X.env)=eval o X.env
  few:((backTo cpos (starEach [e,f] X.env)).all (fun x => !x.1) && (backToKw cpos (keywordEach [] X.env)).all (fun x=>x.1.isSome)
    && decide (([e,f]:List Expr).length+([]:List Keyword).length+(if ([]:List Keyword).isEmpty then 0 else 1) < 30))=true
  line:(apos.endLine == cpos.line)=true
  trees:backTo cpos (starEach [e,f] X.env) = [(false,eval e X.env),(false,eval f X.env)]

noncomputable def IsD (H:Hp) (a:Addr):Prop:=(∃ kvs,Rd H a (.dK kvs))∨∃ kvs,Rd H a (.dT kvs)
theorem isD_at {X:Cx} {pins:List (Addr × Obj)} {σ : St} {H:Hp} {s:Shared} {a:Addr} (I:Inv X pins σ H s) (d:IsD H a) :
    s.TypeIs (.ref a) "dict" ∧ (∀ b,Value.ref a = .ref b→∃ ob,s.heap.get? b=some ob∧ob.dict=none)∧(a == sysModules)=false:=by
  rcases d with ⟨kvs,e⟩ | ⟨kvs,e⟩
  · obtain ⟨_,hd,vs,_,dd⟩:=dk_rd I.hok e
    refine ⟨dd.typeIs,fun b q => ?_,hd⟩
    cases q
    obtain ⟨ob,_,_,h1,h2,_⟩:=dd
    exact ⟨ob,h1,h2.2.1⟩
  · obtain ⟨_,hd,xs,_,dd⟩:=dt_rd I.hok e
    refine ⟨dd.typeIs,fun b q => ?_,hd⟩
    cases q
    obtain ⟨ob,_,_,h1,h2,_⟩:=dd
    exact ⟨ob,h1,h2.2.1⟩

section
variable {X:Cx} {pins:List (Addr × Obj)} {σ : St} {H:Hp} {s:Shared} {a:Addr} {y d:V} {u r:Value} {o:Option V} {A:Around} {E:Value→Shared→Prop}
theorem d_get2 {Q:Value→Shared→Prop} (hu:A.units+1 < cLine) (I:Inv X pins σ H s) (g:DGet H a y o) (ry:RelV y u) (rd:RelV d r) (h:∀ w' s',Inv X pins σ H s'→RelV (o.getD d) w'→Q w' s') :
    wpAny (model X.prog X.w) A (call (.builtin "dict.get") [.ref a,u,r]) Q E s:=by
  rcases g with ⟨kvs,k,e,ey,l⟩ | ⟨kvs,k,b,e,ey,eb,l⟩
  · subst ey
    obtain ⟨z,hd,vs,rel,dd⟩:=dk_rd I.hok e
    refine call_meetsIn PySem.F.slot_dict_get dd.typeIs PySem.F.entry_dict_get (PySem.F.args_dict_get_3 _ _ _) (meets_dict_get_default (mixKind X.prog X.w) a (kV_is ry) hd r) ⟨_,dd.mapOf,h _ _ (I.tok _) ?_⟩
    rw [l]
    exact (rel.val k).getD rd
  · subst ey
    cases (show u=Value.ref b from ry)
    obtain ⟨z,hd,xs,rel,dd⟩:=dt_rd I.hok e
    refine call_meetsIn PySem.F.slot_dict_get dd.typeIs PySem.F.entry_dict_get (PySem.F.args_dict_get_3 _ _ _) (meetsH_dict_get_default (tupleKind (mixKind X.prog X.w)) a b hd r) ⟨tupleKind_room_in1 hu,k,xs,key_of I.hok eb,dd,h _ _ (I.tok _) ?_⟩
    rw [l]
    exact (rel.val k).getD rd
end

inductive J_tDGet2 (ty:TE) (tx:TE) (σ : St) (Q:VK) (x:V) (H1:Hp):Prop
  | mk:∀ a,(x = .ref a)→(IsD H1 a)→(ty σ H1 fun y H2=>tx σ H2 fun z H3=>∃ o,DGet H3 a y o∧Q (o.getD z) H3)→J_tDGet2 ty tx σ Q x H1
noncomputable def tDGet2 (td ty tx:TE):TE:=fun σ H Q=>td σ H fun x H1=>J_tDGet2 ty tx σ Q x H1
section
variable {X:Cx} {o e f:Expr} {apos cpos:Pos} {td ty tx:TE}
theorem pe_dget2 (hu:X.A.units+1 < cLine) (ho:PE X o td) (he:PE X e ty) (hf:PE X f tx) (m:M2 X o "get" apos e f cpos):PE X (.Call (.Attribute o "get" apos) [e,f] [] cpos) (tDGet2 td ty tx):=by
  intro pins s σ H Q I h
  refine wpAny_Call_method m.base m.few m.line PySem.F.plainAttrs_dict PySem.F.slot_dict_get PySem.F.type_dict_get (thn (ho pins s σ H _ I h) fun u s1 ⟨x,H1,I1,rx,a,ex,d,q1⟩ => ?_)
  subst ex
  obtain rfl:u=Value.ref a:=rx
  obtain ⟨t1,t2,_⟩:=isD_at I1 d
  refine ⟨t1,t2,?_⟩
  rw [m.trees]
  refine Calls.callWith_builtin rfl (Calls.evalArgs_plain (Calls.spliced_cons (thn (he pins s1 σ H1 _ I1 q1) fun iv s2 ⟨y,H2,I2,ry,q2⟩ =>
    Calls.spliced_cons (thn (hf pins s2 σ H2 _ I2 q2) fun fv s3 ⟨z,H3,I3,rz,ov,g,q3⟩=>Calls.spliced_nil ?_))))
  exact d_get2 hu I3 g ry rz fun w' s4 I4 rw'=>⟨_,H3,I4,rw',q3⟩
end

section
variable {X:Cx} {pins:List (Addr × Obj)} {σ : St} {H:Hp} {s:Shared} {a:Addr} {kvs:List (Key × V)} {A:Around} {E:Value→Shared→Prop}
end


section
variable {X:Cx} {pins:List (Addr × Obj)} {σ : St} {H:Hp} {s:Shared} {a:Addr} {y:V} {u:Value} {A:Around} {E:Value→Shared→Prop}
end
end L2
namespace L2
open PySem PySem.Spec PyProof.Rows

noncomputable abbrev NK:=List (Sum Key (List Key))
noncomputable def kD:Key→D
  | .inl i => .int i
  | .inr x => .str x
noncomputable def iD:Sum Key (List Key)→D
  | .inl k=>kD k
  | .inr l => .tup (l.map kD)
noncomputable def nkD (k:NK):D := .tup (k.map iD)
theorem kD_inj {a b:Key} (e:kD a=kD b):a=b:=by
  cases a with
  | inl i=>cases b with
    | inl j=>have e':D.int i=D.int j:=e;injection e' with e';rw [e']
    | inr y=>exact nomatch (show D.int i=D.str y from e)
  | inr x=>cases b with
    | inl j=>exact nomatch (show D.str x=D.int j from e)
    | inr y=>have e':D.str x=D.str y:=e;injection e' with e';rw [e']
theorem map_inj_of {α β : Type} {f : α → β} (hf:∀ a b,f a=f b→a=b):∀ {x y:List α},x.map f=y.map f→x=y
  | [], [],_=>rfl
  | [],_ :: _,e=>by simp at e
  | _ :: _, [],e=>by simp at e
  | a :: xs,b :: ys,e=>by
    rw [List.map_cons,List.map_cons] at e
    injection e with e1 e2
    rw [hf _ _ e1,map_inj_of hf e2]
theorem iD_inj {a b:Sum Key (List Key)} (e:iD a=iD b):a=b:=by
  cases a with
  | inl i=>cases b with
    | inl j=>rw [kD_inj e]
    | inr y=>cases i <;> exact nomatch e
  | inr x=>cases b with
    | inl j=>cases j <;> exact nomatch e
    | inr y =>
      have e':D.tup (x.map kD)=D.tup (y.map kD):=e
      injection e' with e'
      rw [map_inj_of (fun _ _=>kD_inj) e']
theorem nkD_inj {a b:NK} (e:nkD a=nkD b):a=b:=by
  have e':D.tup (a.map iD)=D.tup (b.map iD):=e
  injection e' with e'
  exact map_inj_of (fun _ _=>iD_inj) e'
section
variable (P:Program) (w:World)
noncomputable def NIt (h:Heap):NK→List Value→Prop
  | [],us=>us = []
  | .inl k :: ks,us=>∃ u us',us=u :: us'∧(mixKind P w).is k u=true∧NIt h ks us'
  | .inr l :: ks,us=>∃ b us',us=Value.ref b :: us'∧IsTupleKey (mixKind P w) h l b∧NIt h ks us'
noncomputable def IsNK (h:Heap) (k:NK) (a:Addr):Prop := ∃ us:List Value,IsTup h a us.toArray∧NIt P w h k us
noncomputable def iHash:Sum Key (List Key)→Int
  | .inl k=>(mixKind P w).hash k
  | .inr l=>tupleKeyHash (mixKind P w) l
noncomputable def iDraws:Sum Key (List Key)→Nat
  | .inl _=>1
  | .inr l=>l.length+1
noncomputable def nkHash (k:NK):Int:=reduceHash (Builtin.Tuple.tupleHashOf (k.map (iHash P w)))
noncomputable def nkDraws (k:NK):Nat:=(k.map iDraws).sum+1
end
section
variable {P:Program} {w:World} {h h':Heap}
theorem NIt.inj:∀ {x y:NK} {us:List Value},NIt P w h x us→NIt P w h y us→x=y
  | [], [],us,_,_=>rfl
  | [],.inl k :: ks,us,r,q=>by rw [NIt] at r;rw [NIt] at q;subst r;obtain ⟨_,_,z,_⟩:=q;cases z
  | [],.inr k :: ks,us,r,q=>by rw [NIt] at r;rw [NIt] at q;subst r;obtain ⟨_,_,z,_⟩:=q;cases z
  | .inl k :: ks, [],us,r,q=>by rw [NIt] at r;rw [NIt] at q;subst q;obtain ⟨_,_,z,_⟩:=r;cases z
  | .inr k :: ks, [],us,r,q=>by rw [NIt] at r;rw [NIt] at q;subst q;obtain ⟨_,_,z,_⟩:=r;cases z
  | .inl k :: ks,.inl l :: ls,us,r,q=>by
    rw [NIt] at r;rw [NIt] at q
    obtain ⟨u,us',rfl,r1,r⟩:=r
    obtain ⟨u',us'',z,q1,q⟩:=q
    cases z
    rw [(mixKind P w).inj _ _ _ r1 q1,NIt.inj r q]
  | .inr k :: ks,.inr l :: ls,us,r,q=>by
    rw [NIt] at r;rw [NIt] at q
    obtain ⟨u,us',rfl,r1,r⟩:=r
    obtain ⟨u',us'',z,q1,q⟩:=q
    cases z
    rw [r1.inj q1,NIt.inj r q]
  | .inl k :: ks,.inr l :: ls,us,r,q=>by
    rw [NIt] at r;rw [NIt] at q
    obtain ⟨u,us',rfl,r1,r⟩:=r
    obtain ⟨u',us'',z,q1,q⟩:=q
    cases z
    rcases keyIs_shape r1 with ⟨i,t,_,e⟩ | ⟨x,t,_,e⟩ <;> cases e
  | .inr k :: ks,.inl l :: ls,us,r,q=>by
    rw [NIt] at r;rw [NIt] at q
    obtain ⟨u,us',rfl,r1,r⟩:=r
    obtain ⟨u',us'',z,q1,q⟩:=q
    cases z
    rcases keyIs_shape q1 with ⟨i,t,_,e⟩ | ⟨x,t,_,e⟩ <;> cases e
theorem NIt.keeps {d:Addr} {o:Obj} {es ep} (ho:h.get? d=some o) (hd:o.data = .dict es ep) (hs:Heap.SameBut d h h'):∀ {k:NK} {us:List Value},NIt P w h k us→NIt P w h' k us
  | [],us,r=>by rw [NIt] at r ⊢;exact r
  | .inl k :: ks,us,r=>by
    rw [NIt] at r ⊢
    obtain ⟨u,us',e,r1,r⟩:=r
    exact ⟨u,us',e,r1,NIt.keeps ho hd hs r⟩
  | .inr k :: ks,us,r=>by
    rw [NIt] at r ⊢
    obtain ⟨u,us',e,r1,r⟩:=r
    exact ⟨u,us',e,r1.keeps ho hd hs,NIt.keeps ho hd hs r⟩
theorem IsNK.inj {x y:NK} {a:Addr} (r:IsNK P w h x a) (q:IsNK P w h y a):x=y:=by
  obtain ⟨us,p,r⟩:=r
  obtain ⟨us',p',q⟩:=q
  have e:us=us':=by have:=tup_seq p p';simpa using this
  subst e
  exact r.inj q
theorem IsNK.keeps {k:NK} {a d:Addr} {o:Obj} {es ep} (r:IsNK P w h k a) (ho:h.get? d=some o) (hd:o.data = .dict es ep) (hs:Heap.SameBut d h h'):IsNK P w h' k a:=by
  obtain ⟨us,⟨o',e',c',n',d'⟩,r⟩:=r
  have hne:a≠d:=by
    rintro rfl
    rw [ho] at e';cases e'
    rw [hd] at d';cases d'
  exact ⟨us,⟨o',(hs.2 a hne).trans e',c',n',d'⟩,r.keeps ho hd hs⟩
theorem key_denR {k:Key} {u:Value} (r:(mixKind P w).is k u=true):DenR h (kD k) u:=by
  rcases keyIs_shape r with ⟨i,t,rfl,rfl⟩ | ⟨x,t,rfl,rfl⟩
  · show DenR h (.int i) _
    rw [DenR];exact .inl ⟨t,rfl⟩
  · show DenR h (.str x) _
    rw [DenR];exact ⟨t,rfl⟩
theorem items_denR {ks:List Key} {us:List Value} (r:ItemsAre (mixKind P w) ks us):DenRs h (ks.map kD) us:=by
  induction r with
  | nil=>rw [List.map_nil,DenRs]
  | cons r1 _ ih=>rw [List.map_cons,DenRs];exact ⟨_,_,rfl,key_denR r1,ih⟩
theorem NIt.denR:∀ {k:NK} {us:List Value},NIt P w h k us→DenRs h (k.map iD) us
  | [],us,r=>by rw [NIt] at r;rw [List.map_nil,DenRs];exact r
  | .inl k :: ks,us,r=>by
    rw [NIt] at r
    obtain ⟨u,us',e,r1,r⟩:=r
    rw [List.map_cons,DenRs]
    exact ⟨u,us',e,key_denR r1,NIt.denR r⟩
  | .inr k :: ks,us,r=>by
    rw [NIt] at r
    obtain ⟨b,us',e,⟨o,its,n,g,c,d,i⟩,r⟩:=r
    rw [List.map_cons,DenRs]
    refine ⟨_,us',e,?_,NIt.denR r⟩
    show DenR h (.tup (k.map kD)) _
    rw [DenR]
    exact ⟨b,its.toList,rfl,⟨o,g,c,n,by simpa using d⟩,items_denR i⟩
theorem IsNK.denR {k:NK} {a:Addr} (r:IsNK P w h k a):DenR h (nkD k) (.ref a):=by
  obtain ⟨us,p,r⟩:=r
  rw [nkD,DenR]
  exact ⟨a,us,rfl,p,r.denR⟩
theorem kDs_deep:∀ l:List Key,D.deeps (l.map kD)=0
  | []=>by rw [List.map_nil,D.deeps]
  | .inl k :: ks=>by rw [List.map_cons,D.deeps,kDs_deep ks];show max (D.deep (.int k)) 0=0;rw [D.deep];rfl
  | .inr k :: ks=>by rw [List.map_cons,D.deeps,kDs_deep ks];show max (D.deep (.str k)) 0=0;rw [D.deep];rfl
theorem nk_deeps:∀ l:NK,D.deeps (l.map iD)≤1
  | []=>by rw [List.map_nil,D.deeps];omega
  | .inl (.inl k) :: ks=>by rw [List.map_cons,D.deeps];have:=nk_deeps ks;show max (D.deep (.int k)) _≤1;rw [D.deep];omega
  | .inl (.inr k) :: ks=>by rw [List.map_cons,D.deeps];have:=nk_deeps ks;show max (D.deep (.str k)) _≤1;rw [D.deep];omega
  | .inr l :: ks=>by rw [List.map_cons,D.deeps];have:=nk_deeps ks;show max (D.deep (.tup (l.map kD))) _≤1;rw [D.deep,kDs_deep];omega
theorem nk_deep (k:NK):(nkD k).deep≤2:=by rw [nkD,D.deep];have:=nk_deeps k;omega
end
section
variable {P:Program} {w:World} {A:Around} {E:Value→Shared→Prop} {s:Shared}
theorem wpAny_eqBool_nk {x y:NK} {a b:Addr} {Q:Bool→Shared→Prop} (hu:A.units+5 < cLine) (hx:IsNK P w s.heap x a) (hy:IsNK P w s.heap y b) (h:Q (decide (x=y)) s) :
    wpAny (model P w) A (eqBool (.ref a) (.ref b)) Q E s:=by
  refine eqAt_D 2 (nk_deep x) hx.denR hy.denR (by omega) P w E Q ?_
  have e:decide (nkD x=nkD y)=decide (x=y):=decide_eq_decide.mpr ⟨nkD_inj,fun z=>by rw [z]⟩
  rw [e];exact h
theorem quiet_flat {K:Type} [DecidableEq K] {knd:KeyKind P w K} (n:Nat) {ks:List K} {a:Addr} {Q:Bool→Shared→Prop} (hk:IsTupleKey knd s.heap ks a) (h:Q true s):wpAny (model P w) A (eqIsQuiet (n+1) (.ref a)) Q E s:=by
  have hT:=hk.typeIs
  obtain ⟨o,items,m,ho,_,hd,hi⟩:=hk
  unfold eqIsQuiet
  refine wpAny_bind (wpAny_specialOf hT F.slot_tuple_eq.lookup ?_)
  show wpAny _ _ (isInstance (.ref a) (.type "tuple") >>= _) _ _ s
  refine wpAny_bind (wpAny_isInstance hT isSubtype_tuple_tuple ?_)
  simp only [Bool.not_true,Bool.false_eq_true,if_false]
  refine wpAny_bind (wpAny_seqItems ho hd ?_)
  refine wpAny_bind ?_
  show wpAny _ _ (forIn items _ _) _ _ s
  rw [← Array.forIn_toList]
  refine wpAny_forIn_list _ (fun rest r s'=>r.1=none∧s'=s∧∀ v∈rest,carriedByValue v=true) _ ?_ ?_ _ _ ⟨rfl,rfl,hi.byValue⟩
  · rintro v rest r s' ⟨hr,rfl,hall⟩
    rw [eqIsQuiet_byValue _ (hall v List.mem_cons_self)]
    refine wpAny_bind (wpAny_pure ?_)
    simp only [Bool.not_true,Bool.false_eq_true,if_false]
    exact wpAny_pure ⟨rfl,rfl,fun u hu'=>hall u (List.mem_cons_of_mem _ hu')⟩
  · rintro ⟨r1,r2⟩ s' ⟨hr,rfl,_⟩
    simp only at hr
    subst hr
    exact wpAny_pure h
theorem quiet_nk {k:NK} {a:Addr} {Q:Bool→Shared→Prop} (hk:IsNK P w s.heap k a) (h:Q true s):wpAny (model P w) A (eqIsQuiet 8 (.ref a)) Q E s:=by
  obtain ⟨us,p,hi⟩:=hk
  have hT:s.TypeIs (.ref a) "tuple" := p.typeIs
  obtain ⟨o,ho,_,m,hd⟩:=p
  unfold eqIsQuiet
  refine wpAny_bind (wpAny_specialOf hT F.slot_tuple_eq.lookup ?_)
  show wpAny _ _ (isInstance (.ref a) (.type "tuple") >>= _) _ _ s
  refine wpAny_bind (wpAny_isInstance hT isSubtype_tuple_tuple ?_)
  simp only [Bool.not_true,Bool.false_eq_true,if_false]
  refine wpAny_bind (wpAny_seqItems ho hd ?_)
  refine wpAny_bind ?_
  show wpAny _ _ (forIn us.toArray _ _) _ _ s
  rw [← Array.forIn_toList]
  refine wpAny_forIn_list _ (fun rest r s'=>r.1=none∧s'=s∧∃ left,NIt P w s.heap left rest) _ ?_ ?_ _ _ ⟨rfl,rfl,k,by simpa using hi⟩
  · rintro v rest r s' ⟨hr,rfl,left,hl⟩
    cases left with
    | nil=>rw [NIt] at hl;cases hl
    | cons i left =>
      cases i with
      | inl k =>
        rw [NIt] at hl
        obtain ⟨u,us',e,r1,hl⟩:=hl
        cases e
        rw [eqIsQuiet_byValue _ ((mixKind P w).byValue _ _ r1)]
        refine wpAny_bind (wpAny_pure ?_)
        simp only [Bool.not_true,Bool.false_eq_true,if_false]
        exact wpAny_pure ⟨rfl,rfl,left,hl⟩
      | inr l =>
        rw [NIt] at hl
        obtain ⟨b,us',e,r1,hl⟩:=hl
        cases e
        refine wpAny_bind (quiet_flat 6 r1 ?_)
        simp only [Bool.not_true,Bool.false_eq_true,if_false]
        exact wpAny_pure ⟨rfl,rfl,left,hl⟩
  · rintro ⟨r1,r2⟩ s' ⟨hr,rfl,_⟩
    simp only at hr
    subst hr
    exact wpAny_pure h
theorem wpAny_pyHash_nk {k:NK} {a:Addr} {Q:Int→Shared→Prop} (hu:A.units+5 < cLine) (hk:IsNK P w s.heap k a) (h:Q (nkHash P w k) { s with toks:=s.toks+nkDraws k }) :
    wpAny (model P w) A (pyHash (.ref a)) Q E s:=by
  obtain ⟨us,p,hi⟩:=hk
  have hT:s.TypeIs (.ref a) "tuple" := p.typeIs
  obtain ⟨o,ho,_,n,hd⟩:=p
  unfold pyHash
  first | unfold pyHashByItsType | skip
  first | refine wpAny_bind (wpAny_cRoomFor_or (.inr (by omega)) ?_) | skip
  refine wpAny_bind (wpAny_specialOf hT F.slot_tuple_hash.lookup ?_)
  show wpAny _ _ (if (some (Value.builtin "tuple.__hash__") == some Value.none)=true then _ else _) Q E s
  rw [if_neg (by rw [beq_builtin_none];exact Bool.false_ne_true)]
  refine wpAny_bind (wpAny_specialOf hT F.slot_tuple_hash.lookup ?_)
  show wpAny _ _ (callSpecialIfBoundUnlessNone? (.ref a) "__hash__" _ >>= _) Q E s
  refine wpAny_bind (wpAny_callSpecialIfBoundUnlessNone?_slot hT F.slot_tuple_hash (wpAny_call_entry F.slot_tuple_hash hT F.entry_tuple_hash ?_ (F.args_tuple_hash_1 _)))
  show wpAny _ _ (Builtin.Tuple.tupleItemsOf (.ref a) >>= _) _ _ s
  refine wpAny_bind (wpAny_tupleItemsOf ho hd ?_)
  refine wpAny_bind ?_
  rw [← Array.forIn_toList]
  refine wpAny_forIn_list _
    (fun rest (b:Array Int) s'=>∃ done left:NK,k=done ++ left∧NIt P w s.heap left rest∧b.toList=done.map (iHash P w)∧s'={ s with toks:=s.toks+(done.map iDraws).sum })
    _ ?_ ?_ _ _ ⟨[],k,rfl,by simpa using hi,rfl,rfl⟩
  · rintro x rest b s' ⟨done,left,rfl,hl,hb,rfl⟩
    cases left with
    | nil=>rw [NIt] at hl;cases hl
    | cons i left =>
      cases i with
      | inl k =>
        rw [NIt] at hl
        obtain ⟨u,us',e,r1,hl⟩:=hl
        cases e
        refine wpAny_bind ((mixKind P w).pyHash r1 ?_)
        first
          | exact wpAny_pure ⟨done ++ [.inl k],left,by simp,hl,by simp [hb,iHash],by simp [Nat.add_assoc,iDraws]⟩
          | exact wpAny_bind (wpAny_pure (wpAny_pure ⟨done ++ [.inl k],left,by simp,hl,by simp [hb,iHash],by simp [Nat.add_assoc,iDraws]⟩))
      | inr l =>
        rw [NIt] at hl
        obtain ⟨c,us',e,r1,hl⟩:=hl
        cases e
        refine wpAny_bind (wpAny_pyHash_tuple (by show A.units+1 < cLine;omega) r1 ?_)
        first
          | exact wpAny_pure ⟨done ++ [.inr l],left,by simp,hl,by simp [hb,iHash],by simp [Nat.add_assoc,iDraws]⟩
          | exact wpAny_bind (wpAny_pure (wpAny_pure ⟨done ++ [.inr l],left,by simp,hl,by simp [hb,iHash],by simp [Nat.add_assoc,iDraws]⟩))
  · rintro b s' ⟨done,left,rfl,hl,hb,rfl⟩
    have e:left = []:=by
      cases left with
      | nil=>rfl
      | cons i left=>cases i <;> rw [NIt] at hl <;> obtain ⟨_,_,z,_⟩:=hl <;> cases z
    subst e
    rw [List.append_nil] at h
    show wpAny _ _ (retInt (Builtin.Tuple.tupleHashOf b.toList)) _ _ _
    rw [hb]
    refine wpAny_ret_mkInt ?_
    show wpAny _ _ (if (decide (-(2:Int) ^ 63≤Builtin.Tuple.tupleHashOf (done.map (iHash P w))) && decide (Builtin.Tuple.tupleHashOf (done.map (iHash P w)) < 2 ^ 63))=true then _ else _) Q E _
    unfold nkHash reduceHash nkDraws at h
    by_cases hr:(decide (-(2:Int) ^ 63≤Builtin.Tuple.tupleHashOf (done.map (iHash P w))) && decide (Builtin.Tuple.tupleHashOf (done.map (iHash P w)) < 2 ^ 63))=true
    · rw [if_pos hr]
      rw [if_pos hr] at h
      exact wpAny_pure (by simpa [Nat.add_assoc] using h)
    · rw [if_neg hr]
      rw [if_neg hr] at h
      exact wpAny_bind (wpAny_rule (wpAny_pure (by simpa [Nat.add_assoc] using h)))
end
noncomputable def nkKind (P:Program) (w:World):HeapKind P w NK where
  is:=IsNK P w
  hash:=nkHash P w
  draws:=nkDraws
  room:=fun A=>A.units+5 < cLine
  inj:=fun hx hy=>hx.inj hy
  keeps:=fun x ho hd hs=>x.keeps ho hd hs
  pyHash:=fun hu hk h=>wpAny_pyHash_nk hu hk h
  eqBool:=fun hu hx hy h=>wpAny_eqBool_nk hu hx hy h
  quiet:=fun hk h=>quiet_nk hk h

section
variable {prog:Program} {w:World} {K:Type} [DecidableEq K] {knd:HeapKind prog w K} {A:Around} {E:Value→Shared→Prop} {s:Shared} {d a:Addr} {k:K} {xs:List (K × Addr × Value)}
theorem wpAny_dictSetDefault_heap {dflt:Value} {Q:Value→Shared→Prop} (hu:knd.room A) (hkey:knd.is s.heap k a) (hm:s.heap.DictOfH knd d xs)
    (hthere:∀ p,atKey xs k=some p→Q p.2 { s with toks:=s.toks+knd.draws k })
    (hnew:atKey xs k=none→∀ h',h'.DictOfH knd d (xs ++ [(k,a,dflt)])→Heap.SameBut d s.heap h'→Q dflt { s with heap:=h',toks:=s.toks+knd.draws k })
    (hsz:xs.length≤sizeLine):wpAny (model prog w) A (dictSetDefault d (.ref a) dflt) Q E s:=by
  obtain ⟨o,es,ep,ho,hc,hd,he,his,hn⟩:=hm
  unfold dictSetDefault
  try with_reducible refine wpAny_holding ?_
  refine wpAny_bind (knd.pyHash hu hkey ?_)
  refine wpAny_bind (wpAny_dictFind_heap (s := { s with toks:=s.toks+knd.draws k }) hu hkey ho hd he his hn ?_ ?_)
  · intro hno
    have hnot:k ∉ xs.map (·.1):=not_mem_keys_of_get hno
    refine wpAny_bind (wpAny_rule (wpAny_bind (wpAny_updateDictKeys (hz:=by have e:=size_of_entries he;omega) (s := { s with toks:=s.toks+knd.draws k }) ho hd (wpAny_pure (hnew (atKey_none_of_get hno) _ ⟨_,_,ep+1,Heap.get?_update_self _ ho (Obj.isFreed_of_dict (Obj.data_mapDictKeys hd _)),
      hc.mapDictKeys _,Obj.data_mapDictKeys hd _,?_,?_,?_⟩ (Heap.SameBut.update ..))))))
    · simp [he,entryOfKey]
    · intro x hx
      rcases List.mem_append.mp hx with hx | hx
      · exact knd.keeps (his x hx) ho hd (Heap.SameBut.update ..)
      · simp only [List.mem_singleton] at hx
        subst hx
        exact knd.keeps hkey ho hd (Heap.SameBut.update ..)
    · rw [List.map_append,List.nodup_append]
      refine ⟨hn,by simp,?_⟩
      intro x hx y hy
      simp only [List.map_cons,List.map_nil,List.mem_singleton] at hy
      subst hy
      exact fun e=>hnot (e ▸ hx)
  · intro j p hj
    refine wpAny_bind (wpAny_dictEntries (s := { s with toks:=s.toks+knd.draws k }) ho hd ?_)
    rw [entry_at he j,hj]
    exact wpAny_bind (wpAny_rule (wpAny_pure (hthere p (atKey_of_get hn hj))))
end
section
variable {prog:Program} {w:World} {K:Type} [DecidableEq K] (knd:HeapKind prog w K) (d a:Addr)
theorem meetsH_dict_setdefault (hd:(d == sysModules)=false) (dflt:Value) :
    MeetsIn prog w (Builtin.«dict.setdefault» ⟨[.ref d,.ref a,dflt], []⟩) (fun A R s=>knd.room A.in1∧∃ k xs,knd.is s.heap k a∧s.heap.DictOfH knd d xs∧xs.length≤sizeLine ∧
      (∀ p,atKey xs k=some p→R (.ok (.ret p.2)) { s with toks:=s.toks+knd.draws k }) ∧
      (atKey xs k=none→∀ h',h'.DictOfH knd d (xs ++ [(k,a,dflt)])→Heap.SameBut d s.heap h'→R (.ok (.ret dflt)) { s with heap:=h',toks:=s.toks+knd.draws k })) :=
  .of_wp fun A R s ⟨hu,k,xs,hkey,hm,hz,h1,h2⟩=>by
    unfold Builtin.«dict.setdefault»
    refine wpAny_bind ?_
    unfold Builtin.Dict.keyAndDefault
    refine wpAny_bind (wpAny_notOrdered_dict hm.typeIs ?_)
    show wpAny _ _ (pure (d,Value.ref a,some dflt)) _ _ s
    refine wpAny_pure ?_
    show wpAny _ _ (if (d == sysModules)=true then _ else (dictSetDefault d (.ref a) dflt >>= _)) _ _ s
    rw [if_neg (by rw [hd];exact Bool.false_ne_true)]
    exact wpAny_bind (wpAny_dictSetDefault_heap hu hkey hm (fun p hp=>wpAny_pure ⟨p.2,rfl,h1 p hp⟩) (fun hn h' hm' hs'=>wpAny_pure ⟨dflt,rfl,h2 hn h' hm' hs'⟩) hz)
end
end L2
namespace L2
open PySem PySem.Spec PyProof.Rows

section
variable {X:Cx} {scope:Scope} {own:List Str} {caps:List (Str × Nat)} {pins:List (Addr × Obj)} {σ : St} {H:Hp} {s:Shared} {fp:List Addr}
theorem comp_goI {prog:Program} {w:World} {A:Around} {R:Result→Shared→Prop} {elt target iter tst:Expr} {pos:Pos} {it acc:Value} {env:Env} (Iv:Nat→Shared→Prop)
    (turn:∀ n s,Iv n s→wpAny (model prog w) A (pyNext it) (fun r s₁ => match r with
      | none=>R (.ok .next) s₁
      | some v=>wpAny (model prog w) A (letOwnedTupleGo target it v) (fun _ s₂ => wpAny (model prog w) A (assign target env v) (fun _ s₃ => wpAny (model prog w) A (isTrue tst env (eval tst env)) (fun ok s₆ => if ok=true then wpAny (model prog w) A (eval elt env) (fun x s₄ =>
              wpAny (model prog w) A (call (.builtin "list.append") [acc,x]) (fun _ s₅ => ∃ m,m < n∧Iv m s₅) (fun _ _=>False) s₄) (fun _ _=>False) s₆ else ∃ m,m < n∧Iv m s₆) (fun _ _=>False) s₃) (fun _ _=>False) s₂) (fun _ _=>False) s₁) (fun _ _=>False) s)
    (n:Nat) (h:Iv n s):codeAny (model prog w) A (.compLoop (.ListComp elt [⟨target,iter, [tst],0⟩] scope pos) 0 it acc env) R s:=by
  refine codeAny_loop rfl Iv (fun n s hI => ?_) n h
  show wpAny _ A ((compTurn (.ListComp elt [⟨target,iter, [tst],0⟩] scope pos) 0 it acc env).onRaise (fun x=>do noteFrame x env;theTreesLotGoes x)) _ _ s
  refine wpAny_noted ?_
  rw [compTurn_list]
  refine wpAny_bind (wpAny_standAt (wpAny_bind (wpAny_mono (turn n s hI) (fun r s₁ h₁ => ?_) fun _ _ z=>z.elim)))
  cases r with
  | none=>exact wpAny_pure h₁
  | some v =>
    refine wpAny_bind (wpAny_mono h₁ (fun _ s₂ h₂ => wpAny_bind (wpAny_mono h₂ (fun _ s₃ h₃ => wpAny_bind (wpAny_tests_one (wpAny_mono h₃ (fun ok s₆ h₆ => ?_) fun _ _ z=>z.elim))) fun _ _ z=>z.elim)) fun _ _ z=>z.elim)
    cases ok with
    | true =>
      have h₆':=(if_pos rfl:(if true=true then _ else _)=_) ▸ h₆
      exact wpAny_bind (wpAny_bind (wpAny_mono h₆' (fun x s₄ h₄ => wpAny_bind (wpAny_mono h₄ (fun _ s₅ h₅ => wpAny_pure (wpAny_pure ⟨rfl,h₅⟩)) fun _ _ z=>z.elim)) fun _ _ z=>z.elim))
    | false =>
      have h₆':∃ m,m < n∧Iv m s₆ := h₆
      exact wpAny_bind (wpAny_pure (wpAny_pure ⟨rfl,h₆'⟩))

noncomputable def CompBodyI (J:It) (g:TG) (ct:TT) (te:TE) (τ0:St) (H1:Hp) (Q:VK):Prop := ∀ D,H1 D=none→∃ W:Nat→Nat→St→List V→Hp→Prop,
  (∃ m,W 0 m τ0 [] (upd H1 D (.lst []))) ∧
  ∀ i m τ ys H,W i m τ ys H→H D=some (.lst ys)∧((J.stop i H∧Q (.ref D) H)∨(J.go i H∧ys.length < sizeLine∧∀ x H',J.yld i H x H'→g x τ H' fun τ2 H2=>ct τ2 H2 fun b H4=>if b=true then te τ2 H4 fun y H3 =>
    H3 D=some (.lst ys)∧∃ m',m' < m∧W (i+1) m' τ2 (ys ++ [y]) (upd H3 D (.lst (ys ++ [y]))) else ∃ m',m' < m∧W (i+1) m' τ2 ys H4))
noncomputable def tCompI (wi:TI) (g:TG) (ct:TT) (te:TE) (k:Nat) (caps:List (Str × Nat)):TE:=fun σ H Q=>wi σ H fun J H1=>CompBodyI J g ct te (List.replicate k none ++ capt σ caps) H1 Q

theorem comp_coreI {tg elt iter tst:Expr} {wi:TI} {g:TG} {ct:TT} {te:TE} {pos p2:Pos} {use:Option (Value→Sem Unit)} {Q:VK} {Q':Value→Shared→Prop} (S:CompScope X scope own caps) (hi:PI X tg iter wi) (hc:X.calm=true)
    (hg:∀ fp s H,PG (cxComp X scope (own ++ caps.map (·.1)) fp s H) tg g) (hct:∀ fp s H,PT (cxComp X scope (own ++ caps.map (·.1)) fp s H) tst ct) (he:∀ fp s H,PE (cxComp X scope (own ++ caps.map (·.1)) fp s H) elt te)
    (I:Inv X pins σ H s) (h:tCompI wi g ct te own.length caps σ H Q)
    (fin:∀ D C H5 s5,Inv X pins σ H5 s5→Q (.ref D) H5→(∃ m,s5.heap.Ns C m)→H5 C=none→C≠X.env.locals→X.s₀.heap.objs.size≤C→(∀ x c,X.env.cells.lookup x=some c→c≠C)→(∀ p∈X.pn ++ pins,p.1≠C) →
      compPost (model X.prog X.w) X.A X.xe use Q' (.ref D) C (.ok .next) s5)
    (hs:∀ x,foldedSetIterable iter X.env x=pure x:=by intro _;rfl) :
    wpAny (model X.prog X.w) X.A (comprehension (.ListComp elt [⟨tg,iter, [tst],0⟩] scope pos) scope X.env p2 (newList []) false (eval iter X.env) use) Q' X.xe s:=by
  have hclos:closureFor scope X.env=pure (capsOf X.env.cells scope.names []):=closure_caps fun y hy hk=>I.ok.has y.1 (.inl (S.frees y hy hk))
  refine wpAny_comprehension_free (g:=⟨tg,iter, [tst],0⟩) (gs := []) rfl hs hclos S.kind S.locs (thn (hi pins s σ H _ I h) fun v s1 h1=>thn h1 fun itv s2 h2 => ?_)
  obtain ⟨it,fp,tn,J,H2,e,I2,T,st2,f2,R⟩:=h2
  subst e
  refine wpAny_newObj_type (wpAny_newFunctionEnv S.nocell (by intro y hy;simp at hy) (fun h₁ hns₁ hsb₁ => ?_) S.kind)
  have fr2:H2 s2.heap.objs.size=none:=I2.hok.fresh (Nat.le_refl _)
  obtain ⟨W,⟨m0,w0⟩,turn⟩:=R s2.heap.objs.size fr2
  have I3:Inv X pins σ (upd H2 s2.heap.objs.size (.lst [])) { s2 with heap:=s2.heap.push { cls := .type "list",dict:=none,data := .seq ([]:List Value).toArray } }:=I2.lnew (its := []) (t':=s2.toks) .nil (Nat.zero_le _)
  have lt2:∀ b∈fp,b < s2.heap.objs.size:=fun b hb=>by
    obtain ⟨o,ho,_⟩:=T.obj _ _ st2 b hb
    exact Heap.lt_size ho
  have f3:∀ b∈fp,FpOk X pins (upd H2 s2.heap.objs.size (.lst [])) b:=fun b hb=>⟨by rw [upd_ne (Nat.ne_of_lt (lt2 b hb))];exact (f2 b hb).1,(f2 b hb).2⟩
  generalize hs3:({ s2 with heap:=s2.heap.push { cls := .type "list",dict:=none,data := .seq ([]:List Value).toArray } }:Shared)=s3 at I3
  have hz3:s3.heap.objs.size=s2.heap.objs.size+1:=by rw [← hs3];exact Heap.size_push _ _
  have kp23:∀ b o,s2.heap.get? b=some o→s3.heap.get? b=some o:=fun b o e=>by rw [← hs3];exact Heap.get?_push_of_some _ e
  have lt3:∀ b∈fp,b < s3.heap.objs.size:=fun b hb=>by rw [hz3];exact Nat.lt_succ_of_lt (lt2 b hb)
  have hns₁':h₁.Ns s3.heap.objs.size (fun x=>([]:List (Str × Value)).reverse.lookup x):=by rw [← hs3];exact hns₁
  have kp31:∀ b o,s3.heap.get? b=some o→h₁.get? b=some o:=fun b o e=>by
    have hb:b≠s3.heap.objs.size:=Nat.ne_of_lt (Heap.lt_size e)
    rw [← hs3] at e hb
    exact hsb₁.extBut b o hb (Heap.get?_push_of_some _ e)
  have J1:=comp_start S I3 f3 lt3 (t:=s2.toks+([]:List (Str × Value)).length) hns₁' kp31
  have st1:tn 0 h₁ := T.keep _ _ _ st2 fun b hb o e=>kp31 b o (kp23 b o e)
  -- the loop
  have loop:∀ s₃ : Shared,s₃ = { s3 with heap:=h₁,toks:=s2.toks+([]:List (Str × Value)).length } →
      codeAny (model X.prog X.w) X.A (.compLoop (.ListComp elt [⟨tg,iter, [tst],0⟩] scope pos) 0 (.ref it) (.ref s2.heap.objs.size) (cxComp X scope (own ++ caps.map (·.1)) fp s3 (upd H2 s2.heap.objs.size (.lst []))).env)
        (compPost (model X.prog X.w) X.A X.xe use Q' (.ref s2.heap.objs.size) s3.heap.objs.size) s₃ := by
    rintro s₃ rfl
    refine comp_goI (fun n s'=>∃ i τ ys H',Inv (cxComp X scope (own ++ caps.map (·.1)) fp s3 (upd H2 s2.heap.objs.size (.lst []))) [] τ H' s'∧tn i s'.heap∧(∀ b∈fp,H' b=none)∧W i n τ ys H') ?_ m0
      ⟨0,_, [],_,J1,st1,fun b hb=>(f3 b hb).1,w0⟩
    rintro n s' ⟨i, τ,ys,H',J',st',fr',w'⟩
    have fY:∀ {H'':Hp},(∀ b∈fp,H'' b=none)→∀ b∈fp,FpOk (cxComp X scope (own ++ caps.map (·.1)) fp s3 (upd H2 s2.heap.objs.size (.lst []))) [] H'' b:=fun hn b hb =>
      ⟨hn b hb,Nat.ne_of_lt (lt3 b hb),fun z=>by
          rcases List.mem_cons.mp (I3.stkSub b z) with e | e
          · exact (f3 b hb).2.1 e
          · exact (f3 b hb).2.2.1 e,.inl hb,fun x c e=>(f3 b hb).2.2.2.2.1 x c (caps_cells e),(fun p hp=>by cases hp)⟩
    obtain ⟨hD,tt⟩:=turn i n τ ys H' w'
    rcases tt with ⟨stop,qn⟩ | ⟨go,hlen,step⟩
    · refine thn (T.done (cxComp X scope (own ++ caps.map (·.1)) fp s3 (upd H2 s2.heap.objs.size (.lst []))) rfl rfl rfl hc i [] s' τ H' (fun _ _=>False) J' (fY fr') st' stop) fun r s4 ⟨hr,J4⟩ => ?_
      subst hr
      obtain ⟨m4,hn4,_⟩:=J4.loc
      have I5:=comp_back I3 J4 f3
      refine fin _ _ _ s4 I5 qn ⟨m4,hn4⟩ J4.free ?_ ?_ (fun x c e z => ?_) fun p hp z => ?_
      · exact Nat.ne_of_gt I3.lt
      · exact I3.sz
      · obtain ⟨v,q⟩:=I3.cell x c e
        rw [z] at q
        exact absurd q.lt (Nat.lt_irrefl _)
      · have q:=(I3.pin p hp).1
        rw [z] at q
        exact absurd (Heap.lt_size q) (Nat.lt_irrefl _)
    · refine thn (T.item (cxComp X scope (own ++ caps.map (·.1)) fp s3 (upd H2 s2.heap.objs.size (.lst []))) rfl rfl rfl hc i [] s' τ H' (fun _ _=>False) J' (fY fr') st' go) fun r s4 ⟨u,hr,h4⟩ => ?_
      subst hr
      refine thn h4 fun _ s5 ⟨x,H5,J5,r5,y5,st5,fr5⟩ => ?_
      have J5':=J5.pinned (fY fr5) (T.obj _ _ st5)
      have keepsT:∀ {τ6:St} {H8:Hp} {s8:Shared},Inv (cxComp X scope (own ++ caps.map (·.1)) fp s3 (upd H2 s2.heap.objs.size (.lst []))) ([] ++ pinsAt fp s5.heap) τ6 H8 s8→tn (i+1) s8.heap∧∀ b∈fp,H8 b=none:=fun {τ6 H8 s8} J8=>by
        refine ⟨T.keep _ _ _ st5 fun b hb o e=>(J8.pin (b,o) (List.mem_append_right _ (List.mem_append_right _ (mem_pinsAt hb e)))).1,fun b hb => ?_⟩
        obtain ⟨o,e,d⟩:=T.obj _ _ st5 b hb
        exact (J8.pin (b,o) (List.mem_append_right _ (List.mem_append_right _ (mem_pinsAt hb e)))).2.1
      refine thn (hg fp s3 _ _ s5 τ H5 x u _ J5' r5 (step x H5 y5)) fun _ s6 ⟨τ6,H6,J6,q6⟩ => ?_
      refine thn (hct fp s3 _ _ s6 τ6 H6 _ J6 q6) fun ok s9 ⟨H9,J9,q9⟩ => ?_
      cases ok with
      | false =>
        obtain ⟨m',hm',w9⟩:=(show ∃ m',m' < n∧W (i+1) m' τ6 ys H9 from q9)
        exact ⟨m',hm',i+1, τ6,ys,_,J9.unpinned,(keepsT J9).1,(keepsT J9).2,w9⟩
      | true =>
        refine thn (he fp s3 _ _ s9 τ6 H9 _ J9 q9) fun yv s7 ⟨y,H7,J7,r7,hD7,m',hm',w7⟩ => ?_
        refine thn (mt_append (X:=cxComp X scope (own ++ caps.map (·.1)) fp s3 (upd H2 s2.heap.objs.size (.lst []))) _ s7 τ6 H7 (.ref s2.heap.objs.size) [y] _ [yv] (fun _ H8=>H8=upd H7 s2.heap.objs.size (.lst (ys ++ [y]))) J7 rfl (.cons r7 .nil) ⟨_,ys,y,rfl,rfl,hD7,hlen,rfl⟩) fun _ s8 ⟨_,H8,J8,_,e8⟩ => ?_
        subst e8
        exact ⟨m',hm',i+1, τ6,ys ++ [y],_,J8.unpinned,(keepsT J8).1,(keepsT J8).2,w7⟩
  have hloop:=loop _ rfl
  subst hs3
  exact codeAny_compStart_list hloop (T.self _ 0 _ _ _ st1 hloop)
theorem pe_compI {tg elt iter tst:Expr} {wi:TI} {g:TG} {ct:TT} {te:TE} {pos:Pos} (S:CompScope X scope own caps) (hi:PI X tg iter wi) (hc:X.calm=true)
    (hg:∀ fp s H,PG (cxComp X scope (own ++ caps.map (·.1)) fp s H) tg g) (hct:∀ fp s H,PT (cxComp X scope (own ++ caps.map (·.1)) fp s H) tst ct) (he:∀ fp s H,PE (cxComp X scope (own ++ caps.map (·.1)) fp s H) elt te)
    (hs:∀ x,foldedSetIterable iter X.env x=pure x:=by intro _;rfl):PE X (.ListComp elt [⟨tg,iter, [tst],0⟩] scope pos) (tCompI wi g ct te own.length caps):=by
  intro pins s σ H Q I h
  rw [eval_ListComp]
  refine comp_coreI (use:=none) (Q:=Q) S hi hc hg hct he I h (fun D C H5 s5 I5 q ⟨m,hn⟩ hC hL hz hcell hpin => ?_) hs
  refine ⟨m,hn,fun h' hs' => ?_⟩
  exact ⟨.ref D,H5,I5.turned (t':=s5.toks) (fun b o hb e=>(hs'.2 b hb).trans e) hC hL (.inr hz) hcell hpin,rfl,q⟩
end
end L2
namespace L2
open PySem PySem.Spec PyProof.Rows

noncomputable def NKs (H:Hp):NK→List V→Prop
  | [],vs=>vs = []
  | .inl k :: ks,vs=>∃ vs',vs=kV k :: vs'∧NKs H ks vs'
  | .inr l :: ks,vs=>∃ b vs',vs=V.ref b :: vs'∧H b=some (.tup (l.map kV))∧NKs H ks vs'
noncomputable def NKey (H:Hp) (k:NK) (a:Addr):Prop := ∃ vs,H a=some (.tup vs)∧NKs H k vs
theorem NKs.keep {H H':Hp} (ht:∀ b ys,H b=some (.tup ys)→H' b=some (.tup ys)):∀ {k:NK} {vs:List V},NKs H k vs→NKs H' k vs
  | [],vs,r=>by rw [NKs] at r ⊢;exact r
  | .inl k :: ks,vs,r=>by
    rw [NKs] at r ⊢
    obtain ⟨vs',e,r⟩:=r
    exact ⟨vs',e,NKs.keep ht r⟩
  | .inr l :: ks,vs,r=>by
    rw [NKs] at r ⊢
    obtain ⟨b,vs',e,q,r⟩:=r
    exact ⟨b,vs',e,ht _ _ q,NKs.keep ht r⟩
theorem NKey.keep {H H':Hp} {k:NK} {a:Addr} (ht:∀ b ys,H b=some (.tup ys)→H' b=some (.tup ys)) (r:NKey H k a):NKey H' k a:=by
  obtain ⟨vs,e,r⟩:=r
  exact ⟨vs,ht _ _ e,r.keep ht⟩
section
variable {P:Program} {w:World} {H:Hp} {h:Heap}
theorem nks_of (ok:HOk P w H h):∀ {k:NK} {vs:List V} {us:List Value},NKs H k vs→Vals vs us→NIt P w h k us
  | [],vs,us,r,q=>by rw [NKs] at r;subst r;cases q;rw [NIt]
  | .inl k :: ks,vs,us,r,q=>by
    rw [NKs] at r
    obtain ⟨vs',rfl,r⟩:=r
    cases q with
    | cons q1 q2=>rw [NIt];exact ⟨_,_,rfl,kV_is q1,nks_of ok r q2⟩
  | .inr l :: ks,vs,us,r,q=>by
    rw [NKs] at r
    obtain ⟨b,vs',rfl,e,r⟩:=r
    cases q with
    | cons q1 q2 =>
      rw [NIt]
      cases (show _=Value.ref b from q1)
      exact ⟨b,_,rfl,key_of ok e,nks_of ok r q2⟩
theorem nkey_of {k:NK} {a:Addr} (ok:HOk P w H h) (r:NKey H k a):IsNK P w h k a:=by
  obtain ⟨vs,e,r⟩:=r
  obtain ⟨_,its,rv,p⟩:=(show ObjOk P w H h a (.tup vs) from ok a _ e)
  exact ⟨its,p.tup,nks_of ok r rv⟩
end
noncomputable abbrev KN (H:Hp):List (NK × V)→List (NK × Addr × Value)→Prop:=Paired fun p q=>p.1=q.1∧NKey H p.1 q.2.1∧RelV p.2 q.2.2
theorem KN.val {H:Hp} {kvs:List (NK × V)} {xs:List (NK × Addr × Value)} (r:KN H kvs xs) (k:NK):RelO (valV kvs k) ((atKey xs k).map (·.2)):=by
  induction r with
  | nil=>exact True.intro
  | @cons p q ps qs h t ih =>
    obtain ⟨h1,_,h2⟩:=h
    by_cases e:p.1=k
    · have e':q.1=k:=h1.symm.trans e
      have b:atKey (q :: qs) k=some q.2:=by simp [atKey,List.find?_cons,e']
      rw [valV_pos e,b];exact h2
    · have e':¬ q.1=k:=fun z=>e (h1.trans z)
      have b:atKey (q :: qs) k=atKey qs k:=by simp [atKey,List.find?_cons,e']
      rw [valV_neg e,b];exact ih
theorem KN.keeps {H H':Hp} {kvs:List (NK × V)} {xs:List (NK × Addr × Value)} (r:KN H kvs xs) (ht:∀ b ys,H b=some (.tup ys)→H' b=some (.tup ys)):KN H' kvs xs :=
  Paired.mapP r fun _ _ z=>⟨z.1,z.2.1.keep ht,z.2.2⟩
noncomputable def DN (P:Program) (w:World) (H:Hp) (a:Addr) (kvs:List (NK × V)):Prop:=kvs.length≤sizeLine∧(a == sysModules)=false∧∃ (xs:List (NK × Addr × Value)) (o:Obj) (es:Array DictEntry) (ep:Nat),
  H a=some (.ext fun h=>h.get? a=some o)∧KN H kvs xs∧o.ExactDict∧o.data = .dict es ep∧es.toList=xs.map (entryOfKey (nkKind P w))∧(xs.map (·.1)).Nodup
theorem DN.keep {P:Program} {w:World} {H H':Hp} {a:Addr} {kvs:List (NK × V)} (d:DN P w H a kvs) (ha:∀ φ,H a=some (.ext φ)→H' a=some (.ext φ)) (ht:∀ b ys,H b=some (.tup ys)→H' b=some (.tup ys)):DN P w H' a kvs:=by
  obtain ⟨z,hd,xs,o,es,ep,e,r,q⟩:=d
  exact ⟨z,hd,xs,o,es,ep,ha _ e,r.keeps ht,q⟩
theorem DN.same {P:Program} {w:World} {H H':Hp} {a:Addr} {kvs:List (NK × V)} (d:DN P w H a kvs) (sm:Same H H'):DN P w H' a kvs:=d.keep (fun φ => sm _ _) (fun b ys=>sm _ _)
theorem DN.ext {P:Program} {w:World} {H:Hp} {a:Addr} {kvs:List (NK × V)} (d:DN P w H a kvs):∃ φ,H a=some (.ext φ):=by
  obtain ⟨_,_,xs,o,es,ep,e,_⟩:=d
  exact ⟨_,e⟩
theorem dn_rd {P:Program} {w:World} {H:Hp} {h:Heap} {a:Addr} {kvs:List (NK × V)} (ok:HOk P w H h) (d:DN P w H a kvs):kvs.length≤sizeLine∧(a == sysModules)=false ∧
    ∃ xs,KN H kvs xs∧h.DictOfH (nkKind P w) a xs:=by
  obtain ⟨z,hd,xs,o,es,ep,e,r,h2,h3,h4,h5⟩:=d
  obtain ⟨h1,_⟩:=(show ObjOk P w H h a (.ext fun h=>h.get? a=some o) from ok a _ e)
  refine ⟨z,hd,xs,r,o,es,ep,h1,h2,h3,h4,fun x hx => ?_,h5⟩
  have all:∀ {l:List (NK × V)} {m:List (NK × Addr × Value)},KN H l m→∀ x∈m,(nkKind P w).is h x.1 x.2.1:=by
    intro l m q
    induction q with
    | nil=>intro x hx;exact nomatch hx
    | @cons p q ps qs hq t ih =>
      intro x hx
      rcases List.mem_cons.mp hx with e | hx
      · subst e
        exact nkey_of ok (by rw [← hq.1];exact hq.2.1)
      · exact ih x hx
  exact all r x hx
theorem ext_ok {P:Program} {w:World} {H:Hp} {h:Heap} {a:Addr} {o:Obj} (e:h.get? a=some o):ObjOk P w H h a (.ext fun h=>h.get? a=some o):=⟨e,⟨o,e⟩,fun h1 h2 e1 k=>k o e1⟩
section
variable {X:Cx} {pins:List (Addr × Obj)} {σ : St} {H:Hp} {s:Shared} {a b:Addr} {kvs kvs':List (NK × V)} {k:NK} {y v:V} {u r:Value} {A:Around} {E:Value→Shared→Prop}
theorem dn_write {h':Heap} {t':Nat} {xs':List (NK × Addr × Value)} (I:Inv X pins σ H s) (d:DN X.prog X.w H a kvs) (hs:Heap.SameBut a s.heap h') (dd:h'.DictOfH (nkKind X.prog X.w) a xs') (rel:KN H kvs' xs') (hl:kvs'.length≤sizeLine) :
    ∃ φ,Inv X pins σ (upd H a (.ext φ)) { s with heap:=h',toks:=t' }∧DN X.prog X.w (upd H a (.ext φ)) a kvs':=by
  obtain ⟨φ0,e0⟩:=d.ext
  have hd:=d.2.1
  obtain ⟨q,es,ep,hq,h2,h3,h4,_,h5⟩:=dd
  have ht:∀ c ys,H c=some (.tup ys)→(upd H a (.ext fun h=>h.get? a=some q)) c=some (.tup ys):=fun c ys ec=>by
    rw [upd_ne (ne_of ec e0 (fun z=>nomatch z))]
    exact ec
  exact ⟨_,d_write I (by rw [e0];exact True.intro) hs ⟨q,hq⟩ (ext_ok hq),hl,hd,xs',q,es,ep,upd_same,rel.keeps ht,h2,h3,h4,h5⟩
theorem KN.snoc {xs:List (NK × Addr × Value)} (rel:KN H kvs xs) (nk:NKey H k b) (rv:RelV v r):KN H (kvs ++ [(k,v)]) (xs ++ [(k,b,r)]):=Paired.snoc rel ⟨rfl,nk,rv⟩
theorem dn_setdefault {Q:Value→Shared→Prop} (hu:A.units+10 < cLine) (I:Inv X pins σ H s) (d:DN X.prog X.w H a kvs) (nk:NKey H k b) (rv:RelV v r) (hl:kvs.length < sizeLine)
    (h1:∀ v' w' s',valV kvs k=some v'→RelV v' w'→Inv X pins σ H s'→Q w' s') (h2:valV kvs k=none→∀ φ s',Inv X pins σ (upd H a (.ext φ)) s'→DN X.prog X.w (upd H a (.ext φ)) a (kvs ++ [(k,v)])→Q r s') :
    wpAny (model X.prog X.w) A (call (.builtin "dict.setdefault") [.ref a,.ref b,r]) Q E s:=by
  obtain ⟨z,hd,xs,rel,dd⟩:=dn_rd I.hok d
  have hz:xs.length≤sizeLine:=by rw [← Paired.length rel];exact z
  have ro:=rel.val k
  refine call_meetsIn PySem.F.slot_dict_setdefault dd.typeIs PySem.F.entry_dict_setdefault (PySem.F.args_dict_setdefault_3 _ _ _) (meetsH_dict_setdefault (nkKind X.prog X.w) a b hd r)
    ⟨(show A.units+1+5 < cLine by omega),k,xs,nkey_of I.hok nk,dd,hz,fun p hp => ?_,fun hn h' dd' hs => ?_⟩
  · rw [hp] at ro
    cases e:valV kvs k with
    | none=>rw [e] at ro;exact ro.elim
    | some v'=>rw [e] at ro;exact h1 v' _ _ e ro (I.tok _)
  · rw [hn] at ro
    cases e:valV kvs k with
    | some v'=>rw [e] at ro;exact ro.elim
    | none =>
      obtain ⟨φ,I',d'⟩:=dn_write (t':=s.toks+(nkKind X.prog X.w).draws k) I d hs dd' (rel.snoc nk rv) (by rw [List.length_append];exact hl)
      exact h2 e φ _ I' d'
end
noncomputable def tSetD (P:Program) (w:World) (td ty tx:TE):TE:=fun σ H Q=>td σ H fun x H1=>∃ a,x = .ref a∧(∃ kvs,DN P w H1 a kvs)∧ty σ H1 fun y H2=>tx σ H2 fun z H3=>∃ kvs k b,DN P w H3 a kvs∧y = .ref b∧NKey H3 k b∧kvs.length < sizeLine ∧
  (∀ v,valV kvs k=some v→Q v H3)∧(valV kvs k=none→∀ φ,DN P w (upd H3 a (.ext φ)) a (kvs ++ [(k,z)])→Q z (upd H3 a (.ext φ)))
theorem isN_at {X:Cx} {pins:List (Addr × Obj)} {σ : St} {H:Hp} {s:Shared} {a:Addr} (I:Inv X pins σ H s) (d:∃ kvs,DN X.prog X.w H a kvs) :
    s.TypeIs (.ref a) "dict" ∧ (∀ b,Value.ref a = .ref b→∃ ob,s.heap.get? b=some ob∧ob.dict=none)∧(a == sysModules)=false:=by
  obtain ⟨kvs,e⟩:=d
  obtain ⟨_,hd,xs,_,dd⟩:=dn_rd I.hok e
  refine ⟨dd.typeIs,fun b q => ?_,hd⟩
  cases q
  obtain ⟨ob,_,_,h1,h2,_⟩:=dd
  exact ⟨ob,h1,h2.2.1⟩
section
variable {X:Cx} {o e f:Expr} {apos cpos:Pos} {td ty tx:TE}
theorem pe_setD (hu:X.A.units+10 < cLine) (ho:PE X o td) (he:PE X e ty) (hf:PE X f tx) (m:M2 X o "setdefault" apos e f cpos):PE X (.Call (.Attribute o "setdefault" apos) [e,f] [] cpos) (tSetD X.prog X.w td ty tx):=by
  intro pins s σ H Q I h
  refine wpAny_Call_method m.base m.few m.line PySem.F.plainAttrs_dict PySem.F.slot_dict_setdefault PySem.F.type_dict_setdefault (thn (ho pins s σ H _ I h) fun u s1 ⟨x,H1,I1,rx,a,ex,d,q1⟩ => ?_)
  subst ex
  obtain rfl:u=Value.ref a:=rx
  obtain ⟨t1,t2,_⟩:=isN_at I1 d
  refine ⟨t1,t2,?_⟩
  rw [m.trees]
  refine Calls.callWith_builtin rfl (Calls.evalArgs_plain (Calls.spliced_cons (thn (he pins s1 σ H1 _ I1 q1) fun iv s2 ⟨y,H2,I2,ry,q2⟩ =>
    Calls.spliced_cons (thn (hf pins s2 σ H2 _ I2 q2) fun fv s3 ⟨z,H3,I3,rz,kvs,k,b,d3,ey,nk,hl,q3,q4⟩=>Calls.spliced_nil ?_))))
  subst ey
  obtain rfl:iv=Value.ref b:=ry
  exact dn_setdefault hu I3 d3 nk rz hl (fun v' w' s4 e4 r4 I4=>⟨v',H3,I4,r4,q3 v' e4⟩) fun hn φ s4 I4 d4=>⟨z,_,I4,rz,q4 hn φ d4⟩
noncomputable def tDNewN (P:Program) (w:World):TE:=fun _ H Q=>∀ p φ,H p=none→DN P w (upd H p (.ext φ)) p []→Q (.ref p) (upd H p (.ext φ))
theorem pe_dnewN {pos:Pos}:PE X (.Dict [] [] pos) (tDNewN X.prog X.w):=by
  intro pins s σ H Q I h
  have hd:(s.heap.objs.size == sysModules)=false:=beq_eq_false_iff_ne.mpr (Ne.symm (Nat.ne_of_lt I.big))
  refine wpAny_Dict_empty ⟨.ref s.heap.objs.size,_,I.laid (a:=s.heap.objs.size) (o := .ext fun h=>h.get? s.heap.objs.size=some { cls := .type "dict",data := .dict #[] }) (t':=s.toks) (fun _ _ q=>Heap.get?_push_of_some _ q) (Nat.le_refl _) (ext_ok (Heap.get?_push_size _ rfl)),rfl,h _ _ (I.hok.fresh (Nat.le_refl _)) ?_⟩
  exact ⟨Nat.zero_le _,hd, [],_, #[],0,upd_same,.nil,⟨rfl,rfl,rfl⟩,rfl,rfl,List.nodup_nil⟩
end
end L2
namespace Sw
inductive TM (S:Type) where
  | num (n:Int) | name (x:S) | of (x:S) (as:List Nat)
section
variable {S:Type}
inductive Eqv (ts:List (TM S)) (es:List (Nat × Nat)):Nat→Nat→Prop where
  | refl (i:Nat):Eqv ts es i i
  | symm {i j:Nat}:Eqv ts es i j→Eqv ts es j i
  | trans {i j k:Nat}:Eqv ts es i j→Eqv ts es j k→Eqv ts es i k
  | edge {i j:Nat}:(i,j)∈es→Eqv ts es i j
  | same {i j:Nat} {t:TM S}:ts[i]? = some t→ts[j]? = some t→Eqv ts es i j
  | cong {i j:Nat} {x:S} {as bs:List Nat}:ts[i]? = some (.of x as)→ts[j]? = some (.of x bs)→as.length=bs.length→(∀ (k a b:Nat),as[k]? = some a→bs[k]? = some b→Eqv ts es a b)→Eqv ts es i j
noncomputable def GoodL (ls:List Nat):Prop := ∀ k v:Nat,ls[k]? = some v→v≤k∧ls[v]? = some v
noncomputable def ren (hi lo v:Nat):Nat:=if v=hi then lo else v
noncomputable def jn (ls:List Nat) (hi lo:Nat):List Nat:=ls.map (ren hi lo)
theorem jn_at {ls:List Nat} {hi lo k:Nat}:(jn ls hi lo)[k]? = (ls[k]?).map (ren hi lo):=by unfold jn;rw [List.getElem?_map]
theorem jn_len {ls:List Nat} {hi lo:Nat}:(jn ls hi lo).length=ls.length:=by unfold jn;rw [List.length_map]
theorem good_jn {ls:List Nat} {hi lo:Nat} (g:GoodL ls) (hlo:ls[lo]? = some lo) (hl:lo < hi):GoodL (jn ls hi lo):=by
  intro k v h
  rw [jn_at] at h
  cases e:ls[k]? with
  | none=>rw [e] at h;cases h
  | some u =>
    rw [e] at h
    have h':ren hi lo u=v:=Option.some.inj h
    obtain ⟨g1,g2⟩:=g k u e
    unfold ren at h'
    by_cases hu:u=hi
    · rw [if_pos hu] at h'
      subst h'
      refine ⟨by omega,?_⟩
      rw [jn_at,hlo]
      show some (ren hi lo lo)=some lo
      unfold ren
      rw [if_neg (by omega)]
    · rw [if_neg hu] at h'
      subst h'
      refine ⟨g1,?_⟩
      rw [jn_at,g2]
      show some (ren hi lo u)=some u
      unfold ren
      rw [if_neg hu]
noncomputable def Sound (ts:List (TM S)) (es:List (Nat × Nat)) (ls:List Nat):Prop := ∀ k v:Nat,ls[k]? = some v→Eqv ts es k v
theorem sound_jn {ts:List (TM S)} {es:List (Nat × Nat)} {ls:List Nat} {hi lo:Nat} (h:Sound ts es ls) (e:Eqv ts es hi lo):Sound ts es (jn ls hi lo):=by
  intro k v q
  rw [jn_at] at q
  cases z:ls[k]? with
  | none=>rw [z] at q;cases q
  | some u =>
    rw [z] at q
    have h':ren hi lo u=v:=Option.some.inj q
    have:=h k u z
    unfold ren at h'
    by_cases hu:u=hi
    · rw [if_pos hu] at h'
      subst h' hu
      exact .trans this e
    · rw [if_neg hu] at h'
      subst h'
      exact this
noncomputable def Keeps (ls ls':List Nat):Prop := ∀ i j v:Nat,ls[i]? = some v→ls[j]? = some v→∃ u,ls'[i]? = some u∧ls'[j]? = some u
theorem keeps_refl (ls:List Nat):Keeps ls ls:=fun i j v h1 h2=>⟨v,h1,h2⟩
theorem Keeps.trans {a b c:List Nat} (h:Keeps a b) (h':Keeps b c):Keeps a c:=fun i j v h1 h2=>by
  obtain ⟨u,e1,e2⟩:=h i j v h1 h2
  exact h' i j u e1 e2
theorem keeps_jn (ls:List Nat) (hi lo:Nat):Keeps ls (jn ls hi lo):=fun i j v h1 h2=>⟨ren hi lo v,by rw [jn_at,h1];rfl,by rw [jn_at,h2];rfl⟩
theorem sum_ren {hi lo:Nat} (hl:lo≤hi):∀ ls:List Nat,(ls.map (ren hi lo)).sum≤ls.sum
  | []=>Nat.le_refl _
  | v :: ls=>by
    have:=sum_ren hl ls
    rw [List.map_cons,List.sum_cons,List.sum_cons]
    have h1:ren hi lo v≤v:=by unfold ren;split <;> omega
    omega
theorem sum_jn {hi lo:Nat} (hl:lo < hi):∀ {ls:List Nat},hi∈ls→(jn ls hi lo).sum < ls.sum
  | v :: ls,h=>by
    unfold jn
    rw [List.map_cons,List.sum_cons,List.sum_cons]
    have h1:ren hi lo v≤v:=by unfold ren;split <;> omega
    have h2:=sum_ren (hi:=hi) (lo:=lo) (by omega) ls
    rcases List.mem_cons.mp h with e | e
    · have:ren hi lo v < v:=by unfold ren;rw [if_pos e.symm];omega
      omega
    · have:=sum_jn hl e
      unfold jn at this
      omega
noncomputable def mix (ls:List Nat) (hi lo m:Nat):List Nat:=ls.mapIdx fun k v=>if k < m then ren hi lo v else v
theorem mix_at {ls:List Nat} {hi lo m k:Nat}:(mix ls hi lo m)[k]? = (ls[k]?).map fun v=>if k < m then ren hi lo v else v:=by unfold mix;rw [List.getElem?_mapIdx]
theorem mix_len {ls:List Nat} {hi lo m:Nat}:(mix ls hi lo m).length=ls.length:=by unfold mix;rw [List.length_mapIdx]
theorem mix_start {ls:List Nat} {hi lo:Nat} (g:GoodL ls):mix ls hi lo hi=ls:=by
  refine List.ext_getElem? fun k => ?_
  rw [mix_at]
  cases e:ls[k]? with
  | none=>rfl
  | some v =>
    have:=(g k v e).1
    show some _=some _
    dsimp only
    by_cases hk:k < hi
    · rw [if_pos hk];unfold ren;rw [if_neg (by omega)]
    · rw [if_neg hk]
theorem mix_set {ls:List Nat} {hi lo m v:Nat} (h:ls[m]? = some v):(mix ls hi lo m).set m (ren hi lo v)=mix ls hi lo (m+1):=by
  have hm:=(List.getElem?_eq_some_iff.mp h).1
  refine List.ext_getElem? fun k => ?_
  rw [List.getElem?_set,mix_at,mix_at,mix_len]
  by_cases hk:m=k
  · subst hk
    rw [if_pos rfl,if_pos hm,h]
    show some _=some _
    dsimp only
    rw [if_pos (by omega)]
  · rw [if_neg hk]
    cases e:ls[k]? with
    | none=>rfl
    | some u =>
      show some _=some _
      dsimp only
      by_cases h1:k < m
      · rw [if_pos h1,if_pos (by omega)]
      · rw [if_neg h1,if_neg (by omega)]
theorem mix_stay {ls:List Nat} {hi lo m v:Nat} (h:ls[m]? = some v) (hv:v≠hi):mix ls hi lo (m+1)=mix ls hi lo m:=by
  refine List.ext_getElem? fun k => ?_
  rw [mix_at,mix_at]
  by_cases hk:k=m
  · subst hk
    rw [h]
    show some _=some _
    dsimp only
    rw [if_pos (by omega),if_neg (by omega)]
    unfold ren
    rw [if_neg hv]
  · cases e:ls[k]? with
    | none=>rfl
    | some u =>
      show some _=some _
      dsimp only
      by_cases h1:k < m
      · rw [if_pos h1,if_pos (by omega)]
      · rw [if_neg h1,if_neg (by omega)]
theorem mix_end {ls:List Nat} {hi lo m:Nat} (h:ls.length≤m):mix ls hi lo m=jn ls hi lo:=by
  refine List.ext_getElem? fun k => ?_
  rw [mix_at,jn_at]
  cases e:ls[k]? with
  | none=>rfl
  | some u =>
    have:=(List.getElem?_eq_some_iff.mp e).1
    show some _=some _
    dsimp only
    rw [if_pos (by omega)]
noncomputable def mk (ls:List Nat):TM S→TM S
  | .num n => .num n
  | .name x => .name x
  | .of x as => .of x (as.map fun a=>ls.getD a 0)
noncomputable def Stands (ts:List (TM S)) (es:List (Nat × Nat)):TM S→TM S→Prop
  | .of x as,.of y vs=>x=y∧as.length=vs.length∧∀ k a v:Nat,as[k]? = some a→vs[k]? = some v→Eqv ts es a v
  | t,m=>t=m
theorem stands_mk {ts:List (TM S)} {es:List (Nat × Nat)} {ls:List Nat} (h:Sound ts es ls):∀ {t:TM S},(∀ x as,t = .of x as→∀ a∈as,a < ls.length)→Stands ts es t (mk ls t)
  | .num n,_=>rfl
  | .name x,_=>rfl
  | .of x as,hb=>by
    refine ⟨rfl,by rw [List.length_map],fun k a v h1 h2 => ?_⟩
    rw [List.getElem?_map,h1] at h2
    have e:ls.getD a 0=v:=Option.some.inj h2
    have ha:=hb x as rfl a (List.mem_of_getElem? h1)
    rw [List.getD_eq_getElem?_getD,List.getElem?_eq_getElem ha] at e
    refine h a v ?_
    rw [List.getElem?_eq_getElem ha, ← e]
    rfl
theorem stands_eqv {ts:List (TM S)} {es:List (Nat × Nat)} {i j:Nat} {t u m:TM S} (hi:ts[i]? = some t) (hj:ts[j]? = some u) (h1:Stands ts es t m) (h2:Stands ts es u m):Eqv ts es i j:=by
  cases t with
  | num n =>
    have e:TM.num n=m:=h1
    subst e
    cases u with
    | num k=>cases (show TM.num k=TM.num n from h2);exact .same hi hj
    | name y=>cases (show TM.name y=TM.num n from h2)
    | of y bs=>cases (show TM.of y bs=TM.num n from h2)
  | name x =>
    have e:TM.name x=m:=h1
    subst e
    cases u with
    | num k=>cases (show TM.num k=TM.name x from h2)
    | name y=>cases (show TM.name y=TM.name x from h2);exact .same hi hj
    | of y bs=>cases (show TM.of y bs=TM.name x from h2)
  | of x as =>
    cases m with
    | num k=>cases (show TM.of x as=TM.num k from h1)
    | name y=>cases (show TM.of x as=TM.name y from h1)
    | of y vs =>
      obtain ⟨rfl,l1,q1⟩:=h1
      cases u with
      | num k=>cases (show TM.num k=TM.of x vs from h2)
      | name z=>cases (show TM.name z=TM.of x vs from h2)
      | of z bs =>
        obtain ⟨rfl,l2,q2⟩:=h2
        refine .cong hi hj (by omega) fun k a b ha hb => ?_
        have hk:k < vs.length:=by have:=(List.getElem?_eq_some_iff.mp ha).1;omega
        exact .trans (q1 k a _ ha (List.getElem?_eq_getElem hk)) (.symm (q2 k b _ hb (List.getElem?_eq_getElem hk)))
noncomputable def Closed (ts:List (TM S)) (es:List (Nat × Nat)) (ls:List Nat):Prop :=
  ls.length=ts.length∧GoodL ls∧Sound ts es ls∧∀ i j:Nat,i < ts.length→j < ts.length→Eqv ts es i j→ls[i]? = ls[j]?
noncomputable def Arms (ts:List (TM S)):Prop := ∀ (i:Nat) (x:S) (as:List Nat),ts[i]? = some (.of x as)→∀ a∈as,a < i
theorem complete {ts:List (TM S)} {es:List (Nat × Nat)} {ls:List Nat} (ha:Arms ts) (he:∀ a b:Nat,(a,b)∈es→a < ts.length∧b < ts.length) (hl:ls.length=ts.length)
    (h1:∀ a b:Nat,(a,b)∈es→ls[a]? = ls[b]?) (h2:∀ (i j:Nat) (t u:TM S),ts[i]? = some t→ts[j]? = some u→mk ls t=mk ls u→ls[i]? = ls[j]?) {i j:Nat} (h:Eqv ts es i j):ls[i]? = ls[j]? := by
  induction h with
  | refl i=>rfl
  | symm _ ih=>exact ih.symm
  | trans _ _ ih1 ih2=>exact ih1.trans ih2
  | edge h=>exact h1 _ _ h
  | same q1 q2=>exact h2 _ _ _ _ q1 q2 rfl
  | @cong i j x as bs q1 q2 hl' _ ih =>
    refine h2 _ _ _ _ q1 q2 ?_
    have e:as.map (fun a=>ls.getD a 0)=bs.map (fun a=>ls.getD a 0):=by
      refine List.ext_getElem? fun k => ?_
      rw [List.getElem?_map,List.getElem?_map]
      by_cases hk:k < as.length
      · have e1:=List.getElem?_eq_getElem (l:=as) hk
        have e2:=List.getElem?_eq_getElem (l:=bs) (show k < bs.length by omega)
        have:=ih k _ _ e1 e2
        rw [e1,e2]
        show some (ls.getD _ 0)=some (ls.getD _ 0)
        rw [List.getD_eq_getElem?_getD,List.getD_eq_getElem?_getD,this]
      · rw [List.getElem?_eq_none (by omega),List.getElem?_eq_none (by omega)]
    show TM.of x _=TM.of x _
    rw [e]
theorem good_id (n:Nat):GoodL (List.range n):=fun k v h=>by
  have hk:k < (List.range n).length:=(List.getElem?_eq_some_iff.mp h).1
  rw [List.length_range] at hk
  rw [List.getElem?_range hk] at h
  cases h
  exact ⟨Nat.le_refl _,List.getElem?_range hk⟩
theorem sound_id (ts:List (TM S)) (es:List (Nat × Nat)) (n:Nat):Sound ts es (List.range n):=fun k v h=>by
  have hk:k < (List.range n).length:=(List.getElem?_eq_some_iff.mp h).1
  rw [List.length_range] at hk
  rw [List.getElem?_range hk] at h
  cases h
  exact .refl _
end
end Sw
namespace L2
open PySem PySem.Spec PyProof.Rows

section
variable {X:Cx}
inductive J_call_range1V (xs:List V) (H:Hp) (Q:VK):Prop
  | mk:∀ (j:Int),(xs = [.int j])→(∀ p,H p=none→Q (.ref p) (upd H p (.rng 0 j)))→J_call_range1V xs H Q
theorem call_range1V:CallR X (.type "range") (fun xs H Q=>J_call_range1V xs H Q):=by
  intro pins s σ H xs us Q I r h
  obtain ⟨j,rfl,q⟩:=h
  obtain ⟨u,rfl,ru⟩:=vals1 r
  obtain ⟨t,rfl⟩:=ru
  exact call_range_1 ⟨.ref s.heap.objs.size,_,I.laid (a:=s.heap.objs.size) (o := .rng 0 j) (fun _ _ q=>Heap.get?_push_of_some _ q) (Nat.le_refl _) ⟨_,_,_,Heap.get?_push_size _ rfl⟩,rfl,q _ (I.hok.fresh (Nat.le_refl _))⟩
inductive J_call_list_rng (xs:List V) (H:Hp) (Q:VK):Prop
  | mk:∀ (p:Addr) (n:Nat),(xs = [.ref p])→(H p=some (.rng 0 (n:Int)))→(n≤1000000)→(∀ l,H l=none→Q (.ref l) (upd H l (.lst ((List.range n).map fun i:Nat=>V.int (i:Int)))))→J_call_list_rng xs H Q
theorem call_list_rng (hc:X.calm=true):CallR X (.type "list") (fun xs H Q=>J_call_list_rng xs H Q):=by
  intro pins s σ H xs us Q I r h
  obtain ⟨p,n,rfl,hp,hn,q⟩:=h
  obtain ⟨u,rfl,ru⟩:=vals1 r
  cases (show u=Value.ref p from ru)
  obtain ⟨t,t',t'',e⟩:=(show ObjOk X.prog X.w H s.heap p (.rng 0 (n:Int)) from I.hok p _ hp)
  have hz:Builtin.Range.rangeSize 0 (n:Int) 1=n:=by rw [rangeSize_one];split <;> omega
  refine call_list_range (I.ok.hd hc) e (small_one (by omega) (by omega) (by omega) (by omega)) hz (by omega) fun h' tk acc' c' kp hS hacc => ?_
  refine ⟨.ref s.heap.objs.size,_,I.laid kp (Nat.le_refl _) (show ObjOk X.prog X.w _ h' _ (.lst ((List.range n).map fun i:Nat=>V.int (i:Int))) from ⟨?_,acc'.toList,c',?_,by simpa using hS⟩),rfl,q _ (I.hok.fresh (Nat.le_refl _))⟩
  · rw [List.length_map,List.length_range]
    exact Nat.le_trans hn (by decide)
  · refine valsBy (by rw [List.length_map,List.length_range,Array.length_toList];exact hacc.1.symm) fun j x v hx hv => ?_
    obtain ⟨t2,ht2⟩:=hacc.2 j v (by rw [← Array.getElem?_toList];exact hv)
    rw [List.getElem?_map] at hx
    have hj:j < n:=by
      have:=(List.getElem?_eq_some_iff.mp hv).1
      rw [Array.length_toList,hacc.1] at this
      exact this
    rw [List.getElem?_range hj] at hx
    have ex:V.int ((j:Nat):Int)=x:=Option.some.inj hx
    rw [← ex,ht2]
    exact ⟨t2,by congr 1;omega⟩
where
  valsBy:∀ {xs:List V} {us:List Value},xs.length=us.length→(∀ (j:Nat) x u,xs[j]? = some x→us[j]? = some u→RelV x u)→Vals xs us
  | [], [],_,_ => .nil
  | [],_ :: _,h,_=>by cases h
  | _ :: _, [],h,_=>by cases h
  | x :: xs,u :: us,h,f => .cons (f 0 x u rfl rfl) (valsBy (by simpa using h) fun j a b ha hb=>f (j+1) a b (by simpa using ha) (by simpa using hb))
end
theorem un10 {k:Nat} {A:Around} (hr:Room k A):A.units+10 < cLine:=by have:=hr.un;omega
theorem un101 {k:Nat} {A:Around} (hr:Room k A):A.units+151 < cLine:=by have:=hr.un;omega
inductive J_op_mul_str0 (x:V) (y:V) (H:Hp) (Q:VK):Prop
  | mk:∀ z n,(x = .str z)→(y = .int n)→(0≤n)→(n≤1000)→(z.length≤1000)→(Q (.str (timesS z n.toNat)) H)→J_op_mul_str0 x y H Q
theorem op_mul_str0 {X:Cx}:OpR X (binaryOp .Mult) (fun x y H Q=>J_op_mul_str0 x y H Q):=by
  intro pins s σ H x y v u Q I rx ry h
  obtain ⟨z,n,rfl,rfl,h1,h2,h3,q⟩:=h
  by_cases h0:n=0
  · subst h0
    obtain ⟨t,rfl⟩:=rx
    obtain ⟨t',rfl⟩:=ry
    exact PySem.P.mul_str_none (by omega) (by omega) ⟨.str (timesS z 0),H,I.tok _,⟨_,rfl⟩,q⟩
  · exact op_mul_str pins s σ H _ _ v u Q I rx ry ⟨z,n,rfl,rfl,by omega,h2,h3,q⟩
end L2
namespace Sw
open PySem L2
noncomputable abbrev Tm:=TM Str
noncomputable abbrev nV (n:Nat):V:=V.int (n:Int)
noncomputable def IsTm (H:Hp):Tm→V→Prop
  | .num n,v=>∃ a,v = .ref a∧H a=some (.tup [.str "num",.int n])
  | .name x,v=>∃ a,v = .ref a∧H a=some (.tup [.str "name",.str x])
  | .of x as,v=>∃ a b,v = .ref a∧H a=some (.tup [.str "of",.str x,.ref b])∧H b=some (.tup (as.map nV))
theorem IsTm.keep {H H':Hp} (ht:∀ b ys,H b=some (.tup ys)→H' b=some (.tup ys)):∀ {t:Tm} {v:V},IsTm H t v→IsTm H' t v
  | .num n,v,h=>by obtain ⟨a,e,h⟩:=h;exact ⟨a,e,ht _ _ h⟩
  | .name x,v,h=>by obtain ⟨a,e,h⟩:=h;exact ⟨a,e,ht _ _ h⟩
  | .of x as,v,h=>by obtain ⟨a,b,e,h,h2⟩:=h;exact ⟨a,b,e,ht _ _ h,ht _ _ h2⟩
theorem IsTm.same {H H':Hp} {t:Tm} {v:V} (sm:Same H H') (h:IsTm H t v):IsTm H' t v:=h.keep fun b ys=>sm _ _
noncomputable abbrev Tms (H:Hp):List V→List Tm→Prop:=Paired fun v t=>IsTm H t v
theorem tms_keep {H H':Hp} {us:List V} {ts:List Tm} (ht:∀ b ys,H b=some (.tup ys)→H' b=some (.tup ys)) (h:Tms H us ts):Tms H' us ts:=Paired.mapP h fun _ _ z=>z.keep ht
theorem tms_same {H H':Hp} {us:List V} {ts:List Tm} (sm:Same H H') (h:Tms H us ts):Tms H' us ts:=tms_keep (fun b ys=>sm _ _) h
theorem tms_at {H:Hp}:∀ {us:List V} {ts:List Tm} {i:Nat} {v:V},Tms H us ts→us[i]? = some v→∃ t,ts[i]? = some t∧IsTm H t v
  | _,_,_,_,.nil,e=>by simp at e
  | _,_,0,_,.cons h _,e=>by simp at e;subst e;exact ⟨_,rfl,h⟩
  | _,_,i+1,v,.cons _ r,e=>by
    obtain ⟨t,e',h⟩:=tms_at (i:=i) (v:=v) r (by simpa using e)
    exact ⟨t,by simpa using e',h⟩
theorem tms_snoc {H:Hp} {us:List V} {ts:List Tm} {v:V} {t:Tm} (h:Tms H us ts) (q:IsTm H t v):Tms H (us ++ [v]) (ts ++ [t]):=Paired.snoc h q
noncomputable def tmNK:Tm→NK
  | .num n => [.inl (.inr "num"),.inl (.inl n)]
  | .name x => [.inl (.inr "name"),.inl (.inr x)]
  | .of x as => [.inl (.inr "of"),.inl (.inr x),.inr (as.map fun n:Nat=>(.inl (n:Int):Key))]
theorem tmNK_inj:∀ {t u:Tm},tmNK t=tmNK u→t=u
  | .num n,.num m,e=>by unfold tmNK at e;simp at e;rw [e]
  | .name x,.name y,e=>by unfold tmNK at e;simp at e;rw [e]
  | .of x as,.of y bs,e=>by
    unfold tmNK at e
    simp only [List.cons.injEq,Sum.inl.injEq,Sum.inr.injEq,and_true,true_and] at e
    rw [e.1]
    have:=map_inj_of (f:=fun n:Nat=>(.inl (n:Int):Key)) (fun a b h=>by have h:=Sum.inl.inj h;omega) e.2
    rw [this]
  | .num n,.name y,e=>by
    unfold tmNK at e
    simp only [List.cons.injEq,Sum.inl.injEq,Sum.inr.injEq] at e
    exact absurd e.1 (by decide)
  | .name n,.num y,e=>by
    unfold tmNK at e
    simp only [List.cons.injEq,Sum.inl.injEq,Sum.inr.injEq] at e
    exact absurd e.1 (by decide)
  | .num n,.of y bs,e=>by unfold tmNK at e;simp at e
  | .name n,.of y bs,e=>by unfold tmNK at e;simp at e
  | .of y bs,.num n,e=>by unfold tmNK at e;simp at e
  | .of y bs,.name n,e=>by unfold tmNK at e;simp at e
theorem nV_kV (as:List Nat):as.map nV=(as.map fun n:Nat=>(.inl (n:Int):Key)).map kV:=by
  rw [List.map_map];rfl
theorem IsTm.key {H:Hp}:∀ {t:Tm} {v:V},IsTm H t v→∃ b,v = .ref b∧NKey H (tmNK t) b
  | .num n,v,h=>by
    obtain ⟨a,e,h⟩:=h
    refine ⟨a,e,_,h,?_⟩
    exact ⟨_,rfl,_,rfl,rfl⟩
  | .name x,v,h=>by
    obtain ⟨a,e,h⟩:=h
    refine ⟨a,e,_,h,?_⟩
    exact ⟨_,rfl,_,rfl,rfl⟩
  | .of x as,v,h=>by
    obtain ⟨a,b,e,h,h2⟩:=h
    refine ⟨a,e,_,h,?_⟩
    rw [nV_kV] at h2
    exact ⟨_,rfl,_,rfl,b,_,rfl,h2,rfl⟩
noncomputable def tmD:Tm→D
  | .num n => .tup [.str "num",.int n]
  | .name x => .tup [.str "name",.str x]
  | .of x as => .tup [.str "of",.str x,.tup (as.map fun n:Nat => .int (n:Int))]
theorem dens_ints {H:Hp}:∀ as:List Nat,Dens H (as.map fun n:Nat=>D.int (n:Int)) (as.map nV)
  | []=>by rw [List.map_nil,List.map_nil];exact dens_nil
  | a :: as=>by rw [List.map_cons,List.map_cons];exact dens_cons (by rw [Den];exact .inl rfl) (dens_ints as)
theorem IsTm.den {H:Hp}:∀ {t:Tm} {v:V},IsTm H t v→Den H (tmD t) v
  | .num n,v,h=>by
    obtain ⟨a,e,h⟩:=h
    rw [tmD,Den]
    exact ⟨a,_,e,h,dens_cons (by rw [Den]) (dens_cons (by rw [Den];exact .inl rfl) dens_nil)⟩
  | .name x,v,h=>by
    obtain ⟨a,e,h⟩:=h
    rw [tmD,Den]
    exact ⟨a,_,e,h,dens_cons (by rw [Den]) (dens_cons (by rw [Den]) dens_nil)⟩
  | .of x as,v,h=>by
    obtain ⟨a,b,e,h,h2⟩:=h
    rw [tmD,Den]
    exact ⟨a,_,e,h,dens_cons (by rw [Den]) (dens_cons (by rw [Den]) (dens_cons (by rw [Den];exact ⟨b,_,rfl,h2,dens_ints as⟩) dens_nil))⟩
theorem tms_den {H:Hp} {us:List V} {ts:List Tm} (h:Tms H us ts):Dens H (ts.map tmD) us:=by
  induction h with
  | nil=>exact dens_nil
  | cons h _ ih=>rw [List.map_cons];exact dens_cons h.den ih
theorem ints_deep:∀ as:List Nat,D.deeps (as.map fun n:Nat=>D.int (n:Int))=0
  | []=>by rw [List.map_nil,D.deeps]
  | a :: as=>by rw [List.map_cons,D.deeps,ints_deep as,D.deep];rfl
theorem tm_deep:∀ t:Tm,(tmD t).deep≤2
  | .num n=>by rw [tmD,D.deep,D.deeps,D.deeps,D.deeps,D.deep,D.deep];decide
  | .name n=>by rw [tmD,D.deep,D.deeps,D.deeps,D.deeps,D.deep,D.deep];decide
  | .of x as=>by rw [tmD,D.deep,D.deeps,D.deeps,D.deeps,D.deeps,D.deep,D.deep,D.deep,ints_deep];decide
theorem tms_deep:∀ ts:List Tm,D.deeps (ts.map tmD)≤2
  | []=>by rw [List.map_nil,D.deeps];omega
  | t :: ts=>by rw [List.map_cons,D.deeps];have:=tms_deep ts;have:=tm_deep t;omega
theorem tmD_inj:∀ {t u:Tm},tmD t=tmD u→t=u
  | .num n,.num m,e=>by unfold tmD at e;simp at e;rw [e]
  | .name x,.name y,e=>by unfold tmD at e;simp at e;rw [e]
  | .of x as,.of y bs,e=>by
    unfold tmD at e
    simp only [D.tup.injEq,List.cons.injEq,D.str.injEq,and_true,true_and] at e
    rw [e.1]
    have:=map_inj_of (f:=fun n:Nat=>D.int (n:Int)) (fun a b h=>by have h:=D.int.inj h;omega) e.2
    rw [this]
  | .num n,.name y,e=>by
    unfold tmD at e
    simp only [D.tup.injEq,List.cons.injEq,D.str.injEq] at e
    exact absurd e.1 (by decide)
  | .name n,.num y,e=>by
    unfold tmD at e
    simp only [D.tup.injEq,List.cons.injEq,D.str.injEq] at e
    exact absurd e.1 (by decide)
  | .num n,.of y bs,e=>by unfold tmD at e;simp at e
  | .name n,.of y bs,e=>by unfold tmD at e;simp at e
  | .of y bs,.num n,e=>by unfold tmD at e;simp at e
  | .of y bs,.name n,e=>by unfold tmD at e;simp at e
noncomputable def But (L:Addr) (H H':Hp):Prop := ∀ c o,c≠L→H c=some o→H' c=some o
theorem But.refl (L:Addr) (H:Hp):But L H H:=fun _ _ _ h=>h
theorem But.same {L:Addr} {H H1 H2:Hp} (a:But L H H1) (b:Same H1 H2):But L H H2:=fun c o n h=>b c o (a c o n h)
theorem But.put {L:Addr} {H H1:Hp} {o:HO} (a:But L H H1):But L H (upd H1 L o):=fun c u n h=>by rw [upd_ne n];exact a c u n h
theorem But.new {L p:Addr} {H H1:Hp} {o:HO} (a:But L H H1) (hp:H p=none):But L H (upd H1 p o):=fun c u n h=>by rw [upd_ne (ne_of_none h hp)];exact a c u n h
theorem But.tup {L:Addr} {H H1:Hp} {ls:List V} (a:But L H H1) (hL:H L=some (.lst ls)):∀ b ys,H b=some (.tup ys)→H1 b=some (.tup ys):=fun b ys h=>a b _ (ne_of h hL (fun z=>nomatch z)) h
noncomputable def EdgeAt (H:Hp) (v:V) (e:Nat × Nat):Prop := ∃ a rest,v = .ref a∧H a=some (.tup (nV e.1 :: nV e.2 :: rest))
theorem EdgeAt.keep {H H':Hp} {v:V} {e:Nat × Nat} (ht:∀ b ys,H b=some (.tup ys)→H' b=some (.tup ys)) (h:EdgeAt H v e):EdgeAt H' v e:=by
  obtain ⟨a,r,z,h⟩:=h
  exact ⟨a,r,z,ht _ _ h⟩
noncomputable abbrev Edges (H:Hp):List V→List (Nat × Nat)→Prop:=Paired (EdgeAt H)
theorem edges_keep {H H':Hp} {us:List V} {es:List (Nat × Nat)} (ht:∀ b ys,H b=some (.tup ys)→H' b=some (.tup ys)) (h:Edges H us es):Edges H' us es:=Paired.mapP h fun _ _ z=>z.keep ht
theorem edges_at {H:Hp}:∀ {us:List V} {ts:List (Nat × Nat)} {i:Nat} {v:V},Edges H us ts→us[i]? = some v→∃ t,ts[i]? = some t∧EdgeAt H v t
  | _,_,_,_,.nil,e=>by simp at e
  | _,_,0,_,.cons h _,e=>by simp at e;subst e;exact ⟨_,rfl,h⟩
  | _,_,i+1,v,.cons _ r,e=>by
    obtain ⟨t,e',h⟩:=edges_at (i:=i) (v:=v) r (by simpa using e)
    exact ⟨t,by simpa using e',h⟩
theorem rd_cut {t rest:TS} {D:Ends} {σ : St} {H:Hp} (R:St→Hp→Prop) (key:∀ σ' H',R σ' H'→rest D σ' H') (h:∀ {N:St→Hp→Prop},(∀ σ' H',R σ' H'→N σ' H')→t { D with nx:=N } σ H):tSeq t rest D σ H:=h key
theorem nV_at {ls:List Nat} {k v:Nat} (h:ls[k]? = some v):atI (ls.map nV) (k:Int)=some (nV v):=atI_nat (by rw [List.getElem?_map,h];rfl)
theorem nV_set {ls:List Nat} {k v:Nat}:(ls.map nV).set k (nV v)=(ls.set k v).map nV:=by rw [List.map_set]
noncomputable def vI:V→Int
  | .int c=>c
  | _=>0
noncomputable def abc:Str := "abcdefghijklmnopqrstuvwxyz"
noncomputable def letF (i:Int):Str:=⟨#[abc.cps.toList.getD (i % 26).toNat 97]⟩
theorem abcF_at (i:Int):atI abc.cps.toList (i % 26)=some (abc.cps.toList.getD (i % 26).toNat 97):=by
  have h0:0≤i % 26:=Int.emod_nonneg _ (by decide)
  have h1:i % 26 < 26:=Int.emod_lt_of_pos _ (by decide)
  have hl:abc.cps.toList.length=26:=by decide +kernel
  have hi:(i % 26).toNat < abc.cps.toList.length:=by omega
  have z:atI abc.cps.toList (((i % 26).toNat:Nat):Int)=some abc.cps.toList[(i % 26).toNat]:=atI_nat (List.getElem?_eq_getElem hi)
  have e:(((i % 26).toNat:Nat):Int)=i % 26:=by omega
  rw [e] at z
  rw [z,List.getD_eq_getElem?_getD,List.getElem?_eq_getElem hi]
  rfl
noncomputable def TsOk (ts:List Tm):Prop:=Arms ts∧(∀ (i:Nat) x as,ts[i]? = some (.of x as)→as.length≤4∧1≤as.length)∧ts.Nodup
theorem tsok_nil:TsOk []:=⟨fun i x as h=>by simp at h,fun i x as h=>by simp at h,List.nodup_nil⟩
theorem cutV_mem {xs:List V} {lo hi:Option Int} {x:V} (h:x∈cutV xs lo hi):x∈xs:=List.mem_of_mem_drop (List.mem_of_mem_take h)
theorem cut_take {xs:List V} {k:Nat} (h:k≤xs.length):cutV xs none (some (k:Int))=xs.take k:=by
  unfold cutV
  rw [HT.sIx_nat,HT.sIx_none,Nat.min_eq_left h,List.drop_zero,Nat.sub_zero]
theorem getD_at {ls:List Nat} {k:Nat} (h:k < ls.length):ls[k]? = some (ls.getD k 0):=by rw [List.getD_eq_getElem?_getD,List.getElem?_eq_getElem h];rfl
theorem den_leads {H:Hp} {L:Addr} {ls:List Nat} (h:H L=some (.lst (ls.map nV))):Den H (.lst (ls.map fun n:Nat=>D.int (n:Int))) (.ref L):=by rw [Den];exact ⟨L,_,rfl,h,dens_ints ls⟩
end Sw
namespace L2
open PySem PySem.Spec PyProof.Rows

section
variable {prog:Program} {w:World} {K:Type} [DecidableEq K] {knd:HeapKind prog w K} {A:Around} {E:Value→Shared→Prop} {s:Shared} {d:Addr} {xs:List (K × Addr × Value)}
end
section
variable {X:Cx} {pins:List (Addr × Obj)} {σ : St} {H:Hp} {s:Shared} {a b:Addr} {kvs kvs':List (NK × V)} {k:NK} {y v:V} {u r:Value} {A:Around} {E:Value→Shared→Prop}
theorem KN.repl {xs:List (NK × Addr × Value)} (r:KN H kvs xs) (k:NK) {y:V} {u:Value} (ry:RelV y u) :
    KN H (kvs.map fun kv=>if kv.1=k then (kv.1,y) else kv) (xs.map (putAt k u)):=by
  induction r with
  | nil=>exact .nil
  | @cons p q ps qs h t ih =>
    rw [List.map_cons,List.map_cons]
    refine .cons ?_ ih
    obtain ⟨h1,h2,h3⟩:=h
    unfold putAt
    by_cases e:p.1=k
    · rw [if_pos e,if_pos (h1.symm.trans e)];exact ⟨h1,h2,ry⟩
    · rw [if_neg e,if_neg (fun z=>e (h1.trans z))];exact ⟨h1,h2,h3⟩
theorem KN.put {xs:List (NK × Addr × Value)} (r:KN H kvs xs) (k:NK) {b:Addr} {y:V} {u:Value} (hb:NKey H k b) (ry:RelV y u) :
    KN H (putK kvs k y) (storedH xs k b u):=by
  have e:(kvs.any fun kv=>decide (kv.1=k))=(atKey xs k).isSome:=by
    rw [valV_any,(r.val k).isSome_eq,Option.isSome_map]
  unfold putK storedH
  rw [e]
  by_cases q:(atKey xs k).isSome=true
  · rw [if_pos q,if_pos q];exact r.repl k ry
  · rw [if_neg q,if_neg q];exact Paired.snoc r ⟨rfl,hb,ry⟩
theorem dn_notIn {Q:Value→Shared→Prop} (hu:A.units+10 < cLine) (I:Inv X pins σ H s) (d:DN X.prog X.w H a kvs) (nk:NKey H k b) (h:∀ s',Inv X pins σ H s'→Q (.bool (!(valV kvs k).isSome)) s') :
    wpAny (model X.prog X.w) A (compareOp .NotIn (.ref b) (.ref a)) Q E s:=by
  obtain ⟨z,hd,xs,rel,dd⟩:=dn_rd I.hok d
  refine wpAny_notIn_heap (show A.units+1+5 < cLine by omega) (nkey_of I.hok nk) hd dd ?_
  have q:=(rel.val k).isSome_eq
  rw [Option.isSome_map] at q
  rw [← q]
  exact h _ (I.tok _)
theorem dn_setItem {Q:Unit→Shared→Prop} (hu:A.units+10 < cLine) (I:Inv X pins σ H s) (d:DN X.prog X.w H a kvs) (nk:NKey H k b) (rv:RelV v r) (hl:kvs.length < sizeLine)
    (h:∀ φ s',Inv X pins σ (upd H a (.ext φ)) s'→DN X.prog X.w (upd H a (.ext φ)) a (putK kvs k v)→Q () s') :
    wpAny (model X.prog X.w) A (setItem (.ref a) (.ref b) r) Q E s:=by
  obtain ⟨z,hd,xs,rel,dd⟩:=dn_rd I.hok d
  have hz:xs.length≤sizeLine:=by rw [← Paired.length rel];exact z
  have hl':(putK kvs k v).length≤sizeLine:=by have:=length_putK kvs k v;omega
  refine wpAny_setItem_heap (hsz:=hz) (show A.units+1+5 < cLine by omega) (nkey_of I.hok nk) dd fun h' dd' hs => ?_
  obtain ⟨φ,I',d'⟩:=dn_write (t':=s.toks+(nkKind X.prog X.w).draws k) I d hs dd' (rel.put k nk rv) hl'
  exact h φ _ I' d'
end
inductive J_tNNotIn (P:Program) (w:World) (Q:VK) (y:V) (x:V) (H2:Hp):Prop
  | mk:∀ a b kvs k,(x = .ref a)→(y = .ref b)→(DN P w H2 a kvs)→(NKey H2 k b)→(Q (.bl (!(valV kvs k).isSome)) H2)→J_tNNotIn P w Q y x H2
noncomputable def tNNotIn (P:Program) (w:World) (ty td:TE):TE:=fun σ H Q=>ty σ H fun y H1=>td σ H1 fun x H2=>J_tNNotIn P w Q y x H2
inductive J_sNPut (P:Program) (w:World) (D:Ends) (σ : St) (v:V) (x:V) (y:V) (H3:Hp):Prop
  | mk:∀ a b kvs k,(x = .ref a)→(y = .ref b)→(DN P w H3 a kvs)→(NKey H3 k b)→(kvs.length < sizeLine)→(∀ φ,DN P w (upd H3 a (.ext φ)) a (putK kvs k v)→D.nx σ (upd H3 a (.ext φ)))→J_sNPut P w D σ v x y H3
noncomputable def sNPut (P:Program) (w:World) (td ty tv:TE):TS:=fun D σ H=>tv σ H fun v H1=>td σ H1 fun x H2=>ty σ H2 fun y H3=>J_sNPut P w D σ v x y H3
section
variable {X:Cx} {o i e f value:Expr} {pos pos' apos cpos:Pos} {td ty tv:TE}
theorem pc_nnotin (hu:X.A.units+10 < cLine) (hi:PE X i ty) (ho:PE X o td):PC X .NotIn i o (tNNotIn X.prog X.w ty td):=by
  intro pins s σ H Q I h
  refine thn (hi pins s σ H _ I h) fun iv s1 ⟨y,H1,I1,ry,q1⟩=>thn (ho pins s1 σ H1 _ I1 q1) fun u s2 ⟨x,H2,I2,rx,a,b,kvs,k,ex,ey,d,nk,q2⟩ => ?_
  subst ex ey
  obtain rfl:u=Value.ref a:=rx
  obtain rfl:iv=Value.ref b:=ry
  exact dn_notIn hu I2 d nk fun s3 I3=>⟨.bl (!(valV kvs k).isSome),H2,I3,rfl,q2⟩
theorem ps_nput (hu:X.A.units+10 < cLine) (ho:PE X o td) (hi:PE X i ty) (hv:PE X value tv) (hs:swapsWith value (some (.Subscript o i pos')) pos.line X.env=pure false) :
    PS X (.Assign [.Subscript o i pos'] value pos) (sNPut X.prog X.w td ty tv):=by
  intro pins s σ H D I h
  refine wpAny_Assign_Subscript (thn (hv pins s σ H _ I h) fun r s1 ⟨v,H1,I1,rv,q1⟩=>thn (ho pins s1 σ H1 _ I1 q1) fun u s2 ⟨x,H2,I2,rx,q2⟩=>thn (hi pins s2 σ H2 _ I2 q2) fun iv s3 ⟨y,H3,I3,ry,a,b,kvs,k,ex,ey,d,nk,hl,q3⟩ => ?_) hs
  subst ex ey
  obtain rfl:u=Value.ref a:=rx
  obtain rfl:iv=Value.ref b:=ry
  exact dn_setItem hu I3 d nk rv hl fun φ s4 I4 d4=>⟨σ,_,I4,q3 φ d4⟩
end
end L2
namespace L2
open PySem PySem.Spec PyProof.Rows

theorem vals_bl:∀ {bs:List Bool} {us:List Value},Vals (bs.map V.bl) us→us=bs.map Value.bool
  | [],_,r=>by cases r;rfl
  | b :: bs,_,r=>by
    rw [List.map_cons] at r
    cases r with
    | cons h t=>rw [vals_bl t,List.map_cons,show _=Value.bool b from h]
section
variable {X:Cx}
inductive J_call_allL (kK:PySem.W.Frag) (xs:List V) (H:Hp) (Q:VK):Prop
  | mk:∀ (p:Addr) (bs:List Bool),(xs = [.ref p])→(SqL kK H p (bs.map V.bl))→(Q (.bl (bs.all id)) H)→J_call_allL kK xs H Q
theorem call_allL (hc:X.calm=true):CallR X (.builtin "all") (fun xs H Q=>J_call_allL X.K xs H Q):=by
  intro pins s σ H xs us Q I r h
  obtain ⟨p,bs,rfl,hq,q⟩:=h
  obtain ⟨u,rfl,ru⟩:=vals1 r
  cases ru
  obtain ⟨its,rv,pl,hz⟩:=I.list hq
  have e:=vals_bl rv
  subst e
  have hlt:p < s.heap.objs.size:=by obtain ⟨_,e,_⟩:=pl.isList;exact Heap.lt_size e
  refine call_all_walk (wpAny_pyIter_list pl.isList ?_)
  refine ⟨_,_,_,_,_,_,fun i=>bs.getD i false,rfl,Walks.list (A:=X.A.in1) (I.ok.hd hc) _ p (Nat.ne_of_lt hlt) (bs.map Value.bool).toArray,⟨⟨_,Heap.get?_push_size _ rfl,rfl,rfl⟩,pl.isList.push _⟩,fun i v s' Q' E' hv hQ' => ?_,fun h' tk hk => ?_⟩
  · have hv':(bs.map Value.bool)[i]? = some v:=by simpa using hv
    rw [List.getElem?_map] at hv'
    cases e:bs[i]? with
    | none=>rw [e] at hv';cases hv'
    | some b =>
      rw [e] at hv'
      have e1:Value.bool b=v:=Option.some.inj hv'
      subst e1
      have e2:bs.getD i false=b:=by rw [List.getD_eq_getElem?_getD,e];rfl
      have hQ2:Q' b s':=e2 ▸ hQ'
      exact wpAny_truthy_bool hQ2
  · have ea:(List.range (bs.map Value.bool).toArray.size).all (fun i=>bs.getD i false)=bs.all id:=by
      have hs:(bs.map Value.bool).toArray.size=bs.length:=by simp
      rw [hs,Bool.eq_iff_iff,List.all_eq_true,List.all_eq_true]
      constructor
      · intro h b hb
        obtain ⟨i,hi⟩:=List.mem_iff_getElem?.mp hb
        have hl:=(List.getElem?_eq_some_iff.mp hi).1
        have:=h i (List.mem_range.mpr hl)
        rw [List.getD_eq_getElem?_getD,hi] at this
        exact this
      · intro h i hi
        have hl:=List.mem_range.mp hi
        have e:=List.getElem?_eq_getElem hl
        rw [List.getD_eq_getElem?_getD,e]
        exact h _ (List.getElem_mem hl)
    rw [ea]
    exact ⟨.bl (bs.all id),H,I.kept fun b o e=>old_kept hk b o e,rfl,q⟩
variable {o:Expr} {apos cpos:Pos} {td:TE}
end
section
variable {X:Cx} {tg l:Expr} {tl:TE}
end
end L2
namespace L2
open PySem PySem.Spec PyProof.Rows

section
variable {X:Cx} {pins:List (Addr × Obj)} {σ : St} {H:Hp} {s:Shared} {a:Addr} {kvs:List (Key × V)} {k:Key} {v:V} {u r:Value} {A:Around} {E:Value→Shared→Prop}
theorem dk_setdefault {Q:Value→Shared→Prop} (I:Inv X pins σ H s) (e:H a=some (.dK kvs)) (ry:RelV (kV k) u) (rv:RelV v r) (hl:kvs.length < sizeLine)
    (h1:∀ v' w' s',valV kvs k=some v'→RelV v' w'→Inv X pins σ H s'→Q w' s') (h2:valV kvs k=none→∀ s',Inv X pins σ (upd H a (.dK (kvs ++ [(k,v)]))) s'→Q r s') :
    wpAny (model X.prog X.w) A (call (.builtin "dict.setdefault") [.ref a,u,r]) Q E s:=by
  obtain ⟨z,hd,vs,rel,dd⟩:=dk_of I.hok e
  have hz:vs.length≤sizeLine:=by rw [← rel.length];exact z
  have ro:=rel.val k
  refine call_meetsIn PySem.F.slot_dict_setdefault dd.typeIs PySem.F.entry_dict_setdefault (PySem.F.args_dict_setdefault_3 _ _ _) (kt_meets_setdefault (mixKind X.prog X.w) a (kV_is ry) hd r) ?_
  refine ⟨vs,dd,hz,fun w' hw => ?_,fun hn h' dd' hs => ?_⟩
  · rw [hw] at ro
    cases e:valV kvs k with
    | none=>rw [e] at ro;exact ro.elim
    | some v'=>rw [e] at ro;exact h1 v' _ _ e ro (I.tok _)
  · rw [hn] at ro
    cases e':valV kvs k with
    | some v'=>rw [e'] at ro;exact ro.elim
    | none =>
      refine h2 e' _ ?_
      have he:∃ q,h'.get? a=some q:=let ⟨q,_,_,hq,_⟩:=dd'; ⟨q,hq⟩
      have hp:=rel.put k rv
      rw [putK_new v e'] at hp
      exact d_write I (by rw [e];exact True.intro) hs he (dk_new (by rw [List.length_append];exact hl) hd hp dd')
end
noncomputable def tSetK (td ty tx:TE):TE:=fun σ H Q=>td σ H fun x H1=>∃ a,x = .ref a∧IsD H1 a∧ty σ H1 fun y H2=>tx σ H2 fun z H3=>∃ kvs k,H3 a=some (.dK kvs)∧y=kV k∧kvs.length < sizeLine ∧
  (∀ v,valV kvs k=some v→Q v H3)∧(valV kvs k=none→Q z (upd H3 a (.dK (kvs ++ [(k,z)]))))
section
variable {X:Cx} {o e f:Expr} {apos cpos:Pos} {td ty tx:TE}
theorem pe_setK (ho:PE X o td) (he:PE X e ty) (hf:PE X f tx) (m:M2 X o "setdefault" apos e f cpos):PE X (.Call (.Attribute o "setdefault" apos) [e,f] [] cpos) (tSetK td ty tx):=by
  intro pins s σ H Q I h
  refine wpAny_Call_method m.base m.few m.line PySem.F.plainAttrs_dict PySem.F.slot_dict_setdefault PySem.F.type_dict_setdefault (thn (ho pins s σ H _ I h) fun u s1 ⟨x,H1,I1,rx,a,ex,d,q1⟩ => ?_)
  subst ex
  obtain rfl:u=Value.ref a:=rx
  obtain ⟨t1,t2,_⟩:=isD_at I1 d
  refine ⟨t1,t2,?_⟩
  rw [m.trees]
  refine Calls.callWith_builtin rfl (Calls.evalArgs_plain (Calls.spliced_cons (thn (he pins s1 σ H1 _ I1 q1) fun iv s2 ⟨y,H2,I2,ry,q2⟩ =>
    Calls.spliced_cons (thn (hf pins s2 σ H2 _ I2 q2) fun fv s3 ⟨z,H3,I3,rz,kvs,k,d3,ey,hl,q3,q4⟩=>Calls.spliced_nil ?_))))
  subst ey
  exact dk_setdefault I3 d3 ry rz hl (fun v' w' s4 e4 r4 I4=>⟨v',H3,I4,r4,q3 v' e4⟩) fun hn s4 I4=>⟨z,_,I4,rz,q4 hn⟩
end
theorem boot_dict_:bootBuiltins "dict" = some (.type "dict"):=by decide +kernel
theorem boot_all_:bootBuiltins "all" = some (.builtin "all"):=by decide +kernel
theorem comp_listP {β : Type} {R:Hp→V → β → Prop} {K:PySem.W.Frag} {a:Addr} {xs:List V} {bs:List β} {te:TE} {σ : St} {caps:List (Str × Nat)} {H:Hp} {Q:VK} (kp:∀ (H H':Hp) v b,(∀ c ys,H c=some (.tup ys)→H' c=some (.tup ys))→R H v b→R H' v b)
    (hS:SqL K H a xs) (hz:xs.length≤1000) (hy:bs.length=xs.length)
    (hel:∀ (i:Nat) (x:V) (b : β),xs[i]? = some x→bs[i]? = some b→∀ H',Same H H'→∀ Q':VK,(∀ y H'',Same H' H''→R H'' y b→Q' y H'')→te (some x :: capt σ caps) H' Q')
    (hq:∀ D H' ys,H D=none→Same H H'→H' D=some (.lst ys)→Paired (R H') ys bs→Q (.ref D) H') :
    CompBody (Itl K a) (gName 0) te (List.replicate 1 none ++ capt σ caps) H Q:=by
  intro D hD
  refine ⟨fun i m τ zs H'=>m=xs.length - i∧i≤xs.length∧(∃ o, τ = o :: capt σ caps)∧Paired (R H') zs (bs.take i)∧Same H H'∧H' D=some (.lst zs),⟨xs.length,by simp,Nat.zero_le _,⟨none,rfl⟩,.nil,same_new hD _,upd_same⟩,?_⟩
  rintro i m τ zs H' ⟨rfl,hi,⟨o,rfl⟩,hzs,sm,hDl⟩
  refine ⟨hDl,?_⟩
  have hlz:=Paired.length hzs
  rw [List.length_take] at hlz
  by_cases hlt:i < xs.length
  · refine .inr ⟨⟨xs,xs[i],sm.seq hS,by simp [hlt]⟩,small1000 (by omega),fun x H'' y => ?_⟩
    obtain ⟨e,y⟩:=y
    subst e
    have hx:=y xs (sm.seq hS)
    have hdi:bs[i]? = some bs[i]:=List.getElem?_eq_getElem (by omega)
    show te (some x :: capt σ caps) _ _
    refine hel i x bs[i] hx hdi _ sm _ (fun v H2 s2 hv => ?_)
    have hD2:=s2 _ _ hDl
    have k2:∀ b ys,H2 b=some (.tup ys)→(upd H2 D (.lst (zs ++ [v]))) b=some (.tup ys):=fun b ys e=>by rw [upd_ne (ne_of e hD2 (fun z=>nomatch z))];exact e
    refine ⟨hD2,xs.length - (i+1),by omega,rfl,hlt,⟨_,rfl⟩,?_,(sm.trans s2).put hD,upd_same⟩
    have e1:bs.take (i+1)=bs.take i ++ [bs[i]]:=by rw [List.take_add_one,hdi];rfl
    rw [e1]
    exact Paired.snoc (Paired.mapP hzs fun v b r=>kp _ _ v b k2 (kp _ _ v b (fun c ys=>s2 _ _) r)) (kp _ _ _ _ k2 hv)
  · have e:i=xs.length:=by omega
    subst e
    refine .inl ⟨⟨xs,sm.seq hS,Nat.le_refl _⟩,?_⟩
    rw [← hy,List.take_length] at hzs
    exact hq D H' zs hD sm hDl hzs
end L2
namespace PySem
section
variable {prog:Program} {w:World} {A:Around} {E:Value→Shared→Prop} {s:Shared}
end
section
variable {prog:Program} {w:World} {A:Around} {s:Shared} {R:Result→Shared→Prop} {I l:Addr} {items:Array Value}
end
section
variable {prog:Program} {w:World} {A:Around} {E:Value→Shared→Prop} {s:Shared} {I l:Addr} {items:Array Value}
end
end PySem
namespace L2
open PySem PySem.Spec PyProof.Rows
theorem boot_reversed_:bootBuiltins "reversed" = some (.type "reversed"):=by rfl
theorem vals_at {xs:List V} {us:List Value} (r:Vals xs us):∀ {j:Nat} {x:V} {u:Value},xs[j]? = some x→us[j]? = some u→RelV x u:=by
  induction r with
  | nil=>intro j x u h;simp at h
  | cons h t ih =>
    intro j x u hx hu
    cases j with
    | zero=>simp at hx hu;subst hx hu;exact h
    | succ j=>exact ih (j:=j) (by simpa using hx) (by simpa using hu)
end L2
namespace L2
open PySem PySem.Spec PyProof.Rows
noncomputable def strsOf:List Expr→Option (List Str)
  | []=>some []
  | .Constant (.str x) _ _ :: es=>(strsOf es).map (x :: ·)
  | _=>none
theorem strsC_of:∀ {es:List Expr} {L:List Str},strsOf es=some L→StrsC es L
  | [],L,h=>by
    cases (show some []=some L from h)
    exact .nil
  | e :: es,L,h=>by
    unfold strsOf at h
    split at h
    · rename_i heq;cases heq
    · rename_i x j p es' heq
      cases heq
      cases q:strsOf es with
      | none=>rw [q] at h;cases h
      | some L' =>
        rw [q] at h
        cases h
        exact .cons (strsC_of q)
    · cases h
theorem pa_strsB {X:Cx} {es:List Expr} {L:List Str} (h:strsOf es=some L):PA X es (tStrs L):=pa_strs (strsC_of h)
end L2
namespace L2
open PySem PySem.Spec PyProof.Rows
section
variable {X:Cx}
theorem op_mulB:OpR X (binaryOp .Mult) (rI IntMulOk fun i j => .int (i * j)):=opI fun _ _ _ _ _ _ _ hc q=>mul_int q hc
theorem mulB_of {a b:Int} {m n:Nat} (ha:a.natAbs < 2 ^ m) (hb:b.natAbs < 2 ^ n) (h:m+n≤134217728):IntMulOk a b:=IntMulOk.of_le (intBits_le_iff.mpr ha) (intBits_le_iff.mpr hb) h
inductive J_call_dictK (xs:List V) (H:Hp) (Q:VK):Prop
  | mk:∀ p kvs,(xs = [.ref p])→(H p=some (.dK kvs))→(∀ l,H l=none→Q (.ref l) (upd H l (.dK kvs)))→J_call_dictK xs H Q
theorem call_dictK:CallR X (.type "dict") (fun xs H Q=>J_call_dictK xs H Q):=by
  intro pins s σ H xs us Q I r h
  obtain ⟨p,kvs,rfl,e,q⟩:=h
  obtain ⟨u,rfl,rx⟩:=vals1 r
  cases rx
  obtain ⟨z,y,vs,rel,dd⟩:=(show ObjOk X.prog X.w H s.heap p (.dK kvs) from I.hok p _ e)
  have hl:=rel.length
  refine kt_call_dict y dd (by rw [← hl];exact z) fun h' hm hs => ?_
  have kp:∀ b o',s.heap.get? b=some o'→h'.get? b=some o':=fun b o' e'=>by
    have hb:b≠s.heap.objs.size:=fun z=>absurd (Heap.lt_size e') (by rw [z];exact Nat.lt_irrefl _)
    have h1:=Heap.get?_push_of_some { cls := .type "dict",data := .dict #[] } e'
    rw [hs.2 b hb]
    exact h1
  exact ⟨.ref s.heap.objs.size,_,I.laid (t':=s.toks) kp (Nat.le_refl _) (show ObjOk X.prog X.w _ h' _ (.dK kvs) from ⟨z,beq_eq_false_iff_ne.mpr (Ne.symm (Nat.ne_of_lt I.big)),vs,rel,hm⟩),rfl,q _ (I.hok.fresh (Nat.le_refl _))⟩
noncomputable def tInts (L:List Int):TA:=fun _ H Q=>Q (L.map V.int) H
inductive IntsC:List Expr→List Int→Prop where
  | nil:IntsC [] []
  | cons {x:Int} {j:Nat} {p:Pos} {es:List Expr} {L:List Int} (h:IntsC es L):IntsC (.Constant (.int x) j p :: es) (x :: L)
theorem pa_ints {es:List Expr} {L:List Int} (h:IntsC es L):PA X es (tInts L):=by
  induction h with
  | nil=>exact pa_nil
  | cons h ih=>exact pa_cons pe_int ih
noncomputable def intsOf:List Expr→Option (List Int)
  | []=>some []
  | .Constant (.int x) _ _ :: es=>(intsOf es).map (x :: ·)
  | _=>none
theorem intsC_of:∀ {es:List Expr} {L:List Int},intsOf es=some L→IntsC es L
  | [],L,h=>by
    cases (show some []=some L from h)
    exact .nil
  | e :: es,L,h=>by
    unfold intsOf at h
    split at h
    · rename_i heq;cases heq
    · rename_i x j p es' heq
      cases heq
      cases q:intsOf es with
      | none=>rw [q] at h;cases h
      | some L' =>
        rw [q] at h
        cases h
        exact .cons (intsC_of q)
    · cases h
theorem pa_intsB {es:List Expr} {L:List Int} (h:intsOf es=some L):PA X es (tInts L):=pa_ints (intsC_of h)
end
theorem rd_if2 {c:TT} {t u:TS} {D:Ends} {σ : St} {H:Hp} (R:Bool→Hp→Prop) (hc:∀ Q:Bool→Hp→Prop,(∀ b H',R b H'→Q b H')→c σ H Q) (h1:∀ H',R true H'→t D σ H') (h2:∀ H',R false H'→u D σ H'):tIfS c t u D σ H:=by
  refine hc _ fun b H' r => ?_
  cases b with
  | true=>exact iteT (h1 _ r)
  | false=>exact iteF (h2 _ r)
section
variable {P:Program} {w:World} {A:Around} {s:Shared}
open SeqAt MeetsSeq MeetsSeq2 MeetsSeq3 SeqRoads2
open AutoSeq1 (wpAny_loadPart')
noncomputable def EqW (P:Program) (w:World) (A:Around) (s:Shared) (y x:Value) (b:Bool):Prop := ∀ (E:Value→Shared→Prop) (Q:Bool→Shared→Prop),Q b s→wpAny (model P w) A (eqBool y x) Q E s
theorem EqW.of_at {y x:Value} {b:Bool} (h:EqAt A s y x b):EqW P w A s y x b:=fun E Q hq=>h P w E Q hq
theorem EqW.of_refs {l b:Addr} {k:Bool} (hne:l≠b) (h:∀ (E Q:Value→Shared→Prop),Q (.bool k) s→wpAny (model P w) A (compareOp .Eq (.ref l) (.ref b)) Q E s):EqW P w A s (.ref l) (.ref b) k:=fun E Q hq=>by
  unfold eqBool
  refine wpAny_holding ?_
  refine wpAny_ite_split (fun hab=>absurd (by have:=eq_of_beq hab;injection this) hne) (fun _ => ?_)
  exact wpAny_bind (h E _ (wpAny_truthy_bool hq))
theorem eq_loopW (l b:Addr) (items items2:Array Value) (n n2:Nat) (dd dd2:Option Addr) (sl sl2:Array (Option Value)) (hsz:items.size=items2.size) (k:Nat) :
    ∀ i:Nat,items.size - i=k→∀ (A:Around) (R:Result→Shared→Prop) (s:Shared),s.heap.get? l=some { cls := .type "list",dict:=dd,data := .seq items n,slots:=sl }→s.heap.get? b=some { cls := .type "list",dict:=dd2,data := .seq items2 n2,slots:=sl2 } →
      (∀ j (h1:j < items.size) (h2:j < items2.size),EqW P w A.in1 s items[j] items2[j] true)→R (.ok (.ret (.bool true))) s →
      wpAny (model P w) A.in1 (Builtin.«list.__eq__.loop» ⟨[.ref l,.ref b,rawInt i,rawInt 2], []⟩) (fun fin s'=>match fin with | .done f=>R (.ok f) s' | .again c'=>c'.quiet=true∧codeAny (model P w) A c' R s') (fun e s'=>R (.error e) s') s:=by
  induction k with
  | zero =>
    intro i hk A R s hl hb he h
    obtain ⟨hp,g,d,tk,os⟩:=s
    wp_walk using wpAny_loadPart' hl,wpAny_loadPart' hb
    have hi1:items[((i:Nat):Int).toNat]? = none:=by simp;omega
    have hi2:items2[((i:Nat):Int).toNat]? = none:=by simp;omega
    rw [hi1,hi2]
    wp_walk using wpAny_loadPart' hl,wpAny_loadPart' hb
    show R (.ok (.ret (.bool (items.size == items2.size)))) _
    rw [hsz]
    simpa using h
  | succ k ih =>
    intro i hk A R s hl hb he h
    obtain ⟨hp,g,d,tk,os⟩:=s
    wp_walk using wpAny_loadPart' hl,wpAny_loadPart' hb
    have hlt:i < items.size:=by omega
    have hlt2:i < items2.size:=by omega
    have hi1:items[((i:Nat):Int).toNat]? = some items[i]:=by simp [hlt]
    have hi2:items2[((i:Nat):Int).toNat]? = some items2[i]:=by simp [hlt2]
    have hc:((i:Int)+1)=((i+1:Nat):Int):=by push_cast;rfl
    rw [hi1,hi2]
    refine wpAny_bind (he i hlt hlt2 _ _ ?_)
    wp_walk
    rw [hc]
    exact ⟨plainId_quiet plain_eq_loop _,codeAny_builtin entry_eq_loop (by
      rw [Around.under_plainId plain_eq_loop _]
      exact ih (i+1) (by omega) A R _ hl hb he h)⟩
theorem eq_listW {l b:Addr} {items items2:Array Value} {E Q:Value→Shared→Prop} (hl:s.heap.IsList l items) (hb:s.heap.IsList b items2) (hsz:items.size=items2.size) (hu:A.units < cLine)
    (he:∀ j (h1:j < items.size) (h2:j < items2.size),EqW P w A.in1 s items[j] items2[j] true) (h:Q (.bool true) s):wpAny (model P w) A (compareOp .Eq (.ref l) (.ref b)) Q E s:=by
  obtain ⟨⟨cls,dd,data,sl⟩,ho,hc,n,hd⟩:=id hl
  obtain ⟨⟨cls2,dd2,data2,sl2⟩,ho2,hc2,n2,hd2⟩:=id hb
  simp only at hc hd hc2 hd2
  subst hc hd hc2 hd2
  have hT:s.TypeIs (.ref l) "list" := ⟨_,ho,rfl⟩
  have hT2:s.TypeIs (.ref b) "list" := ⟨_,ho2,rfl⟩
  refine wpAny_richCompare_same_room (op := .Eq) hT hT2 F.slot_list_eq (wpAny_call (codeAny_call_builtin F.slot_list_eq.plain F.entry_list_eq (F.slot_list_eq.check _ _ _ _ _ _ _ _ hT (F.args_list_eq_2 _ _) ?_))) hu
  obtain ⟨hp,g,d,tk,os⟩:=s
  have f3:=AutoSeq1.sub_list_list
  have hne:¬ (items.size != items2.size)=true:=by simp [hsz]
  wp_walk using wpAny_loadPart' ho,wpAny_loadPart' ho2
  refine ⟨plainId_quiet plain_eq_loop _,codeAny_builtin entry_eq_loop ?_⟩
  rw [Around.under_plainId plain_eq_loop _]
  exact eq_loopW l b items items2 n n2 dd dd2 sl sl2 hsz _ 0 rfl A (wants (fun v s'=>v ≠ .notImplemented∧Q v s') E) _ ho ho2 he ⟨(fun x=>nomatch x),h⟩
theorem valV_mem {kvs:List (Key × V)} (hn:(kvs.map (·.1)).Nodup):∀ kv∈kvs,valV kvs kv.1=some kv.2:=by
  induction kvs with
  | nil=>intro kv h;cases h
  | cons p r ih =>
    intro kv h
    rw [List.map_cons,List.nodup_cons] at hn
    rcases List.mem_cons.mp h with rfl | h
    · exact valV_pos rfl
    · rw [valV_neg (fun e=>hn.1 (by rw [e];exact List.mem_map.mpr ⟨kv,h,rfl⟩))]
      exact ih hn.2 kv h
theorem hits_same {kvs:List (Key × V)} {kb:List (Key × Value)} (r:KV kvs kb) {sub:List (Key × V)} {kc:List (Key × Value)} (q:KV sub kc) (h:∀ kv∈sub,valV kvs kv.1=some kv.2∧∃ n,kv.2 = .int n):PySem.W.KeqHits A s kb kc true:=by
  unfold KV at q
  induction q with
  | nil=>exact .nil
  | @cons p c ps cs e t ih =>
    obtain ⟨k,u⟩:=c
    obtain ⟨e1,e2⟩:=e
    obtain ⟨h1,n,hn⟩:=h p List.mem_cons_self
    have hv:=r.val p.1
    rw [h1,hn] at hv
    rw [hn] at e2
    obtain ⟨tk,e2⟩:=e2
    cases hva:valueAt kb p.1 with
    | none=>rw [hva] at hv;exact (show False from hv).elim
    | some y =>
      rw [hva] at hv
      obtain ⟨tk',hy⟩:=(show RelV (.int n) y from hv)
      have e1':p.1=k:=e1
      have e2':u=Value.int n tk:=e2
      subst e2'
      subst hy
      rw [e1'] at hva
      have z:=PySem.W.KeqHits.hit (A:=A) (s:=s) hva (EqAt.int_int n tk n tk') (ih fun kv hm=>h kv (List.mem_cons_of_mem _ hm))
      rw [beq_self_eq_true,Bool.true_and] at z
      exact z
theorem eqW_dict {H:Hp} {a b:Addr} {kvs:List (Key × V)} (hok:HOk P w H s.heap) (ha:H a=some (.dK kvs)) (hb:H b=some (.dK kvs)) (hi:∀ kv∈kvs,∃ n,kv.2 = .int n) (hu:A.units < cLine):EqW P w A s (.ref a) (.ref b) true:=by
  by_cases hab:a=b
  · subst hab;exact EqW.of_at (EqAt.same _)
  · obtain ⟨z,y,vs,rel,dd⟩:=(show ObjOk P w H s.heap a (.dK kvs) from hok a _ ha)
    obtain ⟨z',y',vs',rel',dd'⟩:=(show ObjOk P w H s.heap b (.dK kvs) from hok b _ hb)
    have hn:(vs.map (·.1)).Nodup:=let ⟨_,_,_,_,_,_,_,_,hn⟩:=dd;hn
    rw [← rel.keys] at hn
    refine EqW.of_refs hab fun E Q hq=>PySem.W.keq_eq y y' dd dd' hu (fun _=>hits_same rel' rel fun kv hm=>⟨valV_mem hn kv hm,hi kv hm⟩) ?_
    have e:vs.length=vs'.length:=by rw [← rel.length, ← rel'.length]
    rw [e,beq_self_eq_true]
    exact hq
end
noncomputable def EqH (H:Hp) (x y:V):Prop:=(∃ d,D.deep d≤140∧Den H d x∧Den H d y)∨∃ a b kvs,x = .ref a∧y = .ref b∧H a=some (.dK kvs)∧H b=some (.dK kvs)∧∀ kv∈kvs,∃ n,kv.2 = .int n
noncomputable def rEqM:R2:=fun x y H Q=>∃ a b xs ys,x = .ref a∧y = .ref b∧H a=some (.lst xs)∧H b=some (.lst ys)∧Paired (EqH H) xs ys∧Q (.bl true) H
theorem paired_at2 {α β : Type} {F : α → β → Prop}:∀ {l₁ : List α} {l₂ : List β} {i:Nat} {a : α} {b : β},Paired F l₁ l₂ → l₁[i]? = some a→l₂[i]? = some b→F a b
  | _,_,i,a,b,.nil,e,_=>by simp at e
  | _,_,0,a,b,.cons h _,e,e'=>by simp at e e';subst e e';exact h
  | _,_,i+1,a,b,.cons _ r,e,e'=>paired_at2 (i:=i) r (by simpa using e) (by simpa using e')
theorem op_eqM {X:Cx} (hu:X.A.units+151 < cLine):OpR X (compareOp .Eq) rEqM:=by
  intro pins s σ H x y v u Q I rx ry h
  obtain ⟨a,b,xs,ys,rfl,rfl,ha,hb,hp,q⟩:=h
  cases rx
  cases ry
  obtain ⟨z1,us,c1,r1,e1⟩:=(show ObjOk X.prog X.w H s.heap a (.lst xs) from I.hok a _ ha)
  obtain ⟨z2,us',c2,r2,e2⟩:=(show ObjOk X.prog X.w H s.heap b (.lst ys) from I.hok b _ hb)
  have l1:=r1.length
  have l2:=r2.length
  have l3:=Paired.length hp
  refine eq_listW (items:=us.toArray) (items2:=us'.toArray) ⟨_,e1,rfl,_,rfl⟩ ⟨_,e2,rfl,_,rfl⟩ (by simp only [List.size_toArray];omega) (by omega) (fun j h1 h2 => ?_) ⟨.bl true,H,I,rfl,q⟩
  have h1':j < us.length:=by simpa using h1
  have h2':j < us'.length:=by simpa using h2
  have f1:=List.getElem?_eq_getElem (l:=xs) (i:=j) (by omega)
  have f2:=List.getElem?_eq_getElem (l:=ys) (i:=j) (by omega)
  have rj:=vals_at r1 f1 (List.getElem?_eq_getElem h1')
  have rj':=vals_at r2 f2 (List.getElem?_eq_getElem h2')
  have ej:=paired_at2 hp f1 f2
  show EqW X.prog X.w X.A.in1 s us[j] us'[j] true
  rcases ej with ⟨d,hd,d1,d2⟩ | ⟨a',b',kvs,ex,ey,g1,g2,hi⟩
  · have q1:=den_raw I.hok d1 rj
    have q2:=den_raw I.hok d2 rj'
    refine EqW.of_at (eqAt_cast (eqAt_D 140 hd q1 q2 (by show X.A.units+1+140 < cLine;omega)) (decide_eq_true rfl))
  · rw [ex] at rj
    rw [ey] at rj'
    have e3:us[j]=Value.ref a':=rj
    have e4:us'[j]=Value.ref b':=rj'
    rw [e3,e4]
    exact eqW_dict I.hok g1 g2 hi (by show X.A.units+1 < cLine;omega)
end L2
namespace L2
open PySem PySem.W PySem.Calls PyProof.Rows
theorem weight_le {ns:List Int} {c:Int}:c∈ns→WData.weight (.int c)≤WData.weightAll (ns.map WData.int):=by
  induction ns with
  | nil=>intro h;cases h
  | cons n ns ih =>
    intro h
    rw [List.map_cons,WData.weightAll]
    rcases List.mem_cons.mp h with rfl | h
    · omega
    · have:=ih h;omega
theorem bits_lay {ns:List Int} (h:WData.layableAll [WData.list (ns.map WData.int)]=true):∀ c∈ns,Builtin.Int.intBits c≤1048576:=fun c hc=>by
  have h1:WData.layable (WData.list (ns.map WData.int))=true:=List.all_eq_true.mp h _ List.mem_cons_self
  have h2:=of_decide_eq_true (Bool.and_eq_true_iff.mp h1).2
  rw [WData.weight] at h2
  have h3:=weight_le hc
  rw [WData.weight] at h3
  show (if c == 0 then 0 else c.natAbs.log2+1)≤1048576
  have:(2:Nat) ^ 20=1048576:=by decide
  omega
theorem walk_ofB {l:OpenLaw} {n k:Nat} {q:Program} {loose:List Str} {XP:(Str→Option Value)→Heap→Prop} {YP:World→Heap→Prop} {d:DefRec} {K:Params→Frag} {CX:World→CXT} {sp:World→Sp} {x:Str}
    (hn:l.most=some n) (hn2:n≤sizeLine) (hdf:d.params.defaults = []) (hr:Room k callerA)
    (hY:∀ (w:World) (h:Heap),YP w h→(K w.params).In h)
    (F:∀ (w:World) (mg:Str→Option Value) (fa:Addr) (h:Heap),(K w.params).In h→h.Ns mainGlobals mg→mg d.name=some (.ref fa) →
      ∃ fd:FuncData,(∀ (s:Shared) (u:Value),BindsTo s fd ⟨[u], []⟩ [(x,u)])∧∀ base:Heap,(K w.params).In base→base.Ns mainGlobals mg→FnOk l.prog w (K w.params) mg base (CX w) k fa fd [x] (sp w))
    (hsp:∀ (w:World) (H:Hp) (a:Addr) (ns:List Int),ns.length≤n→(∀ c∈ns,Builtin.Int.intBits c≤1048576)→SqL (K w.params) H a (ns.map V.int)→sp w [.ref a] H (fun v _=>v = .bl true) fun _ _ _=>False)
    (hCX:∀ (w:World) (H:Hp) (s:Shared) (e:Value) (s':Shared),CX w [] H s (fun _ _ _=>False) e s'→False) :
    WalkO q loose XP YP l.row.toRowW d [] (fun f vs=>PySem.call f vs):=by
  intro w s0 s1 mg mb G Y fa o pm cd doc dV kV ho hd hcd hD hmg hg args vals as hpre hlay hrd hwl hlo
  have e1:=Dflts.none hD hdf
  have e2:=Dflts.noKw hD
  subst e1 e2
  obtain ⟨a,vs,ns,ev,ea,hobj,hints,hlen⟩:=Att.script_of hn hpre hwl
  subst ev ea
  have KX:=hY w _ Y
  obtain ⟨fd,hb,hF⟩:=F w mg fa _ KX G.T.g hmg
  refine enter_call (codeAny_mono (law_call KX G.T.g G.T.b G.T.builtins G.T.nolimit hg hobj hints (Nat.le_trans hlen hn2) hr hF hb (fun H _ hS=>hsp w H a ns hlen (bits_lay hlay) hS) fun H e s'=>hCX w H s1 e s') fun r s' hq => ?_)
  obtain ⟨er,h2,h3,h4⟩:=hq
  subst er
  exact ⟨.inl ⟨.bool true,.bool true, [],rfl,fun _=>rfl,.bool true,Att.post_true l _,fun _=>⟨List.Pairwise.nil,fun _ hm=>(nomatch hm)⟩⟩,h2,h3,h4⟩
end L2
namespace Sw
open PySem L2
noncomputable abbrev DK:=List (Key × V)
noncomputable def lk (l:Nat):Key:=Sum.inl (l:Int)
theorem lk_inj {a b:Nat} (h:lk a=lk b):a=b:=by have h:=Sum.inl.inj h;omega
noncomputable def keyF:Tm→Str
  | .num _ => "#"
  | .name _ => "@"
  | .of x _=>x
noncomputable def costF (cs:DK) (t:Tm):Int:=vI ((valV cs (Sum.inr (keyF t))).getD (.int 1))
noncomputable def armsF:Tm→List Nat
  | .of _ as=>as
  | _ => []
noncomputable def CostOk (cs:DK):Prop:=(∀ key v,valV cs key=some v→∃ n:Int,v = .int n∧1≤n)
theorem cost_pos {cs:DK} (h:CostOk cs) (t:Tm):1≤costF cs t:=by
  unfold costF
  cases e:valV cs (Sum.inr (keyF t)) with
  | none=>exact Int.le_refl _
  | some v =>
    obtain ⟨n,rfl,hn⟩:=h _ _ e
    exact hn
theorem sum_nn {α : Type} {f : α → Int}:∀ {l:List α},(∀ a∈l,0≤f a)→0≤(l.map f).sum
  | [],_=>Int.le_refl _
  | a :: l,h=>by
    rw [List.map_cons,List.sum_cons]
    have h1:=h a List.mem_cons_self
    have h2:=sum_nn (l:=l) fun b hb=>h b (List.mem_cons_of_mem _ hb)
    omega
end Sw
namespace Sw
open PySem L2
theorem deeps_of {ds:List D} {n:Nat} (h:∀ d∈ds,d.deep≤n):D.deeps ds≤n:=by
  induction ds with
  | nil=>rw [D.deeps];exact Nat.zero_le _
  | cons d ds ih=>rw [D.deeps];have:=h d List.mem_cons_self;have:=ih fun e he=>h e (List.mem_cons_of_mem _ he);omega
noncomputable abbrev Rw:=Nat × Nat
noncomputable def mtF (ts:List Tm) (ls:List Nat) (k:Nat):Tm:=mk ls (ts.getD k (.num 0))
theorem take_snoc {α : Type} {xs:List α} {i:Nat} {x : α} (h:xs[i]? = some x):xs.take (i+1)=xs.take i ++ [x]:=by rw [List.take_add_one,h];rfl
theorem mtF_at {ts:List Tm} {ls:List Nat} {k:Nat} {t:Tm} (h:ts[k]? = some t):mtF ts ls k=mk ls t:=by unfold mtF;rw [List.getD_eq_getElem?_getD,h];rfl
theorem arms_mk (ls:List Nat) (t:Tm):armsF (mk ls t)=(armsF t).map fun a=>ls.getD a 0:=by
  cases t with
  | num n=>rfl
  | name n=>rfl
  | of x as=>rfl
structure ChG (ts:List Tm) (ls:List Nat) (rs:List Rw):Prop where
  num:∀ r∈rs,r.2 < ts.length
  arms:∀ (i:Nat) (r:Rw),rs[i]? = some r→∀ b∈armsF (mtF ts ls r.2),b∈(rs.take i).map (·.1)
noncomputable def PairAt (H:Hp) (v:V) (r:Rw):Prop := ∃ b,v = .ref b∧H b=some (.tup [nV r.1,nV r.2])
theorem PairAt.keep {H H':Hp} {v:V} {r:Rw} (ht:∀ b ys,H b=some (.tup ys)→H' b=some (.tup ys)) (h:PairAt H v r):PairAt H' v r:=by obtain ⟨a,e,h⟩:=h;exact ⟨a,e,ht _ _ h⟩
theorem sub_len:∀ {W R:List Nat},W.Nodup→(∀ x∈W,x∈R)→W.length≤R.length
  | [],R,_,_=>Nat.zero_le _
  | x :: W,R,h,s=>by
    rw [List.nodup_cons] at h
    have hx:=s x List.mem_cons_self
    have ih:=sub_len (W:=W) (R:=R.erase x) h.2 fun y hy=>(List.mem_erase_of_ne (fun e=>h.1 (by rw [← e];exact hy))).mpr (s y (List.mem_cons_of_mem _ hy))
    have e:=List.length_erase_of_mem hx
    have:=List.length_pos_of_mem hx
    show W.length+1≤R.length
    omega
structure PrG (ts:List Tm) (ls:List Nat):Prop where
  arms:Arms ts
  len:ls.length=ts.length
  few:ts.length≤500
  short:∀ (i:Nat) x as,ts[i]? = some (.of x as)→as.length≤1000
  good:GoodL ls
theorem PrG.lt {ts:List Tm} {ls:List Nat} (h:PrG ts ls):∀ k,k < ts.length→ls.getD k 0 < ts.length:=fun k hk=>by
  have:=(h.good k _ (getD_at (by rw [h.len];exact hk))).1
  omega
noncomputable def ArmG (ls:List Nat) (t:Tm):Prop:=(armsF t).length≤1000∧∀ a∈armsF t,a < ls.length
theorem PrG.armIn {ts:List Tm} {ls:List Nat} (h:PrG ts ls) {k:Nat} {t:Tm} (ht:ts[k]? = some t):ArmG ls t:=by
  have hk:=(List.getElem?_eq_some_iff.mp ht).1
  cases t with
  | num n=>exact ⟨Nat.zero_le _,fun a ha=>nomatch ha⟩
  | name n=>exact ⟨Nat.zero_le _,fun a ha=>nomatch ha⟩
  | of x as=>exact ⟨h.short k x as ht,fun a ha=>by have:=h.arms k x as ht a ha;rw [h.len];omega⟩
theorem dget_lk {H:Hp} {G:Addr} {kvs:DK} {l:Nat} {v:V} (hG:H G=some (.dK kvs)) (h:valV kvs (lk l)=some v):DGet H G (nV l) (some v):=by
  have:=DGet.k (k:=lk l) hG
  rw [h] at this
  exact this
theorem nodup_snoc {W:List Nat} {x:Nat} (h:W.Nodup) (hn:x ∉ W):(W ++ [x]).Nodup:=by
  rw [List.nodup_append]
  refine ⟨h,List.nodup_cons.mpr ⟨(fun z=>nomatch z),List.nodup_nil⟩,fun a ha b hb e => ?_⟩
  rw [List.mem_singleton.mp hb] at e
  exact hn (e ▸ ha)
structure RwI (ts:List Tm) (ls:List Nat) (W:List Nat) (rs:List Rw):Prop where
  ch:ChG ts ls rs
  nd:(rs.map (·.1)).Nodup
  sub:∀ x∈rs.map (·.1),x∈W
theorem RwI.nil {ts:List Tm} {ls:List Nat} {W:List Nat}:RwI ts ls W []:=⟨⟨(fun r h=>nomatch h),fun i r h=>by simp at h⟩,List.nodup_nil,(fun x h=>nomatch h)⟩
theorem RwI.len {ts:List Tm} {ls:List Nat} {W:List Nat} {rs:List Rw} (h:RwI ts ls W rs):rs.length≤W.length:=by
  have:=sub_len h.nd h.sub
  rwa [List.length_map] at this
theorem RwI.add {ts:List Tm} {ls:List Nat} {W:List Nat} {rs:List Rw} (h:RwI ts ls W rs) {m j:Nat} {t:Tm} (hm:m∈W) (hn:m ∉ rs.map (·.1)) (ht:ts[j]? = some t) (ha:∀ b∈(armsF t).map (fun a=>ls.getD a 0),b∈rs.map (·.1)):RwI ts ls W (rs ++ [(m,j)]):=by
  refine ⟨⟨fun r hr => ?_,fun i r hr b hb => ?_⟩,?_,fun x hx => ?_⟩
  · rcases List.mem_append.mp hr with z | z
    · exact h.ch.num r z
    · rw [List.mem_singleton.mp z];exact (List.getElem?_eq_some_iff.mp ht).1
  · by_cases hi:i < rs.length
    · rw [List.getElem?_append_left hi] at hr
      rw [List.take_append_of_le_length (by omega)]
      exact h.ch.arms i r hr b hb
    · have hl:=(List.getElem?_eq_some_iff.mp hr).1
      rw [List.length_append,List.length_singleton] at hl
      have e:i=rs.length:=by omega
      subst e
      have er:(m,j)=r:=by simpa using hr
      subst er
      rw [List.take_append_of_le_length (Nat.le_refl _),List.take_length]
      dsimp only at hb
      rw [mtF_at ht,arms_mk] at hb
      exact ha b hb
  · rw [List.map_append];exact nodup_snoc h.nd hn
  · rw [List.map_append] at hx
    rcases List.mem_append.mp hx with z | z
    · exact h.sub x z
    · rw [List.mem_singleton.mp z];exact hm
noncomputable def pkA (ls:List Nat) (ts:List Tm) (pk:DK) (w:Nat):List Nat:=match valV pk (lk w) with
  | some v=>(armsF (ts.getD (vI v).toNat (.num 0))).map fun a=>ls.getD a 0
  | none => []
theorem pkA_at {ls:List Nat} {ts:List Tm} {pk:DK} {w j:Nat} {t:Tm} (h:valV pk (lk w)=some (nV j)) (ht:ts[j]? = some t):pkA ls ts pk w=(armsF t).map fun a=>ls.getD a 0:=by
  unfold pkA
  rw [h]
  show (armsF (ts.getD ((j:Nat):Int).toNat (.num 0))).map (fun a=>ls.getD a 0)=_
  rw [Int.toNat_natCast,List.getD_eq_getElem?_getD,ht]
  rfl
end Sw
namespace Sw
open PySem L2
noncomputable def newAt (ms:List Tm) (k:Nat):Bool:=match ms[k]? with | some m => !decide (tmD m∈(ms.take k).map tmD) | none=>false
noncomputable def firstsF (ms:List Tm) (n:Nat):List Nat:=(List.range n).filter (newAt ms)
theorem firsts_succ (ms:List Tm) (n:Nat):firstsF ms (n+1)=firstsF ms n ++ (if newAt ms n then [n] else []):=by
  unfold firstsF
  rw [List.range_succ,List.filter_append]
  congr 1
  cases h:newAt ms n <;> simp [h]
theorem firsts_len (ms:List Tm) (n:Nat):(firstsF ms n).length≤n:=by
  have:=List.length_filter_le (newAt ms) (List.range n)
  rwa [List.length_range] at this
theorem firsts_lt {ms:List Tm} {n k:Nat} (h:k∈firstsF ms n):k < n:=List.mem_range.mp (List.mem_filter.mp h).1
theorem new_false {ms:List Tm} {n:Nat} {m:Tm} (h:ms[n]? = some m):newAt ms n=false↔∃ i,i < n∧ms[i]? = some m:=by
  unfold newAt
  rw [h]
  show (!decide (tmD m∈(ms.take n).map tmD))=false↔_
  rw [Bool.not_eq_false',decide_eq_true_iff]
  constructor
  · intro z
    obtain ⟨m',hm',e⟩:=List.mem_map.mp z
    have e:=tmD_inj e
    subst e
    obtain ⟨i,hi⟩:=List.mem_iff_getElem?.mp hm'
    rw [List.getElem?_take] at hi
    split at hi
    · exact ⟨i,by assumption,hi⟩
    · cases hi
  · rintro ⟨i,hi,e⟩
    refine List.mem_map.mpr ⟨m,List.mem_iff_getElem?.mpr ⟨i,?_⟩,rfl⟩
    rw [List.getElem?_take,if_pos hi];exact e
noncomputable abbrev Row:=Nat × List Nat
noncomputable def lookR (ps:List Row) (l:Nat):Option (List Nat):=(ps.find? fun p=>decide (p.1=l)).map (·.2)
noncomputable def putR (ps:List Row) (l:Nat) (zs:List Nat):List Row:=if (ps.any fun p=>decide (p.1=l))=true then ps.map (fun p=>if p.1=l then (p.1,zs) else p) else ps ++ [(l,zs)]
noncomputable def addR (ps:List Row) (l k:Nat):List Row:=putR ps l ((lookR ps l).getD [] ++ [k])
noncomputable def rowsF (ls fs:List Nat):List Row:=fs.foldl (fun ps k=>addR ps (ls.getD k 0) k) []
theorem rows_snoc (ls fs:List Nat) (k:Nat):rowsF ls (fs ++ [k])=addR (rowsF ls fs) (ls.getD k 0) k:=by unfold rowsF;rw [List.foldl_append];rfl
theorem putR_keys (ps:List Row) (l:Nat) (zs:List Nat) (h:(ps.map (·.1)).Nodup):((putR ps l zs).map (·.1)).Nodup:=by
  unfold putR
  split
  · have e:(ps.map (fun p=>if p.1=l then (p.1,zs) else p)).map (·.1)=ps.map (·.1):=by
      rw [List.map_map]
      refine List.map_congr_left fun p _ => ?_
      show (if p.1=l then (p.1,zs) else p).1=p.1
      split <;> rfl
    rw [e];exact h
  · rename_i q
    rw [List.map_append,List.nodup_append]
    refine ⟨h,by simp,?_⟩
    intro a ha b hb e
    simp only [List.map_cons,List.map_nil,List.mem_singleton] at hb
    obtain ⟨p,hp,rfl⟩:=List.mem_map.mp ha
    exact q (List.any_eq_true.mpr ⟨p,hp,decide_eq_true (e.trans hb)⟩)
theorem rows_keys (ls:List Nat):∀ fs:List Nat,((rowsF ls fs).map (·.1)).Nodup:=by
  have key:∀ (fs:List Nat) (ps:List Row),(ps.map (·.1)).Nodup→((fs.foldl (fun ps k=>addR ps (ls.getD k 0) k) ps).map (·.1)).Nodup:=by
    intro fs
    induction fs with
    | nil=>intro ps h;exact h
    | cons k fs ih=>intro ps h;exact ih _ (putR_keys _ _ _ h)
  exact fun fs=>key fs [] List.nodup_nil
theorem putR_len (ps:List Row) (l:Nat) (zs:List Nat):(putR ps l zs).length≤ps.length+1:=by
  unfold putR
  split
  · rw [List.length_map];omega
  · rw [List.length_append];exact Nat.le_refl _
theorem rows_len (ls:List Nat):∀ fs:List Nat,(rowsF ls fs).length≤fs.length:=by
  have key:∀ (fs:List Nat) (ps:List Row),(fs.foldl (fun ps k=>addR ps (ls.getD k 0) k) ps).length≤ps.length+fs.length:=by
    intro fs
    induction fs with
    | nil=>intro ps;exact Nat.le_refl _
    | cons k fs ih =>
      intro ps
      have h1:=ih (addR ps (ls.getD k 0) k)
      have h2:(addR ps (ls.getD k 0) k).length≤ps.length+1:=putR_len _ _ _
      rw [List.length_cons]
      exact Nat.le_trans h1 (by omega)
  intro fs
  have:=key fs []
  rwa [List.length_nil,Nat.zero_add] at this
theorem putR_small {ps:List Row} {l:Nat} {zs:List Nat} {n:Nat} (h:∀ p∈ps,p.2.length≤n) (hz:zs.length≤n):∀ p∈putR ps l zs,p.2.length≤n:=by
  intro p hp
  unfold putR at hp
  split at hp
  · obtain ⟨q,hq,rfl⟩:=List.mem_map.mp hp
    split
    · exact hz
    · exact h q hq
  · rcases List.mem_append.mp hp with hp | hp
    · exact h p hp
    · rw [List.mem_singleton.mp hp];exact hz
theorem lookR_mem {ps:List Row} {l:Nat} {zs:List Nat} (h:lookR ps l=some zs):(l,zs)∈ps:=by
  unfold lookR at h
  obtain ⟨p,hp,rfl⟩:=Option.map_eq_some_iff.mp h
  have e0:(fun p:Row=>decide (p.1=l)) p=true:=List.find?_some (p:=fun p:Row=>decide (p.1=l)) hp
  have e:=of_decide_eq_true e0
  have:=List.mem_of_find?_eq_some hp
  rw [← e];exact this
theorem addR_small {ps:List Row} {l k n:Nat} (h:∀ p∈ps,p.2.length≤n):∀ p∈addR ps l k,p.2.length≤n+1:=by
  refine putR_small (fun p hp=>Nat.le_succ_of_le (h p hp)) ?_
  rw [List.length_append]
  cases e:lookR ps l with
  | none=>show 0+1≤n+1;omega
  | some zs=>have:=h _ (lookR_mem e);show zs.length+1≤n+1;exact Nat.succ_le_succ this
theorem rows_small (ls:List Nat):∀ fs:List Nat,∀ p∈rowsF ls fs,p.2.length≤fs.length:=by
  have key:∀ (fs:List Nat) (ps:List Row) (n:Nat),(∀ p∈ps,p.2.length≤n)→∀ p∈fs.foldl (fun ps k=>addR ps (ls.getD k 0) k) ps,p.2.length≤n+fs.length:=by
    intro fs
    induction fs with
    | nil=>intro ps n h;exact h
    | cons k fs ih =>
      intro ps n h p hp
      have:=ih (addR ps (ls.getD k 0) k) (n+1) (addR_small h) p hp
      rw [List.length_cons];omega
  intro fs p hp
  have:=key fs [] 0 (fun p hp=>by cases hp) p hp
  omega
noncomputable def RowAt (H:Hp) (kv:Key × V) (p:Row):Prop:=kv.1 = .inl ((p.1:Nat):Int)∧∃ l,kv.2 = .ref l∧H l=some (.lst (p.2.map nV))
noncomputable abbrev Rws (H:Hp):List (Key × V)→List Row→Prop:=Paired (RowAt H)
theorem key_eq {a b:Nat}:(Sum.inl ((a:Nat):Int):Key)=Sum.inl ((b:Nat):Int)↔a=b:=by
  constructor
  · intro h;have:=Sum.inl.inj h;omega
  · intro h;rw [h]
theorem Rws.look {H:Hp} {kvs:List (Key × V)} {ps:List Row} (r:Rws H kvs ps) (l:Nat):(valV kvs (.inl (l:Int))=none∧lookR ps l=none)∨∃ a zs,valV kvs (.inl (l:Int))=some (.ref a)∧lookR ps l=some zs∧H a=some (.lst (zs.map nV)):=by
  induction r with
  | nil=>exact .inl ⟨rfl,rfl⟩
  | @cons kv p kvs ps h t ih =>
    obtain ⟨h1,a,h2,h3⟩:=h
    by_cases e:p.1=l
    · refine .inr ⟨a,p.2,?_,?_,h3⟩
      · rw [valV_pos (by rw [h1,e]),h2]
      · unfold lookR;rw [List.find?_cons,decide_eq_true e];rfl
    · have n1:¬ kv.1 = .inl (l:Int):=fun z=>e (key_eq.mp (h1.symm.trans z))
      have n2:lookR (p :: ps) l=lookR ps l:=by unfold lookR;rw [List.find?_cons,decide_eq_false e]
      rw [valV_neg n1,n2]
      exact ih
theorem Rws.any {H:Hp} {kvs:List (Key × V)} {ps:List Row} (r:Rws H kvs ps) (l:Nat):(kvs.any fun kv=>decide (kv.1 = .inl (l:Int)))=ps.any fun p=>decide (p.1=l):=by
  induction r with
  | nil=>rfl
  | @cons kv p kvs ps h t ih =>
    rw [List.any_cons,List.any_cons,ih]
    congr 1
    rw [h.1]
    exact decide_eq_decide.mpr key_eq
theorem Rws.keep {H H':Hp} {kvs:List (Key × V)} {ps:List Row} (r:Rws H kvs ps) (h:∀ l xs,(∃ kv∈kvs,kv.2 = .ref l)→H l=some (.lst xs)→H' l=some (.lst xs)):Rws H' kvs ps:=by
  induction r with
  | nil=>exact .nil
  | @cons kv p kvs ps q t ih =>
    refine .cons ?_ (ih fun l xs ⟨kv,hm,e⟩=>h l xs ⟨kv,List.mem_cons_of_mem _ hm,e⟩)
    obtain ⟨q1,a,q2,q3⟩:=q
    exact ⟨q1,a,q2,h a _ ⟨kv,List.mem_cons_self,q2⟩ q3⟩
theorem Rws.same {H H':Hp} {kvs:List (Key × V)} {ps:List Row} (r:Rws H kvs ps) (sm:Same H H'):Rws H' kvs ps:=r.keep fun l xs _ e=>sm _ _ e
theorem Rws.grow {H:Hp} {kvs:List (Key × V)} {ps:List Row} {l a:Nat} {zs:List Nat} (r:Rws H kvs ps) (nd:(kvs.map (·.2)).Nodup) (nk:(ps.map (·.1)).Nodup) (hv:valV kvs (.inl (l:Int))=some (.ref a)) :
    Rws (upd H a (.lst (zs.map nV))) kvs (putR ps l zs):=by
  have hany:(ps.any fun p=>decide (p.1=l))=true:=by rw [← r.any l,valV_any,hv];rfl
  unfold putR
  rw [if_pos hany]
  clear hany
  induction r with
  | nil=>exact .nil
  | @cons kv p kvs ps h t ih =>
    rw [List.map_cons] at nd nk
    rw [List.nodup_cons] at nd nk
    rw [List.map_cons]
    by_cases e:p.1=l
    · have ek:kv.1 = .inl (l:Int):=by rw [h.1,e]
      rw [valV_pos ek] at hv
      have e2:kv.2 = .ref a:=Option.some.inj hv
      rw [if_pos e]
      refine .cons ⟨h.1,a,e2,upd_same⟩ ?_
      have em:ps.map (fun p=>if p.1=l then (p.1,zs) else p)=ps:=by
        rw [show ps=ps.map id from (List.map_id ps).symm,List.map_map]
        refine List.map_congr_left fun q hq => ?_
        show (if q.1=l then (q.1,zs) else q)=q
        rw [if_neg (fun z=>nk.1 (List.mem_map.mpr ⟨q,hq,by rw [z,e]⟩))]
      rw [em]
      refine Rws.keep t fun b xs ⟨kv',hm,e3⟩ eb => ?_
      rw [upd_ne (fun z=>nd.1 (List.mem_map.mpr ⟨kv',hm,by rw [e3,z,e2]⟩))]
      exact eb
    · have ek:¬ kv.1 = .inl (l:Int):=fun z=>e (key_eq.mp (h.1.symm.trans z))
      rw [valV_neg ek] at hv
      rw [if_neg e]
      refine .cons ?_ (ih nd.2 nk.2 hv)
      obtain ⟨h1,b,h2,h3⟩:=h
      refine ⟨h1,b,h2,?_⟩
      have hm:(.ref a:V)∈kvs.map (·.2):=by
        obtain ⟨kv',hf,e4⟩:=Option.map_eq_some_iff.mp hv
        exact List.mem_map.mpr ⟨kv',List.mem_of_find?_eq_some hf,e4⟩
      rw [upd_ne (fun z=>nd.1 (by rw [h2,z];exact hm))]
      exact h3
noncomputable def LikeL (ts:List Tm) (ls:List Nat):Prop := ∀ (i j:Nat) (t u:Tm),ts[i]? = some t→ts[j]? = some u→mk ls t=mk ls u→ls[i]? = ls[j]?
theorem like_of {ts:List Tm} {es:List (Nat × Nat)} {ls:List Nat} (ha:Arms ts) (h:Closed ts es ls):LikeL ts ls:=fun i j t u hi hj e=>by
  obtain ⟨c1,c2,c3,c4⟩:=h
  have li:=(List.getElem?_eq_some_iff.mp hi).1
  have lj:=(List.getElem?_eq_some_iff.mp hj).1
  have b1:∀ x as,t = .of x as→∀ a∈as,a < ls.length:=fun x as q a hm=>by subst q;have:=ha i x as hi a hm;omega
  have b2:∀ x as,u = .of x as→∀ a∈as,a < ls.length:=fun x as q a hm=>by subst q;have:=ha j x as hj a hm;omega
  refine c4 i j (by omega) (by omega) (stands_eqv hi hj (stands_mk c3 b1) ?_)
  rw [e];exact stands_mk c3 b2
theorem ms_at {ts:List Tm} {ls:List Nat} {i:Nat} {t:Tm} (h:ts[i]? = some t):(ts.map (mk ls))[i]? = some (mk ls t):=by rw [List.getElem?_map,h];rfl
theorem DN.updO {P:Program} {w:World} {H:Hp} {S a:Addr} {kvs:List (NK × V)} {u o:HO} (d:DN P w H S kvs) (ha:H a=some u) (h1:∀ φ,u ≠ .ext φ) (h2:∀ ys,u ≠ .tup ys):DN P w (upd H a o) S kvs :=
  d.keep (fun φ e=>by rw [upd_ne (fun z=>by rw [z,ha] at e;exact h1 φ (Option.some.inj e))];exact e) (fun b ys e=>by rw [upd_ne (fun z=>by rw [z,ha] at e;exact h2 ys (Option.some.inj e))];exact e)
theorem Rws.updO {H:Hp} {a:Addr} {kvs:List (Key × V)} {ps:List Row} {u o:HO} (r:Rws H kvs ps) (ha:H a=some u) (h1:∀ xs,u ≠ .lst xs):Rws (upd H a o) kvs ps :=
  r.keep fun l xs _ e=>by rw [upd_ne (fun z=>by rw [z,ha] at e;exact h1 xs (Option.some.inj e))];exact e
noncomputable def SeenOk (ts:List Tm) (ls:List Nat) (n:Nat) (kvs:List (NK × V)):Prop :=
  (∀ (i:Nat) t,i < n→ts[i]? = some t→valV kvs (tmNK (mk ls t))≠none)∧(∀ k v,valV kvs k=some v→∃ i t,i < n∧ts[i]? = some t∧k=tmNK (mk ls t))∧kvs.length≤n
theorem seen_nil (ts:List Tm) (ls:List Nat):SeenOk ts ls 0 []:=⟨fun i t hi=>absurd hi (Nat.not_lt_zero _),(fun k v e=>by rw [valV_nil] at e;cases e),Nat.le_refl _⟩
theorem seen_iff {ts:List Tm} {ls:List Nat} {n:Nat} {kvs:List (NK × V)} {t:Tm} (h:SeenOk ts ls n kvs) (ht:ts[n]? = some t) :
    (valV kvs (tmNK (mk ls t))=none∧newAt (ts.map (mk ls)) n=true)∨((valV kvs (tmNK (mk ls t))).isSome=true∧newAt (ts.map (mk ls)) n=false):=by
  obtain ⟨h1,h2,_⟩:=h
  cases hv:valV kvs (tmNK (mk ls t)) with
  | some v =>
    obtain ⟨i,u,hi,hu,ek⟩:=h2 _ _ hv
    exact .inr ⟨rfl,(new_false (ms_at ht)).mpr ⟨i,hi,by rw [ms_at hu,tmNK_inj ek]⟩⟩
  | none =>
    refine .inl ⟨rfl,?_⟩
    cases e:newAt (ts.map (mk ls)) n with
    | true=>rfl
    | false =>
      obtain ⟨i,hi,q⟩:=(new_false (ms_at ht)).mp e
      rw [List.getElem?_map] at q
      cases e2:ts[i]? with
      | none=>rw [e2] at q;cases q
      | some u =>
        rw [e2] at q
        have q2:mk ls u=mk ls t:=Option.some.inj q
        have:=h1 i u hi e2
        rw [q2] at this
        exact absurd hv this
theorem seen_put {ts:List Tm} {ls:List Nat} {n:Nat} {kvs:List (NK × V)} {t:Tm} (y:V) (h:SeenOk ts ls n kvs) (ht:ts[n]? = some t):SeenOk ts ls (n+1) (putK kvs (tmNK (mk ls t)) y):=by
  obtain ⟨h1,h2,h3⟩:=h
  refine ⟨fun i u hi hu => ?_,fun k v hv => ?_,?_⟩
  · rw [valV_put]
    split
    · exact fun z=>nomatch z
    · rename_i e
      refine h1 i u ?_ hu
      rcases Nat.lt_succ_iff_lt_or_eq.mp hi with q | q
      · exact q
      · subst q;rw [ht] at hu;cases hu;exact absurd rfl e
  · rw [valV_put] at hv
    by_cases e:k=tmNK (mk ls t)
    · exact ⟨n,t,Nat.lt_succ_self n,ht,e⟩
    · rw [if_neg e] at hv
      obtain ⟨i,u,hi,hu,ek⟩:=h2 k v hv
      exact ⟨i,u,Nat.lt_succ_of_lt hi,hu,ek⟩
  · have:=length_putK kvs (tmNK (mk ls t)) y
    omega
theorem seen_skip {ts:List Tm} {ls:List Nat} {n:Nat} {kvs:List (NK × V)} {t:Tm} (h:SeenOk ts ls n kvs) (ht:ts[n]? = some t) (hs:(valV kvs (tmNK (mk ls t))).isSome=true):SeenOk ts ls (n+1) kvs:=by
  obtain ⟨h1,h2,h3⟩:=h
  refine ⟨fun i u hi hu => ?_,fun k v hv => ?_,by omega⟩
  · rcases Nat.lt_succ_iff_lt_or_eq.mp hi with q | q
    · exact h1 i u q hu
    · subst q;rw [ht] at hu;cases hu;intro z;rw [z] at hs;cases hs
  · obtain ⟨i,u,hi,hu,ek⟩:=h2 k v hv
    exact ⟨i,u,Nat.lt_succ_of_lt hi,hu,ek⟩
noncomputable def Own (H:Hp) (kvs:List (Key × V)):Prop:=(kvs.map (·.2)).Nodup∧∀ kv∈kvs,∃ l,kv.2 = .ref l∧H l=none
theorem Own.fresh {H:Hp} {kvs:List (Key × V)} (h:Own H kvs) {a:Addr} (hv:(.ref a:V)∈kvs.map (·.2)):H a=none:=by
  obtain ⟨kv,hm,e⟩:=List.mem_map.mp hv
  obtain ⟨l,e2,hl⟩:=h.2 kv hm
  rw [e] at e2
  cases e2
  exact hl
theorem val_mem {κ : Type} [DecidableEq κ] {kvs:List (κ × V)} {k : κ} {v:V} (h:valV kvs k=some v):v∈kvs.map (·.2):=by
  obtain ⟨kv',hf,e4⟩:=Option.map_eq_some_iff.mp h
  exact List.mem_map.mpr ⟨kv',List.mem_of_find?_eq_some hf,e4⟩
theorem Own.snoc {H H1:Hp} {kvs:List (Key × V)} {ps:List Row} {N:Addr} {k:Key} (h:Own H kvs) (r:Rws H1 kvs ps) (hN:H1 N=none) (hN0:H N=none):Own H (kvs ++ [(k,.ref N)]):=by
  refine ⟨?_,fun kv hm => ?_⟩
  · rw [List.map_append,List.nodup_append]
    refine ⟨h.1,by simp,?_⟩
    intro x hx y hy e
    simp only [List.map_cons,List.map_nil,List.mem_singleton] at hy
    subst hy
    subst e
    have:∀ {kvs:List (Key × V)} {ps:List Row},Rws H1 kvs ps→(.ref N:V)∈kvs.map (·.2)→False:=by
      intro kvs ps r
      induction r with
      | nil=>intro hm;cases hm
      | @cons kv p kvs ps q t ih =>
        intro hm
        rw [List.map_cons] at hm
        rcases List.mem_cons.mp hm with e | hm
        · obtain ⟨_,l,e2,hl⟩:=q
          rw [← e] at e2
          cases e2
          rw [hN] at hl
          cases hl
        · exact ih hm
    exact this r hx
  · rcases List.mem_append.mp hm with hm | hm
    · exact h.2 kv hm
    · rw [List.mem_singleton.mp hm];exact ⟨N,rfl,hN0⟩
end Sw
namespace L2
open PySem PySem.Spec PySem.W PyProof.Rows PySem.Calls


section
variable {X:Cx} {c P:Addr} {params:Arguments} {body:Expr} {scope:Scope} {pos:Pos} {clos:List (Str × Addr)}
end
end L2
namespace L2
open PySem PySem.Spec PySem.W PyProof.Rows PySem.Calls
section
variable {X:Cx}

end
end L2
namespace L2
open PySem PySem.Spec PySem.W PyProof.Rows PySem.Calls
end L2
namespace L2
open PySem
end L2
namespace L2
open PySem PySem.Spec PyProof.Rows
theorem vals_by:∀ {xs:List V} {us:List Value},xs.length=us.length→(∀ (j:Nat) x u,xs[j]? = some x→us[j]? = some u→RelV x u)→Vals xs us
  | [], [],_,_ => .nil
  | [],_ :: _,h,_=>by cases h
  | _ :: _, [],h,_=>by cases h
  | x :: xs,u :: us,h,f => .cons (f 0 x u rfl rfl) (vals_by (by simpa using h) fun j a b ha hb=>f (j+1) a b (by simpa using ha) (by simpa using hb))
section
variable {X:Cx}
inductive J_call_list_dict (xs:List V) (H:Hp) (Q:VK):Prop
  | mk:∀ p kvs,(xs = [.ref p])→(Rd H p (.dK kvs))→(∀ l,H l=none→Q (.ref l) (upd H l (.lst (kvs.map fun kv=>kV kv.1))))→J_call_list_dict xs H Q
theorem call_list_dict (hc:X.calm=true):CallR X (.type "list") (fun xs H Q=>J_call_list_dict xs H Q):=by
  intro pins s σ H xs us Q I r h
  obtain ⟨p,kvs,rfl,hd,q⟩:=h
  obtain ⟨u,rfl,ru⟩:=vals1 r
  cases ru
  obtain ⟨z,lo,vs,rel,dd⟩:=dk_rd I.hok hd
  obtain ⟨ep,hat⟩:=dd.dictAt
  have hl:=rel.length
  have hk:=rel.keys
  refine PySem.W.kdl_call (PySem.W.kdl_dict (knd:=mixKind X.prog X.w) (kvs:=vs) (ep:=ep) lo) (I.ok.hd hc) hat (by rw [← hl];exact z) fun h' tk acc' c' kp hS hacc => ?_
  refine ⟨.ref s.heap.objs.size,_,I.laid kp (Nat.le_refl _) (show ObjOk X.prog X.w _ h' _ (.lst (kvs.map fun kv=>kV kv.1)) from ⟨by rw [List.length_map];exact z,acc'.toList,c',?_,by simpa using hS⟩),rfl,q _ (I.hok.fresh (Nat.le_refl _))⟩
  refine vals_by (by rw [List.length_map,hl,Array.length_toList];exact hacc.1.symm) fun j x v hx hv => ?_
  obtain ⟨k,y,hkv,his⟩:=hacc.2 j v (by rw [← Array.getElem?_toList];exact hv)
  have e1:(kvs.map (·.1))[j]? = some k:=by rw [hk,List.getElem?_map,hkv];rfl
  rw [List.getElem?_map] at e1 hx
  cases e:kvs[j]? with
  | none=>rw [e] at e1;cases e1
  | some kv =>
    rw [e] at e1 hx
    have ek:kv.1=k:=Option.some.inj e1
    have ex:kV kv.1=x:=Option.some.inj hx
    rw [← ex,ek]
    rcases keyIs_shape (show keyIs k v=true from his) with ⟨i,t,rfl,rfl⟩ | ⟨y,t,rfl,rfl⟩
    · exact ⟨t,rfl⟩
    · exact ⟨t,rfl⟩
end
end L2
namespace Sw
open PySem L2
noncomputable def stepN (p:List Nat × List Nat) (b:Nat):List Nat × List Nat:=if b∈p.1 then p else (p.1 ++ [b],p.2 ++ [b])
noncomputable def Pick (ts:List Tm) (pk:DK) (m:Nat) (t:Tm):Prop := ∃ j:Nat,valV pk (lk m)=some (nV j)∧ts[j]? = some t
theorem Pick.one {ts:List Tm} {pk:DK} {m:Nat} {t t':Tm} (h:Pick ts pk m t) (q:Pick ts pk m t'):t=t':=by
  obtain ⟨j,h1,h2⟩:=h
  obtain ⟨i,q1,q2⟩:=q
  rw [h1] at q1
  have e:=V.int.inj (Option.some.inj q1)
  have e2:j=i:=by omega
  subst e2
  rw [h2] at q2
  exact Option.some.inj q2
section
variable {ls:List Nat} {ts:List Tm} {pk:DK} {l here:Nat} {fs ws bs:List Nat}
end
theorem nodup_len:∀ (n:Nat) (fs:List Nat),fs.Nodup→(∀ x∈fs,x < n)→fs.length≤n
  | 0, [],_,_=>Nat.le_refl _
  | 0,x :: fs,_,h=>absurd (h x List.mem_cons_self) (Nat.not_lt_zero _)
  | n+1,fs,nd,h=>by
    have h1:=nodup_len n (fs.erase n) (nd.erase n) fun x hx=>by
      have:=(List.Nodup.mem_erase_iff nd).mp hx
      have:=h x this.2
      omega
    rw [List.length_erase] at h1
    split at h1 <;> omega
noncomputable def muN (n:Nat) (p:List Nat × List Nat):Nat:=2 * (n - p.1.length)+p.2.length
theorem stepN_mu {n:Nat} {p:List Nat × List Nat} {b:Nat} (h:(stepN p b).1.length≤n):muN n (stepN p b)≤muN n p:=by
  unfold stepN at h ⊢
  split
  · exact Nat.le_refl _
  · rename_i hn
    rw [if_neg hn] at h
    unfold muN
    simp only [List.length_append,List.length_singleton] at h ⊢
    omega
noncomputable def dictN (fs:List Nat):DK:=fs.map fun l=>(lk l,V.bl true)
theorem val_dictN (fs:List Nat) (b:Nat):(valV (dictN fs) (lk b)).isSome=decide (b∈fs):=by
  unfold dictN valV
  rw [Option.isSome_map]
  induction fs with
  | nil=>rfl
  | cons x fs ih =>
    rw [List.map_cons,List.find?_cons]
    by_cases e:x=b
    · subst e
      simp
    · have e2:decide (lk x=lk b)=false:=decide_eq_false fun z=>e (lk_inj z)
      rw [show decide ((lk x,V.bl true).1=lk b)=false from e2]
      rw [ih]
      have:(b∈x :: fs)↔b∈fs:=by
        rw [List.mem_cons]
        exact ⟨fun z=>z.elim (fun z=>absurd z.symm e) id,.inr⟩
      exact decide_eq_decide.mpr this.symm
theorem put_dictN {fs:List Nat} {b:Nat} (h:b ∉ fs):putK (dictN fs) (lk b) (.bl true)=dictN (fs ++ [b]):=by
  have hv:valV (dictN fs) (lk b)=none:=by
    have z:=val_dictN fs b
    rw [decide_eq_false h] at z
    cases e:valV (dictN fs) (lk b) with
    | none=>rfl
    | some v=>rw [e] at z;cases z
  rw [putK_new _ hv]
  unfold dictN
  rw [List.map_append]
  rfl
theorem keys_dictN (fs:List Nat):(dictN fs).map (fun kv=>kV kv.1)=fs.map nV:=by
  unfold dictN
  rw [List.map_map]
  rfl
end Sw
namespace L2
open PySem
end L2
namespace Sw
open PySem L2
end Sw
namespace Sw
open PySem L2
theorem look_put (ps:List Row) (l l':Nat) (zs:List Nat):lookR (putR ps l zs) l'=if l'=l then some zs else lookR ps l':=by
  unfold putR lookR
  split
  · rename_i h
    induction ps with
    | nil=>cases h
    | cons p ps ih =>
      rw [List.map_cons,List.find?_cons,List.find?_cons]
      by_cases e:p.1=l
      · rw [if_pos e]
        by_cases e2:l'=l
        · rw [if_pos e2]
          rw [show decide ((p.1,zs).1=l')=true from decide_eq_true (by rw [e2];exact e)]
          rfl
        · rw [if_neg e2]
          have n1:decide ((p.1,zs).1=l')=false:=decide_eq_false fun z=>e2 (by rw [← z];exact e)
          have n2:decide (p.1=l')=false:=decide_eq_false fun z=>e2 (by rw [← z];exact e)
          first | rw [n1,n2] | rw [n1]
          by_cases hany:(ps.any fun p=>decide (p.1=l))=true
          · have:=ih hany
            rw [if_neg e2] at this
            exact this
          · have em:ps.map (fun p=>if p.1=l then (p.1,zs) else p)=ps:=by
              refine (List.map_congr_left fun x hx => ?_).trans (List.map_id ps)
              rw [if_neg fun z=>hany (List.any_eq_true.mpr ⟨x,hx,decide_eq_true z⟩)]
              rfl
            rw [em]
      · rw [if_neg e]
        rw [List.any_cons,decide_eq_false e,Bool.false_or] at h
        have:=ih h
        by_cases e3:decide (p.1=l')=true
        · rw [e3]
          have:¬ l'=l:=fun z=>e (by rw [of_decide_eq_true e3];exact z)
          rw [if_neg this]
        · rw [Bool.not_eq_true] at e3
          rw [e3]
          exact this
  · rename_i h
    rw [List.find?_append]
    by_cases e2:l'=l
    · rw [if_pos e2]
      have:ps.find? (fun p=>decide (p.1=l'))=none:=by
        rw [List.find?_eq_none]
        intro x hx z
        exact h (List.any_eq_true.mpr ⟨x,hx,by rw [← e2];exact z⟩)
      rw [this]
      show ([(l,zs)].find? fun p=>decide (p.1=l')).map (·.2)=_
      rw [List.find?_cons,show decide ((l,zs).1=l')=true from decide_eq_true e2.symm]
      rfl
    · rw [if_neg e2]
      have : [(l,zs)].find? (fun p=>decide (p.1=l'))=none:=by
        rw [List.find?_cons,show decide ((l,zs).1=l')=false from decide_eq_false fun z=>e2 z.symm]
        rfl
      rw [this,Option.or_none]
noncomputable def hdF (ls fs:List Nat) (x:Nat):List Nat:=fs.filter fun k=>decide (ls.getD k 0=x)
theorem look_rows (ls:List Nat):∀ (fs:List Nat) (x:Nat),lookR (rowsF ls fs) x=if hdF ls fs x = [] then none else some (hdF ls fs x):=by
  have key:∀ (n:Nat) (fs:List Nat),fs.length=n→∀ x,lookR (rowsF ls fs) x=if hdF ls fs x = [] then none else some (hdF ls fs x):=by
    intro n
    induction n with
    | zero=>intro fs h x;rw [List.length_eq_zero_iff.mp h];rfl
    | succ n ih =>
      intro fs h x
      rcases List.eq_nil_or_concat fs with e | ⟨f0,k,e⟩
      · rw [e] at h;cases h
      rw [List.concat_eq_append] at e
      subst e
      rw [List.length_append,List.length_singleton] at h
      have i0:=ih f0 (by omega)
      rw [rows_snoc]
      unfold addR
      rw [look_put,i0 (ls.getD k 0)]
      unfold hdF
      rw [List.filter_append]
      by_cases e:x=ls.getD k 0
      · subst e
        rw [if_pos rfl]
        have e1 : [k].filter (fun k'=>decide (ls.getD k' 0=ls.getD k 0)) = [k]:=by simp
        rw [e1]
        generalize f0.filter (fun k'=>decide (ls.getD k' 0=ls.getD k 0))=g
        have e2:(if g = [] then none else some g:Option (List Nat)).getD []=g:=by
          by_cases z:g = []
          · rw [if_pos z,z];rfl
          · rw [if_neg z];rfl
        rw [e2,if_neg (show ¬ g ++ [k] = [] by simp)]
      · rw [if_neg e,i0 x]
        have e1 : [k].filter (fun k'=>decide (ls.getD k' 0=x)) = []:=by
          rw [List.filter_cons,if_neg (by rw [decide_eq_true_iff];exact fun z=>e z.symm)];rfl
        rw [e1,List.append_nil]
        rfl
  exact fun fs=>key _ fs rfl
structure HdOk (ts:List Tm) (ls:List Nat) (hd:Nat→List Nat):Prop where
  mem:∀ x j,j∈hd x→j < ts.length∧ls.getD j 0=x
  self:∀ k,k < ts.length→ls.getD k 0∈hd (ls.getD k 0)
  few:∀ x,(hd x).length≤ts.length
noncomputable def HdAt (H:Hp) (kvs:DK) (ts:List Tm) (ls:List Nat) (hd:Nat→List Nat):Prop := ∀ k,k < ts.length→∃ a,valV kvs (lk (ls.getD k 0))=some (.ref a)∧H a=some (.lst ((hd (ls.getD k 0)).map nV))
theorem HdAt.same {H H':Hp} {kvs:DK} {ts:List Tm} {ls:List Nat} {hd:Nat→List Nat} (h:HdAt H kvs ts ls hd) (sm:Same H H'):HdAt H' kvs ts ls hd:=fun k hk=>by obtain ⟨a,e,h⟩:=h k hk;exact ⟨a,e,sm _ _ h⟩
noncomputable def stepL (ls:List Nat) (t:Tm):List Nat:=(armsF t).map fun a=>ls.getD a 0
structure GInv (A:Nat→List Nat) (l:Nat) (fs ws:List Nat):Prop where
  nd:fs.Nodup
  sub:∀ m∈ws,m∈fs
  root:l∈fs
  shut:∀ m∈fs,m∈ws∨∀ b∈A m,b∈fs
  least:∀ C:Nat→Prop,C l→(∀ x,C x→∀ b∈A x,C b)→∀ m∈fs,C m
structure GStep (A:Nat→List Nat) (l here:Nat) (fs ws bs:List Nat):Prop where
  nd:fs.Nodup
  sub:∀ m∈ws,m∈fs
  root:l∈fs
  shut:∀ m∈fs,m∈ws∨m=here∨∀ b∈A m,b∈fs
  least:∀ C:Nat→Prop,C l→(∀ x,C x→∀ b∈A x,C b)→∀ m∈fs,C m
  has:∀ b∈bs,b∈fs
  hr:here∈fs
section
variable {A:Nat→List Nat} {l here:Nat} {fs ws bs:List Nat}
theorem ginv_start:GInv A l [l] [l]:=⟨List.nodup_cons.mpr ⟨by simp,List.nodup_nil⟩,fun m hm=>hm,List.mem_singleton.mpr rfl,fun m hm => .inl hm,fun C h _ m hm=>by rw [List.mem_singleton.mp hm];exact h⟩
theorem GInv.pop (h:GInv A l fs (ws ++ [here])):GStep A l here fs ws [] :=
  ⟨h.nd,fun m hm=>h.sub m (List.mem_append_left _ hm),h.root,(fun m hm=>by
    rcases h.shut m hm with z | z
    · rcases List.mem_append.mp z with z | z
      · exact .inl z
      · exact .inr (.inl (List.mem_singleton.mp z))
    · exact .inr (.inr z)),h.least,(fun b hb=>nomatch hb),h.sub _ (List.mem_append_right _ (List.mem_singleton.mpr rfl))⟩
theorem GStep.step {b:Nat} (h:GStep A l here fs ws bs) (hb:b∈A here):GStep A l here (stepN (fs,ws) b).1 (stepN (fs,ws) b).2 (bs ++ [b]):=by
  unfold stepN
  split
  · rename_i hin
    exact ⟨h.nd,h.sub,h.root,h.shut,h.least,(fun c hc=>by
      rcases List.mem_append.mp hc with z | z
      · exact h.has c z
      · rw [List.mem_singleton.mp z];exact hin),h.hr⟩
  · rename_i hin
    have hin':b ∉ fs:=hin
    have up:∀ m∈fs,m∈fs ++ [b]:=fun m hm=>List.mem_append_left _ hm
    refine ⟨nodup_snoc h.nd hin',fun m hm => ?_,up _ h.root,fun m hm => ?_,fun C h1 h2 m hm => ?_,fun c hc => ?_,up _ h.hr⟩
    · rcases List.mem_append.mp hm with z | z
      · exact up _ (h.sub m z)
      · exact List.mem_append_right _ z
    · rcases List.mem_append.mp hm with z | z
      · rcases h.shut m z with q | q | q
        · exact .inl (List.mem_append_left _ q)
        · exact .inr (.inl q)
        · exact .inr (.inr fun c hc=>up _ (q c hc))
      · exact .inl (List.mem_append_right _ z)
    · rcases List.mem_append.mp hm with z | z
      · exact h.least C h1 h2 m z
      · rw [List.mem_singleton.mp z];exact h2 here (h.least C h1 h2 here h.hr) b hb
    · rcases List.mem_append.mp hc with z | z
      · exact up _ (h.has c z)
      · exact List.mem_append_right _ z
theorem GStep.done (h:GStep A l here fs ws bs) (hb:∀ b∈A here,b∈bs):GInv A l fs ws :=
  ⟨h.nd,h.sub,h.root,(fun m hm=>by
    rcases h.shut m hm with z | z | z
    · exact .inl z
    · subst z;exact .inr fun b hb'=>h.has b (hb b hb')
    · exact .inr z),h.least⟩
theorem GInv.closed (h:GInv A l fs []):∀ m∈fs,∀ b∈A m,b∈fs:=fun m hm=>(h.shut m hm).elim (fun z=>nomatch z) id
theorem GStep.len {n:Nat} (h:GStep A l here fs ws bs) (C:Nat→Prop) (h1:C l) (h2:∀ x,C x→∀ b∈A x,C b) (h3:∀ x,C x→x < n):fs.length≤n:=nodup_len _ _ h.nd fun x hx=>h3 x (h.least C h1 h2 x hx)
theorem GInv.len {n:Nat} (h:GInv A l fs ws) (C:Nat→Prop) (h1:C l) (h2:∀ x,C x→∀ b∈A x,C b) (h3:∀ x,C x→x < n):fs.length≤n:=nodup_len _ _ h.nd fun x hx=>h3 x (h.least C h1 h2 x hx)
end
noncomputable def stepC (hd:Nat→List Nat) (acc:List DK) (x:Nat):List DK:=acc.flatMap fun pk=>(hd x).map fun k=>putK pk (lk x) (nV k)
noncomputable def combF (hd:Nat→List Nat) (fs:List Nat):List DK:=fs.foldl (stepC hd) [[]]
theorem comb_snoc (hd:Nat→List Nat) (fs:List Nat) (x:Nat):combF hd (fs ++ [x])=stepC hd (combF hd fs) x:=by unfold combF;rw [List.foldl_append];rfl
noncomputable def waysF (hd:Nat→List Nat) (fs:List Nat):Nat:=fs.foldl (fun n x=>n * (hd x).length) 1
theorem ways_snoc (hd:Nat→List Nat) (fs:List Nat) (x:Nat):waysF hd (fs ++ [x])=waysF hd fs * (hd x).length:=by unfold waysF;rw [List.foldl_append];rfl
theorem stepC_len (hd:Nat→List Nat) (acc:List DK) (x:Nat):(stepC hd acc x).length=acc.length * (hd x).length:=by
  unfold stepC
  induction acc with
  | nil=>simp
  | cons p acc ih=>rw [List.flatMap_cons,List.length_append,ih,List.length_map,List.length_cons,Nat.succ_mul];omega
theorem comb_len (hd:Nat→List Nat) (fs:List Nat):(combF hd fs).length=waysF hd fs:=by
  have key:∀ (n:Nat) (fs:List Nat),fs.length=n→(combF hd fs).length=waysF hd fs:=by
    intro n
    induction n with
    | zero=>intro fs h;rw [List.length_eq_zero_iff.mp h];rfl
    | succ n ih =>
      intro fs h
      rcases List.eq_nil_or_concat fs with e | ⟨f0,k,e⟩
      · rw [e] at h;cases h
      rw [List.concat_eq_append] at e
      subst e
      rw [List.length_append,List.length_singleton] at h
      rw [comb_snoc,stepC_len,ways_snoc,ih f0 (by omega)]
  exact key _ fs rfl
theorem comb_get (hd:Nat→List Nat):∀ (n:Nat) (fs:List Nat),fs.length=n→∀ pk∈combF hd fs,(∀ x∈fs,∃ j∈hd x,valV pk (lk x)=some (nV j))∧pk.length≤n:=by
  intro n
  induction n with
  | zero=>intro fs h pk hp;rw [List.length_eq_zero_iff.mp h] at hp ⊢;rw [List.mem_singleton.mp hp];exact ⟨(fun x hx=>nomatch hx),Nat.le_refl _⟩
  | succ n ih =>
    intro fs h pk hp
    rcases List.eq_nil_or_concat fs with e | ⟨f0,k,e⟩
    · rw [e] at h;cases h
    rw [List.concat_eq_append] at e
    subst e
    rw [List.length_append,List.length_singleton] at h
    rw [comb_snoc] at hp
    obtain ⟨p0,hp0,hp1⟩:=List.mem_flatMap.mp hp
    obtain ⟨j,hj,rfl⟩:=List.mem_map.mp hp1
    obtain ⟨i1,i2⟩:=ih f0 (by omega) p0 hp0
    refine ⟨fun x hx => ?_,?_⟩
    · rw [valV_put]
      by_cases e:x=k
      · subst e;exact ⟨j,hj,if_pos rfl⟩
      · rw [if_neg fun z=>e (lk_inj z)]
        rcases List.mem_append.mp hx with z | z
        · exact i1 x z
        · exact absurd (List.mem_singleton.mp z) e
    · have:=length_putK p0 (lk k) (nV j)
      omega
theorem comb_all (hd:Nat→List Nat) (q:Nat→Nat):∀ (n:Nat) (fs:List Nat),fs.length=n→fs.Nodup→(∀ x∈fs,q x∈hd x)→∃ pk∈combF hd fs,∀ x∈fs,valV pk (lk x)=some (nV (q x)):=by
  intro n
  induction n with
  | zero=>intro fs h _ _;rw [List.length_eq_zero_iff.mp h];exact ⟨[],List.mem_singleton.mpr rfl,(fun x hx=>nomatch hx)⟩
  | succ n ih =>
    intro fs h nd hq
    rcases List.eq_nil_or_concat fs with e | ⟨f0,k,e⟩
    · rw [e] at h;cases h
    rw [List.concat_eq_append] at e
    subst e
    rw [List.length_append,List.length_singleton] at h
    rw [List.nodup_append] at nd
    obtain ⟨p0,hp0,i0⟩:=ih f0 (by omega) nd.1 fun x hx=>hq x (List.mem_append_left _ hx)
    refine ⟨putK p0 (lk k) (nV (q k)),?_,fun x hx => ?_⟩
    · rw [comb_snoc]
      exact List.mem_flatMap.mpr ⟨p0,hp0,List.mem_map.mpr ⟨q k,hq k (List.mem_append_right _ (List.mem_singleton.mpr rfl)),rfl⟩⟩
    · rw [valV_put]
      by_cases e:x=k
      · subst e;exact if_pos rfl
      · rw [if_neg fun z=>e (lk_inj z)]
        rcases List.mem_append.mp hx with z | z
        · exact i0 x z
        · exact absurd (List.mem_singleton.mp z) e
noncomputable def costK (cs:DK) (ts:List Tm) (j:Nat):Int:=costF cs (ts.getD j (.num 0))
noncomputable def pkJ (pk:DK) (x:Nat):Nat:=(vI ((valV pk (lk x)).getD (.int 0))).toNat
theorem pkJ_at {pk:DK} {x j:Nat} (h:valV pk (lk x)=some (nV j)):pkJ pk x=j:=by
  unfold pkJ;rw [h];show ((j:Nat):Int).toNat=j;omega
noncomputable def sumC (cs:DK) (ts:List Tm) (pk:DK) (C:List Nat):Int:=(C.map fun x=>costK cs ts (pkJ pk x)).sum
theorem sum_erase (f:Nat→Int) {x:Nat}:∀ {R:List Nat},x∈R→(R.map f).sum=f x+((R.erase x).map f).sum
  | y :: R,h=>by
    by_cases e:y=x
    · subst e;rw [List.erase_cons_head,List.map_cons,List.sum_cons]
    · have hx:x∈R:=by
        rcases List.mem_cons.mp h with z | z
        · exact absurd z.symm e
        · exact z
      rw [List.erase_cons_tail (by simpa using e),List.map_cons,List.sum_cons,List.map_cons,List.sum_cons,sum_erase f hx]
      omega
theorem sum_sub {f:Nat→Int} (hf:∀ x,0≤f x):∀ {W R:List Nat},W.Nodup→(∀ x∈W,x∈R)→(W.map f).sum≤(R.map f).sum
  | [],R,_,_=>by
    rw [List.map_nil,List.sum_nil]
    exact sum_nn fun x _=>hf x
  | x :: W,R,h,s=>by
    rw [List.nodup_cons] at h
    have hx:=s x List.mem_cons_self
    have ih:=sum_sub hf (W:=W) (R:=R.erase x) h.2 fun y hy=>(List.mem_erase_of_ne (fun e=>h.1 (by rw [← e];exact hy))).mpr (s y (List.mem_cons_of_mem _ hy))
    have e:=sum_erase f hx
    rw [List.map_cons,List.sum_cons]
    omega
noncomputable def RankOn (ls:List Nat) (ts:List Tm) (pk:DK) (C:List Nat):Prop := ∃ r:Nat→Nat,∀ w∈C,∀ b∈pkA ls ts pk w,r b < r w
structure ShOk (ts:List Tm) (ls:List Nat) (cs:DK) (l:Nat) (cbs:List DK) (rs:List Rw) (price:Int):Prop where
  ch:ChG ts ls rs
  nd:(rs.map (·.1)).Nodup
  root:l∈rs.map (·.1)
  from_:∃ pk∈cbs,(∀ r∈rs,valV pk (lk r.1)=some (nV r.2))∧(∀ x∈rs.map (·.1),∀ b∈pkA ls ts pk x,b∈rs.map (·.1))∧∀ C:Nat→Prop,C l→(∀ x,C x→∀ b∈pkA ls ts pk x,C b)→∀ m∈rs.map (·.1),C m
  cost:price=(rs.map fun r=>costK cs ts r.2).sum
  min:∀ pk∈cbs,∀ C:List Nat,C.Nodup→l∈C→(∀ x∈C,∀ b∈pkA ls ts pk x,b∈C)→RankOn ls ts pk C→price≤sumC cs ts pk C
noncomputable def NoWay (ts:List Tm) (ls:List Nat) (l:Nat) (cbs:List DK):Prop := ∀ pk∈cbs,∀ C:List Nat,C.Nodup→l∈C→(∀ x∈C,∀ b∈pkA ls ts pk x,b∈C)→¬ RankOn ls ts pk C
theorem least_rank:∀ (r:Nat→Nat) (W:List Nat),W ≠ []→∃ x∈W,∀ y∈W,r x≤r y
  | r, [],h=>absurd rfl h
  | r, [x],_=>⟨x,List.mem_singleton.mpr rfl,fun y hy=>by rw [List.mem_singleton.mp hy];exact Nat.le_refl _⟩
  | r,x :: y :: W,_=>by
    obtain ⟨z,hz,mz⟩:=least_rank r (y :: W) (List.cons_ne_nil _ _)
    by_cases h:r x≤r z
    · exact ⟨x,List.mem_cons_self,fun w hw=>by
        rcases List.mem_cons.mp hw with rfl | hw
        · exact Nat.le_refl _
        · exact Nat.le_trans h (mz w hw)⟩
    · exact ⟨z,List.mem_cons_of_mem _ hz,fun w hw=>by
        rcases List.mem_cons.mp hw with rfl | hw
        · omega
        · exact mz w hw⟩
theorem sum_rows {cs:DK} {ts:List Tm} {pk:DK}:∀ {rs:List Rw},(∀ r∈rs,valV pk (lk r.1)=some (nV r.2))→(rs.map fun r=>costK cs ts r.2).sum=sumC cs ts pk (rs.map (·.1))
  | [],_=>rfl
  | r :: rs,h=>by
    unfold sumC
    rw [List.map_cons,List.map_cons,List.map_cons,List.sum_cons,List.sum_cons,pkJ_at (h r List.mem_cons_self)]
    have:=sum_rows (cs:=cs) (ts:=ts) (rs:=rs) fun q hq=>h q (List.mem_cons_of_mem _ hq)
    unfold sumC at this
    rw [this]
theorem costK_nn {cs:DK} (hc:CostOk cs) (ts:List Tm) (j:Nat):0≤costK cs ts j:=by have:=cost_pos hc (ts.getD j (.num 0));unfold costK;omega
theorem NoWay.none {ts:List Tm} {ls:List Nat} {l:Nat} {cbs:List DK} {pk:DK} {ns:List Nat} (h:NoWay ts ls l cbs) (inv:GInv (pkA ls ts pk) l ns []) (no:¬ RankOn ls ts pk ns):NoWay ts ls l (cbs ++ [pk]):=fun q hq C h1 h2 h3 h4=>by
  rcases List.mem_append.mp hq with z | z
  · exact h q z C h1 h2 h3 h4
  · rw [List.mem_singleton.mp z] at h3 h4
    obtain ⟨r,hr⟩:=h4
    exact no ⟨r,fun w hw=>hr w (inv.least (· ∈ C) h2 h3 w hw)⟩
theorem ShOk.none {ts:List Tm} {ls:List Nat} {cs:DK} {l:Nat} {cbs:List DK} {rs:List Rw} {price:Int} {pk:DK} {ns:List Nat} (h:ShOk ts ls cs l cbs rs price) (inv:GInv (pkA ls ts pk) l ns []) (no:¬ RankOn ls ts pk ns):ShOk ts ls cs l (cbs ++ [pk]) rs price:=by
  obtain ⟨q,hq,hr⟩:=h.from_
  refine ⟨h.ch,h.nd,h.root,⟨q,List.mem_append_left _ hq,hr⟩,h.cost,fun q hq C h1 h2 h3 h4 => ?_⟩
  rcases List.mem_append.mp hq with z | z
  · exact h.min q z C h1 h2 h3 h4
  · rw [List.mem_singleton.mp z] at h3 h4
    obtain ⟨r,hr⟩:=h4
    exact absurd ⟨r,fun w hw=>hr w (inv.least (· ∈ C) h2 h3 w hw)⟩ no
structure RowOk (ts:List Tm) (ls:List Nat) (pk:DK) (ns:List Nat) (rs:List Rw):Prop where
  ch:ChG ts ls rs
  nd:(rs.map (·.1)).Nodup
  all:∀ x,x∈rs.map (·.1)↔x∈ns
  pick:∀ r∈rs,valV pk (lk r.1)=some (nV r.2)
theorem RowOk.le {ts:List Tm} {ls:List Nat} {cs:DK} {pk:DK} {ns:List Nat} {rs:List Rw} {l:Nat} (hc:CostOk cs) (h:RowOk ts ls pk ns rs) (inv:GInv (pkA ls ts pk) l ns []) {C:List Nat} (h2:l∈C) (h3:∀ x∈C,∀ b∈pkA ls ts pk x,b∈C):(rs.map fun r=>costK cs ts r.2).sum≤sumC cs ts pk C:=by
  rw [sum_rows h.pick]
  exact sum_sub (fun x=>costK_nn hc ts _) h.nd fun x hx=>inv.least (· ∈ C) h2 h3 x ((h.all x).mp hx)
theorem RowOk.sh {ts:List Tm} {ls:List Nat} {cs:DK} {l:Nat} {cbs:List DK} {pk:DK} {ns:List Nat} {rs:List Rw} (hc:CostOk cs) (h:RowOk ts ls pk ns rs) (inv:GInv (pkA ls ts pk) l ns [])
    (lo:∀ q∈cbs,∀ C:List Nat,C.Nodup→l∈C→(∀ x∈C,∀ b∈pkA ls ts q x,b∈C)→RankOn ls ts q C→(rs.map fun r=>costK cs ts r.2).sum≤sumC cs ts q C):ShOk ts ls cs l (cbs ++ [pk]) rs (rs.map fun r=>costK cs ts r.2).sum:=by
  refine ⟨h.ch,h.nd,(h.all l).mpr inv.root,⟨pk,List.mem_append_right _ (List.mem_singleton.mpr rfl),h.pick,fun x hx b hb=>(h.all b).mpr (inv.closed x ((h.all x).mp hx) b hb),fun C c1 c2 m hm=>inv.least C c1 c2 m ((h.all m).mp hm)⟩,rfl,fun q hq C h1 h2 h3 h4 => ?_⟩
  rcases List.mem_append.mp hq with z | z
  · exact lo q z C h1 h2 h3 h4
  · have e:=List.mem_singleton.mp z
    subst e
    exact h.le hc inv h2 h3
theorem ShOk.keep {ts:List Tm} {ls:List Nat} {cs:DK} {l:Nat} {cbs:List DK} {rs0 rs:List Rw} {price:Int} {pk:DK} {ns:List Nat} (hc:CostOk cs) (h0:ShOk ts ls cs l cbs rs0 price) (h:RowOk ts ls pk ns rs) (inv:GInv (pkA ls ts pk) l ns []) (ge:¬ (rs.map fun r=>costK cs ts r.2).sum < price):ShOk ts ls cs l (cbs ++ [pk]) rs0 price:=by
  obtain ⟨q,hq,hr⟩:=h0.from_
  refine ⟨h0.ch,h0.nd,h0.root,⟨q,List.mem_append_left _ hq,hr⟩,h0.cost,fun q hq C h1 h2 h3 h4 => ?_⟩
  rcases List.mem_append.mp hq with z | z
  · exact h0.min q z C h1 h2 h3 h4
  · have e:=List.mem_singleton.mp z
    subst e
    have:=h.le (cs:=cs) hc inv h2 h3
    omega
end Sw
namespace Sw
open PySem L2
end Sw
namespace L2
open PySem PySem.Spec PyProof.Rows
noncomputable def Itv (a:Addr) (n:Nat):It :=
  ⟨fun i H=>i < n∧∃ xs,H a=some (.lst xs)∧xs.length=n,fun i H x H'=>H'=H∧∀ xs,H a=some (.lst xs)→xs[n - 1 - i]? = some x,fun i _=>i=n⟩
theorem turn_rev {P:Program} {w:World} {K:PySem.W.Frag} {tg:Expr} (a it:Addr) (n:Nat):Turn P w K tg (Itv a n) [it] it (fun i h=>h.IsRevIter it a ((n:Int) - 1 - (i:Int))) where
  mem:=by simp
  obj:=fun i h st b hb=>by
    have e:b=it:=by simpa using hb
    subst e
    obtain ⟨o,e,c,d⟩:=st
    exact ⟨o,e,fun v z=>by rw [d] at z;cases z⟩
  keep:=fun i h h' st k=>st.at fun o e=>k it (by simp) o e
  item:=by
    intro X hP hw hK hc i pins s σ H E I hf st hg
    subst hP hw hK
    obtain ⟨hi,xs,hq,hn⟩:=hg
    obtain ⟨hz,its,m,rv,e⟩:=I.hok a _ hq
    have hl:=rv.length
    have hx:xs[n - 1 - i]? = some (xs[n - 1 - i]'(by omega)):=List.getElem?_eq_getElem (by omega)
    obtain ⟨u,hu,ru⟩:=rv.get hx
    obtain ⟨f0,f1,f2,f3,f4,f5⟩:=hf it (by simp)
    have e1:(n:Int) - 1 - (i:Int)=((n - 1 - i:Nat):Int):=by omega
    rw [e1] at st
    refine wpAny_pyNext_rev_item st ⟨_,e,rfl,_,rfl⟩ (x:=u) (by simpa using hu) fun h' st' sb => ?_
    have e2:((n - 1 - i:Nat):Int) - 1=(n:Int) - 1 - ((i+1:Nat):Int):=by omega
    rw [e2] at st'
    have I1:Inv X pins σ H { s with heap:=h' }:=I.turned (t':=s.toks) (fun b o hb e=>(sb.2 b hb).trans e) f0 f1 f3 f4 f5
    obtain ⟨o,e,c,d⟩:=id st'
    exact ⟨u,rfl,go_of (s := { s with heap:=h' }) e c d (by decide) ⟨_,H,I1,ru,⟨rfl,fun ys hy=>by rw [hq] at hy;cases hy;exact hx⟩,st',fun b hb=>(hf b hb).1⟩⟩
  done:=by
    intro X hP hw hK hc i pins s σ H E I hf st hg
    subst hP hw hK
    have hg':i=n:=hg
    subst hg'
    obtain ⟨f0,f1,f2,f3,f4,f5⟩:=hf it (by simp)
    have e1:(i:Int) - 1 - (i:Int) = -1:=by omega
    rw [e1] at st
    exact wpAny_pyNext_rev_end (I.ok.hd hc) st fun h' eb=>⟨rfl,I.turned (t':=s.toks) (fun b o hb e=>eb b o hb e) f0 f1 f3 f4 f5⟩
  self:=fun A i s Q E st q=>wpAny_pyIter_revIter st q
inductive J_iRev (R:It→Hp→Prop) (x:V) (H:Hp):Prop
  | mk:∀ (a:Addr) (xs:List V),(x = .ref a)→(H a=some (.lst xs))→(R (Itv a xs.length) H)→J_iRev R x H
noncomputable def iRev (tl:TE):TI:=fun σ H R=>tl σ H fun x H1=>J_iRev R x H1
theorem pi_rev {X:Cx} {tg e:Expr} {te:TE} {p pos:Pos} (hg:Gl X "reversed") (hm:X.mg "reversed" = none) (he:PE X e te) (h2:starEach [e] X.env = [(false,eval e X.env)]:=by rfl):PI X tg (.Call (.Name "reversed" p) [e] [] pos) (iRev te):=by
  intro pins s σ H R I h
  refine wpAny_Call_Name_kw (ld_blt I hg hm boot_reversed_ ?_ (by decide) (by decide))
  refine PyProof.Rows.callWith_type1 ?_ h2 rfl
  rw [h2]
  refine Calls.spliced_cons (thn (he pins s σ H _ I h) fun u s1 ⟨x,H1,I1,rx,a,zs,ex,ha,q⟩=>Calls.spliced_nil ?_)
  subst ex
  cases (show u=Value.ref a from rx)
  obtain ⟨hz,us,c,r,e⟩:=(show ObjOk X.prog X.w H1 s1.heap a (.lst zs) from I1.hok a _ ha)
  have hl:s1.heap.IsList a us.toArray:=⟨_,e,rfl,_,rfl⟩
  have hsz:us.toArray.size=zs.length:=by have:=r.length;simp;omega
  refine call_reversed_list hl ?_
  have hst:(s1.heap.push (revObj a ((us.toArray.size:Int) - 1))).IsRevIter s1.heap.objs.size a ((us.toArray.size:Int) - 1):=⟨_,Heap.get?_push_size _ rfl,rfl,rfl⟩
  refine wpAny_pyIter_revIter (s := { s1 with heap:=s1.heap.push (revObj a ((us.toArray.size:Int) - 1)) }) hst ?_
  refine ⟨s1.heap.objs.size, [s1.heap.objs.size],_,_,H1,rfl,I1.kept (t':=s1.toks) fun b o e=>Heap.get?_push_of_some _ e,turn_rev a _ zs.length,?_,fun b hb => ?_,q⟩
  · have e1:((zs.length:Nat):Int) - 1 - ((0:Nat):Int)=((us.toArray.size:Nat):Int) - 1:=by rw [hsz];omega
    rw [e1]
    exact hst
  · have e:b=s1.heap.objs.size:=by simpa using hb
    subst e
    exact I1.fpOk (Nat.le_refl _) (I1.hok.fresh (Nat.le_refl _))
theorem for_rev {a:Addr} {xs:List V} {g:TG} {tb:TS} {D:Ends} {σ : St} {H:Hp} (Pv:Nat→St→Hp→Prop) (h0:Pv 0 σ H) (hl:∀ i σ H,i≤xs.length→Pv i σ H→H a=some (.lst xs))
    (hs:∀ i x σ H,i < xs.length→xs[xs.length - 1 - i]? = some x→Pv i σ H→g x σ H fun σ2 H2=>tb { D with nx:=Pv (i+1),ct:=Pv (i+1),bk:=D.nx } σ2 H2) (hd:∀ σ H,Pv xs.length σ H→D.nx σ H) :
    ∃ W:Nat→Nat→St→Hp→Prop,(∃ m,W 0 m σ H)∧∀ i m σ H,W i m σ H →
      ((Itv a xs.length).stop i H∧D.nx σ H)∨((Itv a xs.length).go i H∧∃ N:St→Hp→Prop,(∀ σ' H',N σ' H'→∃ m',m' < m∧W (i+1) m' σ' H')∧∀ x H',(Itv a xs.length).yld i H x H'→g x σ H' fun σ2 H2=>tb { D with nx:=N,ct:=N,bk:=D.nx } σ2 H2):=by
  refine ⟨fun i m σ H=>m=xs.length - i∧i≤xs.length∧Pv i σ H,⟨xs.length,by simp,Nat.zero_le _,h0⟩,?_⟩
  rintro i m σ H ⟨rfl,hi,p⟩
  have q:=hl i σ H hi p
  by_cases hlt:i < xs.length
  · refine .inr ⟨⟨hlt,xs,q,rfl⟩,Pv (i+1),fun σ' H' p'=>⟨xs.length - (i+1),by omega,rfl,hlt,p'⟩,fun x H' y => ?_⟩
    obtain ⟨e,y⟩:=y
    subst e
    exact hs i x σ _ hlt (y xs q) p
  · have e:i=xs.length:=by omega
    subst e
    exact .inl ⟨rfl,hd σ H p⟩
end L2
namespace L2
open PySem PySem.Spec PyProof.Rows
section
variable {X:Cx} {k:Nat} {y:Str} {p pos:Pos} {e:Expr} {es:List Expr} {tv:TE} {t:TA}
theorem compI_listS {K:PySem.W.Frag} {a:Addr} {xs:List V} {ct:TT} {te:TE} {σ : St} {caps:List (Str × Nat)} {H:Hp} {Q:VK} (f:V→Option V) (hS:SqL K H a xs) (hn:xs.length≤1000)
    (hel:∀ x∈xs,∀ H',Same H H'→∀ (R:Bool→Hp→Prop),(∀ H'',Same H' H''→R (f x).isSome H'')→ct (some x :: capt σ caps) H' R)
    (hev:∀ x v,x∈xs→f x=some v→∀ H',Same H H'→∀ Q':VK,(∀ H'',Same H' H''→Q' v H'')→te (some x :: capt σ caps) H' Q')
    (hq:∀ D H',H D=none→Same H H'→H' D=some (.lst (xs.filterMap f))→Q (.ref D) H') :
    CompBodyI (Itl K a) (gName 0) ct te (List.replicate 1 none ++ capt σ caps) H Q:=by
  intro D hD
  refine ⟨fun i m τ zs H'=>m=xs.length - i∧i≤xs.length∧(∃ o, τ = o :: capt σ caps)∧zs=(xs.take i).filterMap f∧Same H H'∧H' D=some (.lst zs),⟨xs.length,by simp,Nat.zero_le _,⟨none,rfl⟩,by simp,same_new hD _,upd_same⟩,?_⟩
  rintro i m τ zs H' ⟨rfl,hi,⟨o,rfl⟩,rfl,sm,hDl⟩
  refine ⟨hDl,?_⟩
  by_cases hlt:i < xs.length
  · refine .inr ⟨⟨xs,xs[i],sm.seq hS,by simp [hlt]⟩,?_,fun x H'' y => ?_⟩
    · refine small1000 (Nat.le_trans (List.length_filterMap_le _ _) ?_)
      rw [List.length_take];omega
    · obtain ⟨e,y⟩:=y
      subst e
      have hx:=y xs (sm.seq hS)
      have er:xs.take (i+1)=xs.take i ++ [x]:=by rw [List.take_add_one,hx];rfl
      show ct (some x :: capt σ caps) _ _
      refine hel x (List.mem_of_getElem? hx) _ sm _ (fun H2 s2 => ?_)
      cases e:f x with
      | none =>
        refine ⟨xs.length - (i+1),by omega,rfl,hlt,⟨_,rfl⟩,?_,sm.trans s2,s2 _ _ hDl⟩
        rw [er,List.filterMap_append,List.filterMap_cons,e];simp
      | some v =>
        refine hev x v (List.mem_of_getElem? hx) e _ (sm.trans s2) _ (fun H3 s3 => ?_)
        have hD3:=s3 _ _ (s2 _ _ hDl)
        refine ⟨hD3,xs.length - (i+1),by omega,rfl,hlt,⟨_,rfl⟩,?_,(sm.trans (s2.trans s3)).put hD,upd_same⟩
        rw [er,List.filterMap_append,List.filterMap_cons,e];simp
  · have e:i=xs.length:=by omega
    subst e
    rw [List.take_length] at hDl
    exact .inl ⟨⟨xs,sm.seq hS,Nat.le_refl _⟩,hq D H' hD sm hDl⟩
theorem ints_of_vals:∀ {ns:List Int} {us:List Value},Vals (ns.map V.int) us→IntsAre us ns
  | [],us,r=>by cases r;exact .nil
  | n :: ns,us,r=>by
    cases r with
    | cons h t =>
      obtain ⟨tk,rfl⟩:=h
      exact .cons n tk (ints_of_vals t)
theorem boot_sorted_:bootBuiltins "sorted" = some (.builtin "sorted"):=by decide +kernel
inductive J_call_sortedL (kK:PySem.W.Frag) (xs:List V) (H:Hp) (Q:VK):Prop
  | mk:∀ (p:Addr) (ns:List Int),(xs = [.ref p])→(SqL kK H p (ns.map V.int))→(ns.length < 64)→(∀ (ns':List Int) (l:Addr),ns'.Perm ns→ns'.Pairwise (· ≤ ·)→H l=none→Q (.ref l) (upd H l (.lst (ns'.map V.int))))→J_call_sortedL kK xs H Q
theorem call_sortedL:CallR X (.builtin "sorted") (fun xs H Q=>J_call_sortedL X.K xs H Q):=by
  intro pins s σ H xs us Q I r h
  obtain ⟨p,ns,rfl,hS,h64,q⟩:=h
  obtain ⟨u,rfl,rx⟩:=vals1 r
  cases rx
  obtain ⟨its,r',pl,hz⟩:=I.list hS
  have hlen:=r'.length
  rw [List.length_map] at hlen
  refine sorted_ints pl.isList (ints_of_vals r') (by omega) fun out ns' a1 a2 a3 => ?_
  obtain ⟨e,he⟩:=sortedAll_at s.heap its out
  have hfr:H (s.heap.objs.size+1)=none:=I.hok.fresh (Nat.le_succ _)
  have hl':ns'.length=ns.length:=a2.length_eq
  refine ⟨.ref (s.heap.objs.size+1),_,I.laid (t':=s.toks) (fun b o e'=>sortedAll_old e') (Nat.le_succ _) (show ObjOk X.prog X.w _ (sortedAll s.heap its out) _ (.lst (ns'.map V.int)) from ⟨?_,out.toList,e,vals_ints a1,by rw [he]⟩),rfl,q ns' _ a2 a3 hfr⟩
  rw [List.length_map,hl']
  rw [List.length_map] at hz
  exact hz
end
end L2
namespace L2
open PySem PySem.Spec PyProof.Rows
section
variable {prog:Program} {w:World} {A:Around} {R:Result→Shared→Prop} {I:Addr} {fp wr:List Addr} {n:Nat} {P:Nat→Value→Prop} {St:Nat→Heap→Prop} {kw:List (Str × Value)} {G:Heap→Prop}
end
section
variable {X:Cx} {e:Expr} {te:TE} {p pos kp cp:Pos} {j:Nat}
end
end L2
namespace L2
open PySem PySem.Spec PyProof.Rows
section
variable {prog:Program} {w:World} {A:Around} {R:Result→Shared→Prop} {I:Addr} {fp wr:List Addr} {n:Nat} {P:Nat→Value→Prop} {St:Nat→Heap→Prop} {kw:List (Str × Value)} {G:Heap→Prop}
end
section
variable {X:Cx} {e:Expr} {te:TE} {p pos kp cp:Pos} {j:Nat} {d:Int}
end

end L2
namespace L2
open PySem PySem.Spec PyProof.Rows
end L2
namespace HT
open PySem PySem.Spec PyProof.Rows
section
variable {prog:Program} {w:World} {A:Around} {E:Value→Shared→Prop} {s:Shared}
theorem getItem_tuple_all {t sl:Addr} {items:Array Value} {vl vu:Value} {lo hi:Option Int} {Q:Value→Shared→Prop} (ht:IsTup s.heap t items) (hs:s.heap.IsSliceOf sl vl vu .none) (pl:IsPart vl lo) (pu:IsPart vu hi)
    (hw:sIx items.size 0 lo=0∧sIx items.size items.size hi=items.size)
    (h:Q (.ref t) s):wpAny (model prog w) A (getItem (.ref t) (.ref sl)) Q E s:=by
  obtain ⟨os,hos,hcs,hds⟩:=id hs
  have hTs:s.TypeIs (.ref sl) "slice" := ⟨os,hos,hcs⟩
  unfold getItem
  try with_reducible refine wpAny_holding ?_
  first | refine wpAny_bind (wpAny_pure ?_) | skip
  refine wpAny_bind (wpAny_sequenceKey ht.typeIs (by decide) ?_)
  refine wpAny_bind (wpAny_callSpecial?_slot (name:=Str.ofString "__getitem__") ht.typeIs PyProof.Rows.slot_tuple_getitem
    (wpAny_call_entry PyProof.Rows.slot_tuple_getitem ht.typeIs entry_tuple_getitem ?_ (args_tuple_getitem _ _)))
  show wpAny _ _ (Builtin.Tuple.tupleItemsOf (.ref t) >>= _) _ _ s
  refine wpAny_bind (tupleItemsOf_ ht ?_)
  refine wpAny_bind (wpAny_typeOf hTs ?_)
  rw [if_pos (by decide)]
  refine wpAny_bind (sliceApplied_gen hs pl pu ?_)
  have hyes:(((sIx items.size 0 lo:Nat):Int) == 0 && (1:Int) == 1 && (sIx items.size items.size hi - sIx items.size 0 lo) == items.size)=true:=by
    rw [hw.1,hw.2,Nat.sub_zero];simp
  show wpAny _ _ (if (((sIx items.size 0 lo:Nat):Int) == 0 && (1:Int) == 1 && (sIx items.size items.size hi - sIx items.size 0 lo) == items.size)=true then _ else _) _ _ s
  rw [if_pos hyes]
  unfold Builtin.Tuple.tupleIsExact
  refine wpAny_bind (wpAny_bind (wpAny_typeOf ht.typeIs (wpAny_pure ?_)))
  rw [if_pos (by decide)]
  first
    | exact wpAny_pure ⟨_,rfl,wpAny_pure h⟩
    | exact wpAny_bind (wpAny_pure ⟨_,rfl,wpAny_pure h⟩)
    | exact wpAny_bind (m:=(pure ():Sem Unit)) (wpAny_pure (wpAny_pure ⟨_,rfl,wpAny_pure h⟩))
end
end HT
namespace L2
open PySem PySem.Spec PyProof.Rows
section
variable {X:Cx}
inductive J_rSlTW (K:PySem.W.Frag) (x:V) (lo:Option Int) (hi:Option Int) (H:Hp) (Q:VK):Prop
  | part:J_rSlT K x lo hi H Q→J_rSlTW K x lo hi H Q
  | all:∀ a xs,(x = .ref a)→(SqT K H a xs)→(HT.sIx xs.length 0 lo=0∧HT.sIx xs.length xs.length hi=xs.length)→(Q (.ref a) H)→J_rSlTW K x lo hi H Q
theorem sl_tupW:SlR X (fun x lo hi H Q=>J_rSlTW X.K x lo hi H Q):=by
  intro pins s σ H x v vl vu lo hi sl Q I rx hs pl pu h
  rcases h with h | ⟨a,xs,rfl,hx,hw,q⟩
  · exact sl_tup pins s σ H x v vl vu lo hi sl Q I rx hs pl pu h
  cases rx
  obtain ⟨its,r,ht,hz⟩:=I.tuple hx
  have hlen:its.toArray.size=xs.length:=by rw [List.size_toArray];exact r.length.symm
  refine ⟨"tuple",_,PyProof.Rows.slot_tuple_getitem.lookup,ht.typeIs,?_⟩
  exact HT.getItem_tuple_all ht hs pl pu (by rw [hlen];exact hw) ⟨.ref a,H,I,rfl,q⟩
end
noncomputable def tTryU (K:PySem.W.Frag) (CH:Addr) (tb:XK→TS) (th:TS):TS:=fun D σ H =>
  tb (fun cls _ H'=>∃ C,cls = .ref C∧PySem.W.exmOne K (.ref C) (.ref CH)=some true∧∀ ea,H' ea=none→th D σ (upd H' ea (XO ea C))) D σ H
theorem ps_tryU {X:Cx} {body:List Stmt} {tb:XK→TS} {th:TS} {x:Str} {CH:Addr} {b₀ : Stmt} {suite:List Stmt} {np hpos pos:Pos} (hst:X.stack=X.env :: X.outer∧X.env.frame=some X.env.locals)
    (hg:Gl X x) (hm:X.mg x=some (.ref CH)) (hb:PSt X body tb)
    (hh:∀ ea:Addr,PSs (X.uncalm (X.A.mark (some (.ref ea))) fun _ _=>False) (b₀ :: suite) th) (hd:(x == ("__debug__" : Str))=false:=by decide) :
    PS X (.Try body [.ExceptHandler (some (.Name x np)) none (b₀ :: suite) hpos] [] [] pos) (tTryU X.K CH tb th):=by
  intro pins s σ H D I h
  refine wpAny_Try_except (wpAny_mono (hb _ pins s σ H D _ ?W I h) (fun f s1 q => ?_) fun _ _ z=>z)
  case W =>
    intro H0 s0 e s' I0 hx
    obtain ⟨ea,C,a0,B,H',rfl,fl,os,bare,hok,un,cov,_,_,C',hc,hex,hth⟩:=hx
    cases hc
    have hfr:X.A.frames=some (X.env :: X.outer):=by rw [I0.ok.frames,hst.1]
    have fl0:Heap.FlyingW B (X.env :: X.outer) ea (.ref C) a0 s'.heap:=by rw [← hst.1];exact fl
    refine wpAny_looks_onW hfr hst.2 fl0 fun h₄ held₄ sm₄ => ?_
    refine wpAny_landsW held₄ fun h₅ fl₅ sm₅ => ?_
    obtain ⟨o5,vs5,g1,g2,g3,_⟩:=fl₅.first
    obtain ⟨I5,hea⟩:=caught_inv (h5:=h₅) I0 fl os bare hok un cov fl₅.1 (sm₄.trans sm₅) ⟨o5,vs5,g1,g2,g3⟩
    have J5:Inv (X.uncalm (X.A.mark (some (.ref ea))) fun _ _=>False) pins σ (upd H' ea (XO ea C)) { s' with heap:=h₅ }:=I5.uncalm rfl
    refine wpAny_handleBy_cons (codeAny_handlers_test (ld_glob J5 hg hm ?_ hd)) (by intro q;cases q)
    have LT:PySem.W.Looks (model X.prog X.w) h₅ (typeOf (.ref ea)) (.ref C):=g2 ▸ (PySem.W.Looks.ld g1).andThen .now
    refine (PySem.W.exm_one (M:=model X.prog X.w) I5.kIn LT hex).at ?_
    show codeAny _ _ _ _ _
    refine codeAny_handlers_suite ?_
    refine lands_againW fl₅ fun h₆ fl₆ sm₆ => ?_
    obtain ⟨o6,vs6,j1,j2,j3,_⟩:=fl₆.first
    obtain ⟨I6,_⟩:=caught_inv (h5:=h₆) I0 fl os bare hok un cov fl₆.1 ((sm₄.trans sm₅).trans sm₆) ⟨o6,vs6,j1,j2,j3⟩
    refine wpAny_mono (hh ea pins _ _ _ _ (I6.uncalm rfl) (hth ea hea)) (fun f s8 q8 => ?_) fun _ _ z=>False.elim z
    have back:∀ {σ' H''} {s9:Shared},Inv (X.uncalm (X.A.mark (some (.ref ea))) fun _ _=>False) pins σ' H'' s9→Inv X pins σ' H'' s9:=fun J=>J.recalm I0.ok.hd rfl
    cases f with
    | next =>
      obtain ⟨σ',H'',J,q⟩:=q8
      exact ⟨_,_,back J,q⟩
    | brk =>
      obtain ⟨σ',H'',J,q⟩:=q8
      exact ⟨_,_,back J,q⟩
    | cont =>
      obtain ⟨σ',H'',J,q⟩:=q8
      exact ⟨_,_,back J,q⟩
    | ret u =>
      obtain ⟨v, σ',H'',J,r,q⟩:=q8
      exact ⟨v,_,_,back J,r,q⟩
  cases f with
  | next=>exact wpAny_execs_nil q
  | brk=>exact q
  | cont=>exact q
  | ret u=>exact q
end L2
namespace L2
open PySem PySem.Spec PyProof.Rows
noncomputable def stb (pl:List Nat) (led:Bool):SetTable := { mask:=7,place:=pl.toArray,dummies := #[],finger:=0,led:=led,moves:=0,plain:=true }
noncomputable def subsL:List Nat→List (List Nat)
  | [] => [[]]
  | x :: xs=>subsL xs ++ (subsL xs).map (x :: ·)
noncomputable def layC (led:Bool) (pl:List Nat) (k:Nat):Bool:=match (stb pl led).freeSlot (k:Int) with
  | some (j,false)=>decide (((stb pl led).put j).1=stb ((stb pl led).put j).1.place.toList led) && ((subsL (List.range 8)).contains ((stb pl led).put j).1.place.toList) && decide (((stb pl led).put j).1.place.toList.length=pl.length+1) && decide (((stb pl led).put j).2≤pl.length)
  | _=>false
noncomputable def layK (led:Bool) (k:Nat):Bool:=(subsL (List.range 8)).all fun pl=>decide (3 < pl.length) || layC led pl k
theorem lay_k0:∀ led:Bool,layK led 0=true:=by decide +kernel
theorem lay_k1:∀ led:Bool,layK led 1=true:=by decide +kernel
theorem lay_k2:∀ led:Bool,layK led 2=true:=by decide +kernel
theorem lay_k3:∀ led:Bool,layK led 3=true:=by decide +kernel
theorem lay_k4:∀ led:Bool,layK led 4=true:=by decide +kernel
theorem lay_k5:∀ led:Bool,layK led 5=true:=by decide +kernel
theorem lay_k6:∀ led:Bool,layK led 6=true:=by decide +kernel
theorem lay_k7:∀ led:Bool,layK led 7=true:=by decide +kernel
theorem lay_k8:∀ led:Bool,layK led 8=true:=by decide +kernel
theorem lay_k9:∀ led:Bool,layK led 9=true:=by decide +kernel
theorem lay_k10:∀ led:Bool,layK led 10=true:=by decide +kernel
theorem lay_k11:∀ led:Bool,layK led 11=true:=by decide +kernel
theorem lay_k12:∀ led:Bool,layK led 12=true:=by decide +kernel
theorem lay_k13:∀ led:Bool,layK led 13=true:=by decide +kernel
theorem lay_k14:∀ led:Bool,layK led 14=true:=by decide +kernel
theorem lay_k15:∀ led:Bool,layK led 15=true:=by decide +kernel
theorem lay_k (led:Bool):∀ k < 16,layK led k=true
  | 0,_=>lay_k0 led
  | 1,_=>lay_k1 led
  | 2,_=>lay_k2 led
  | 3,_=>lay_k3 led
  | 4,_=>lay_k4 led
  | 5,_=>lay_k5 led
  | 6,_=>lay_k6 led
  | 7,_=>lay_k7 led
  | 8,_=>lay_k8 led
  | 9,_=>lay_k9 led
  | 10,_=>lay_k10 led
  | 11,_=>lay_k11 led
  | 12,_=>lay_k12 led
  | 13,_=>lay_k13 led
  | 14,_=>lay_k14 led
  | 15,_=>lay_k15 led
  | n+16,h=>absurd h (by omega)
theorem lay_all:∀ led:Bool,((subsL (List.range 8)).all fun pl=>decide (3 < pl.length) || (List.range 16).all fun k=>layC led pl k)=true:=by
  intro led
  refine List.all_eq_true.mpr fun pl hp => ?_
  have q:=fun k hk=>List.all_eq_true.mp (lay_k led k hk) pl hp
  cases h:decide (3 < pl.length) with
  | true=>rfl
  | false =>
    refine List.all_eq_true.mpr fun k hk => ?_
    have:=q k (List.mem_range.mp hk)
    rw [h] at this
    exact this
noncomputable def slotL (pl:List Nat) (i:Nat):Nat:=match i with
  | 0=>0
  | i+1=>pl.getD i 0+1
theorem walk_all:((subsL (List.range 8)).all fun pl=>decide (4 < pl.length) || (List.range 5).all fun i=>decide (pl.length < i) || decide (SetTable.below pl.toArray (slotL pl i)=i))=true:=by decide +kernel
end L2
namespace L2
open PySem PySem.Spec PyProof.Rows
structure SetS (h:Heap) (a:Addr) (led:Bool) (es:Array (Int × Value)) (pl:List Nat) (ep:Nat) (σ : List Nat):Prop where
  at_:h.get? a=some { cls := .type "set",dict:=none,data := .set es ep (stb pl led),slots := #[] }
  len:es.size=pl.length
  mem:pl∈subsL (List.range 8)
  el:∀ e∈es.toList,∃ (k:Nat) (t:Tok),k < 16∧e=((k:Int),.int (k:Int) t)
  keys:(es.toList.map (·.1)).Perm (σ.map fun k:Nat=>(k:Int))
  nd : σ.Nodup
theorem hash_small:∀ k < 16,hashInt (k:Nat)=(k:Int):=by decide
theorem SetS.size {h:Heap} {a:Addr} {led:Bool} {es:Array (Int × Value)} {pl:List Nat} {ep:Nat} {σ : List Nat} (x:SetS h a led es pl ep σ):es.size = σ.length:=by
  have:=x.keys.length_eq
  simpa using this
theorem SetS.elems {prog:Program} {w:World} {h:Heap} {a:Addr} {led:Bool} {es:Array (Int × Value)} {pl:List Nat} {ep:Nat} {σ : List Nat} (x:SetS h a led es pl ep σ):ElemsOf (intKind prog w) es.toList:=fun e he=>by
  obtain ⟨k,t,hk,rfl⟩:=x.el e he
  exact ⟨⟨k,intKind_is _ _ _ _,(hash_small k hk).symm⟩,rfl⟩
theorem stb_fits {pl:List Nat} {led:Bool} {n:Nat} (h:n=pl.length) (h7:n≤7):(stb pl led).fits n=true:=by
  subst h
  simp only [SetTable.fits,SetTable.fill,stb,List.size_toArray]
  simp;exact h7
theorem SetS.fits {h:Heap} {a:Addr} {led:Bool} {es:Array (Int × Value)} {pl:List Nat} {ep:Nat} {σ : List Nat} (x:SetS h a led es pl ep σ) (h4 : σ.length≤7):(stb pl led).fits es.size=true :=
  stb_fits x.len (by rw [x.size];exact h4)
theorem lay_at {led:Bool} {pl:List Nat} (hp:pl∈subsL (List.range 8)) (h3:pl.length≤3) {k:Nat} (hk:k < 16) :
    ∃ j p pl',(stb pl led).freeSlot (k:Int)=some (j,false)∧(stb pl led).put j=(stb pl' led,p)∧pl'∈subsL (List.range 8)∧pl'.length=pl.length+1:=by
  have h1:=List.all_eq_true.mp (lay_all led) pl hp
  rw [Bool.or_eq_true] at h1
  rcases h1 with h1 | h1
  · exact absurd (of_decide_eq_true h1) (by omega)
  have h2:=List.all_eq_true.mp h1 k (List.mem_range.mpr hk)
  unfold layC at h2
  split at h2
  · rename_i j e
    simp only [Bool.and_eq_true,decide_eq_true_eq,List.contains_iff_mem] at h2
    obtain ⟨⟨⟨e1,e2⟩,e3⟩,_⟩:=h2
    exact ⟨j,_,_,e,Prod.ext e1 rfl,e2,e3⟩
  · cases h2
section
variable {prog:Program} {w:World} {A:Around} {E:Value→Shared→Prop} {s:Shared} {a:Addr} {led:Bool} {es:Array (Int × Value)} {pl:List Nat} {ep:Nat} {σ : List Nat}
theorem add_S {k:Nat} {t:Tok} {Q:Bool→Shared→Prop} (hS:SetS s.heap a led es pl ep σ) (hk:k < 16) (h3 : σ.length≤3)
    (h:∀ (b:Bool) (h':Heap) (es':Array (Int × Value)) (pl':List Nat) (ep':Nat),Heap.SameBut a s.heap h'→SetS h' a led es' pl' ep' (if k ∈ σ then σ else σ ++ [k])→Q b { s with heap:=h' }) :
    wpAny (model prog w) A (setAddHashed a (.int (k:Int) t) (hashInt (k:Int))) Q E s:=by
  have hf:=hS.fits (by omega)
  have hel:=hS.elems (prog:=prog) (w:=w)
  have hsz:=hS.size
  have hb:es.size < scanBound:=by rw [hsz];unfold scanBound;omega
  unfold setAddHashed setAddHashedIn
  refine wpAny_holding (wpAny_bind (wpAny_setState_of hS.at_ rfl hf ?_))
  dsimp only
  rw [byScan_of (knd:=intKind prog w) rfl hb hel,if_pos rfl]
  unfold setAddByScan
  refine wpAny_bind (wpAny_bind (wpAny_rule (wpAny_bind (wpAny_setScan_of (knd:=intKind prog w) (k:=(k:Int)) (intKind_is _ _ _ _) hS.at_ rfl hf hel ?_))))
  have key:k ∈ σ ↔ ∃ e∈es.toList,(intKind prog w).is (k:Int) e.2=true:=by
    constructor
    · intro hm
      have:(k:Int)∈es.toList.map (·.1):=hS.keys.mem_iff.mpr (List.mem_map.mpr ⟨k,hm,rfl⟩)
      obtain ⟨e,he,e1⟩:=List.mem_map.mp this
      obtain ⟨k',t',_,rfl⟩:=hS.el e he
      have e1:(k':Int)=k:=e1
      exact ⟨_,he,by rw [e1];exact intKind_is _ _ _ _⟩
    · rintro ⟨e,he,hi⟩
      obtain ⟨k',t',_,rfl⟩:=hS.el e he
      have e1:(k:Int)=k':=(intKind prog w).inj _ _ _ hi (intKind_is _ _ _ _)
      have:(k':Int) ∈ σ.map fun k:Nat=>(k:Int):=hS.keys.mem_iff.mp (List.mem_map.mpr ⟨_,he,rfl⟩)
      obtain ⟨k2,hk2,e2⟩:=List.mem_map.mp this
      have:k2=k:=by omega
      rw [← this];exact hk2
  cases hr:List.findIdx? (fun e=>(intKind prog w).is (k:Int) e.2) es.toList with
  | some j =>
    obtain ⟨hj,hpj,_⟩:=List.findIdx?_eq_some_iff_getElem.mp hr
    have hm:=key.mpr ⟨_,List.getElem_mem hj,hpj⟩
    have:=h false s.heap es pl ep (Heap.SameBut.refl _ _) (by rw [if_pos hm];exact hS)
    exact wpAny_pure (wpAny_pure this)
  | none =>
    have hm:k ∉ σ := fun z=>by
      obtain ⟨e,he,hp⟩:=key.mp z
      have:=List.findIdx?_eq_none_iff.mp hr e he
      rw [hp] at this;cases this
    obtain ⟨j,p,pl',e1,e2,e3,e4⟩:=lay_at (led:=led) hS.mem (by rw [← hS.len,hsz];exact h3) hk
    have hperm:=layNew_perm (stb pl led) es (hashInt (k:Int)) (.int (k:Int) t)
    have hh:=hash_small k hk
    have hsz1:(SetTable.insertAt es p ((k:Int),Value.int (k:Int) t)).size=pl'.length:=by
      have:(layNew (stb pl led) es (hashInt (k:Int)) (.int (k:Int) t)).1.toList.length=es.size+1:=by rw [hperm.length_eq];simp
      unfold layNew at this
      rw [hh,e1] at this
      dsimp only at this
      rw [e2] at this
      dsimp only at this
      rw [e4, ← hS.len]
      simpa using this
    have hfit:(stb pl' led).fits (SetTable.insertAt es p ((k:Int),Value.int (k:Int) t)).size=true:=stb_fits hsz1 (by rw [hsz1,e4, ← hS.len,hsz];omega)
    have hL:layNew (stb pl led) es (hashInt (k:Int)) (.int (k:Int) t)=(SetTable.insertAt es p ((k:Int),Value.int (k:Int) t),stb pl' led,false,false):=by
      unfold layNew
      rw [hh,e1]
      dsimp only
      rw [e2]
      dsimp only
      unfold SetTable.orStandIn
      rw [hfit,if_pos rfl];rfl
    rw [hL] at hperm ⊢
    rw [hh] at hperm
    generalize SetTable.insertAt es p ((k:Int),Value.int (k:Int) t)=es1 at hperm hsz1 hfit hL ⊢
    dsimp only
    refine wpAny_bind (wpAny_pure ?_)
    have htf:(stb pl' led).tooFull=false:=by
      have h5:pl'.length≤4:=by rw [e4, ← hS.len,hsz];omega
      simp only [SetTable.tooFull,SetTable.fill,stb,List.size_toArray]
      simp;omega
    have hpk:plainKind (Value.int (k:Int) t)=true:=rfl
    rw [if_pos (show (stb pl' led).plain=true from rfl),hashByValue_scannable 8 (show (Value.int (k:Int) t).scannable=true from rfl),hpk]
    refine wpAny_bind (wpAny_pure ?_)
    rw [if_pos rfl,htf]
    have ho1:(s.heap.update a (Obj.putSet es1 (stb pl' led))).get? a=some { cls := .type "set",dict:=none,data := .set es1 (ep+1) (stb pl' led),slots := #[] }:=by
      have:=Heap.get?_update_self (Obj.putSet es1 (stb pl' led)) hS.at_ (by rw [putSet_of es1 (stb pl' led) rfl];rfl)
      rw [putSet_of es1 (stb pl' led) rfl] at this;exact this
    refine wpAny_bind (wpAny_storeSet_of hS.at_ rfl ?_ (by rw [hsz1,e4, ← hS.len,hsz,sizeLine_eq];omega))
    rw [if_neg (show ¬ ((!false && false)=true) by decide)]
    have hp:es1.toList.Perm (es.toList ++ [((k:Int),Value.int (k:Int) t)]):=by simpa using hperm
    refine wpAny_pure (wpAny_pure (h true _ es1 pl' (ep+1) (Heap.SameBut.update ..) ⟨ho1,hsz1,e3,fun e he => ?_,?_,?_⟩))
    · rcases List.mem_append.mp (hp.mem_iff.mp he) with z | z
      · exact hS.el e z
      · exact ⟨k,t,hk,List.mem_singleton.mp z⟩
    · rw [if_neg hm,List.map_append]
      have:=hp.map (fun e:Int × Value=>e.1)
      rw [List.map_append] at this
      exact this.trans (hS.keys.append (List.Perm.refl _))
    · rw [if_neg hm,List.nodup_append]
      exact ⟨hS.nd,List.nodup_cons.mpr ⟨List.not_mem_nil,List.nodup_nil⟩,fun x hx y hy e=>hm (by rw [← List.mem_singleton.mp hy, ← e];exact hx)⟩
end
end L2
namespace L2
open PySem PySem.Spec PyProof.Rows
noncomputable def stp (σ : List Nat) (k:Nat):List Nat:=if k ∈ σ then σ else σ ++ [k]
noncomputable def ddS (val:Nat→Nat) (i:Nat):List Nat:=((List.range i).map val).foldl stp []
theorem ddS_succ (val:Nat→Nat) (i:Nat):ddS val (i+1)=stp (ddS val i) (val i):=by unfold ddS;rw [List.range_succ,List.map_append,List.foldl_append];rfl
theorem ddS_len (val:Nat→Nat):∀ i,(ddS val i).length≤i
  | 0=>Nat.le_refl 0
  | i+1=>by
    have ih:=ddS_len val i
    rw [ddS_succ];unfold stp
    split
    · omega
    · rw [List.length_append];exact Nat.succ_le_succ ih
theorem ddS_mem (val:Nat→Nat) (k:Nat):∀ i,k∈ddS val i↔∃ j,j < i∧val j=k
  | 0=>⟨(fun z=>nomatch z),fun ⟨j,hj,_⟩=>absurd hj (Nat.not_lt_zero j)⟩
  | i+1=>by
    have ih:=ddS_mem val k i
    have st:k∈ddS val (i+1)↔k∈ddS val i∨val i=k:=by
      rw [ddS_succ];unfold stp
      split
      · rename_i h
        exact ⟨.inl,fun z=>z.elim id fun e=>by rw [← e];exact h⟩
      · rw [List.mem_append,List.mem_singleton]
        exact ⟨fun z=>z.imp id Eq.symm,fun z=>z.imp id Eq.symm⟩
    rw [st,ih]
    constructor
    · rintro (⟨j,h1,h2⟩ | h)
      · exact ⟨j,Nat.lt_succ_of_lt h1,h2⟩
      · exact ⟨i,Nat.lt_succ_self i,h⟩
    · rintro ⟨j,h1,h2⟩
      rcases Nat.lt_or_ge j i with h | h
      · exact .inl ⟨j,h,h2⟩
      · have:j=i:=by omega
        exact .inr (by rw [← this];exact h2)
theorem SetS.moved {h h':Heap} {a:Addr} {led:Bool} {es:Array (Int × Value)} {pl:List Nat} {ep:Nat} {σ : List Nat} (x:SetS h a led es pl ep σ) (k:∀ o,h.get? a=some o→h'.get? a=some o):SetS h' a led es pl ep σ := ⟨k _ x.at_,x.len,x.mem,x.el,x.keys,x.nd⟩
section
variable {prog:Program} {w:World} {A:Around} {R:Result→Shared→Prop} {I:Addr} {fp wr:List Addr} {G:Array GenState→Array GenState→Prop} {n:Nat} {P:Nat→Value→Prop} {St:Nat→Shared→Prop}
theorem update_S (W:WalksS prog w A.in1 I fp wr G n P St) (S:Addr) (hSf:S ∉ fp) (val:Nat→Nat) (hval:∀ i v,P i v→∃ t,v = .int (val i:Int) t) (hv:∀ i,i < n→val i < 16) (hn:n≤4) (led:Bool) :
    ∀ (m i:Nat) (s:Shared) (es:Array (Int × Value)) (pl:List Nat) (ep:Nat),n - i=m→i≤n→St i s→SetS s.heap S led es pl ep (ddS val i) →
      (∀ s' es' pl' ep',Moved (S :: wr) G s s'→SetS s'.heap S led es' pl' ep' (ddS val n)→R (.ok (.ret .none)) s') →
      codeAny (model prog w) A (.builtin "set.update.loop" ⟨[.ref S,.ref I], []⟩) R s:=by
  have hSw:S ∉ wr:=fun z=>hSf (W.sub _ z)
  have up:∀ b∈wr,b∈S :: wr:=fun b z=>List.mem_cons_of_mem _ z
  intro m
  induction m with
  | zero =>
    intro i s es pl ep hm hi st hS hR
    obtain rfl:i=n:=by omega
    refine codeAny_builtin PyProof.Rows.F.entry_set_update_loop ?_
    rw [Around.under_plainId PyProof.Rows.F.plain_set_update_loop _]
    show wpAny _ A.in1 (pyNext (.ref I) >>= _) _ _ s
    refine wpAny_bind (W.done s _ _ st fun s' mv => ?_)
    exact wpAny_pure (hR s' es pl ep (mv.mono up) (hS.moved fun o e=>mv.heap S _ hSw e))
  | succ m ih =>
    intro i s es pl ep hm hi st hS hR
    have lt:i < n:=by omega
    refine codeAny_builtin PyProof.Rows.F.entry_set_update_loop ?_
    rw [Around.under_plainId PyProof.Rows.F.plain_set_update_loop _]
    show wpAny _ A.in1 (pyNext (.ref I) >>= _) _ _ s
    refine wpAny_bind (W.item i s _ _ lt st fun v s' pv st' mv => ?_)
    obtain ⟨t,rfl⟩:=hval i v pv
    have hS':=hS.moved (h':=s'.heap) fun o e=>mv.heap S _ hSw e
    show wpAny _ A.in1 (holding [Value.int (val i:Int) t] (setAdd S (.int (val i:Int) t)) >>= _) _ _ s'
    refine wpAny_bind (wpAny_holding ?_)
    unfold setAdd
    refine wpAny_holding (wpAny_bind ((intKind prog w).pyHash (k:=(val i:Int)) (intKind_is _ _ _ _) ?_))
    have l3:(ddS val i).length≤3:=by have:=ddS_len val i;omega
    refine add_S (s := { s' with toks:=s'.toks+1 }) hS' (hv i lt) l3 fun b h' es' pl' ep' sb hS2 => ?_
    have hS2:SetS h' S led es' pl' ep' (ddS val (i+1)):=by rw [ddS_succ];exact hS2
    refine wpAny_pure ⟨plainId_quiet PyProof.Rows.F.plain_set_update_loop _,ih (i+1) _ es' pl' ep' (by omega) lt (W.frame _ s' _ _ st' (Nat.le_succ _) fun b hb o e => ?_) hS2 fun s'' es'' pl'' ep'' mv2 hS3 => ?_⟩
    · exact (sb.2 b fun z=>hSf (by rw [← z];exact hb)).trans e
    · refine hR s'' es'' pl'' ep'' (Moved.trans W.gtrans ((mv.mono up).then_heap (Nat.le_succ _) fun b o hb e => ?_) mv2) hS3
      exact (sb.2 b fun z=>hb (by rw [z];exact List.mem_cons_self)).trans e
end
end L2
namespace L2
open PySem PySem.Spec PyProof.Rows
noncomputable abbrev newSetO (led:Bool):Obj := { cls := .type "set",dict:=none,data := .set #[] 0 (.fresh 0 0 led) }
theorem SetS.start {h:Heap} {a:Addr} {led:Bool} (e:h.get? a=some (newSetO led)):SetS h a led #[] [] 0 [] :=
  ⟨e,rfl,by decide,fun e he=>by simp at he,List.Perm.refl _,List.nodup_nil⟩
section
variable {prog:Program} {w:World} {A:Around} {E:Value→Shared→Prop} {s:Shared}
noncomputable abbrev byT (w:World):Bool:=w.params.followText "set-order"
theorem new_S (v:Value) {Q₁ : Value→Shared→Prop} (h:Q₁ (.ref s.heap.objs.size) { s with heap:=s.heap.push (newSetO (!byT w)) }) :
    codeAny (model prog w) A (.call (.builtin "set.__new__") ⟨[.type "set",v], []⟩) (wants Q₁ E) s:=by
  refine codeAny_of_tree ?_
  show wpAny _ A.in1 (checkBuiltinCall "set.__new__" ⟨[.type "set",v], []⟩ >>= fun _=>again (.builtin "set.__new__" ⟨[.type "set",v], []⟩)) _ _ s
  refine wpAny_bind (wpAny_of_eq (PySem.F.newCall_set_1 v) (wpAny_pure ⟨plainId_quiet PySem.F.plain_set_new _,codeAny_builtin PySem.F.entry_set_new ?_⟩))
  rw [Around.under_plainId PySem.F.plain_set_new _]
  unfold Builtin.«set.__new__» Builtin.Frozenset.newClass
  have hsub:=sub_set_self
  obtain ⟨hp,g,d,tk,os⟩:=s
  dsimp only
  wp_walk
  refine wpAny_askSetting (wpAny_pure ?_)
  dsimp only
  simp only [newObj]
  exact wpAny_bind (wpAny_alloc (wpAny_pure (wpAny_pure h)))
end
end L2
namespace L2
open PySem PySem.Spec PyProof.Rows
section
variable {prog:Program} {w:World} {A:Around} {E:Value→Shared→Prop} {s:Shared}
theorem call_set_S {l:Addr} {items:Array Value} {val:Nat→Nat} {Q:Value→Shared→Prop} (hh:A.handled=none) (hl:s.heap.IsList l items) (hval:∀ (i:Nat) (v:Value),items[i]? = some v→∃ t,v = .int (val i:Int) t) (hv:∀ i,i < items.size→val i < 16) (h4:items.size≤4)
    (h:∀ (h':Heap) (tk:Nat) (es:Array (Int × Value)) (pl:List Nat) (ep:Nat),SetS h' s.heap.objs.size (!byT w) es pl ep (ddS val items.size)→(∀ b o,s.heap.get? b=some o→h'.get? b=some o)→Q (.ref s.heap.objs.size) { s with heap:=h',toks:=tk }) :
    wpAny (model prog w) A (call (.type "set") [.ref l]) Q E s:=by
  obtain ⟨cc,tl,mro⟩:=PySem.F.called_set.mro
  have mk:=PySem.F.called_set.made
  have sb:=PySem.F.called_set.sub
  refine wpAny_call (codeAny_of_tree ?_)
  show wpAny _ _ (callAny (.type "set") _) _ _ _
  refine wpAny_pure ⟨Code.quiet_builtin _ (by decide +kernel),codeAny_builtin PySem.F.entry_type_call ?_⟩
  rw [Around.under_plain (weight_type_call_type "set" [.ref l] []) rfl]
  have n1:=PySem.F.called_set.notType
  have n2:=PySem.F.called_set.canCreate
  have n3:=PySem.F.typeCall_set_1 (.ref l)
  repeat (any_goals (first | assumption | wp_step))
  refine codeAny_mono (new_S (.ref l) (E:=E) (Q₁ := fun obj s₁ => obj = .ref s.heap.objs.size∧s₁ = { s with heap:=s.heap.push (newSetO (!byT w)) }) ⟨rfl,rfl⟩) fun r s₁ hr => ?_
  cases r with
  | error e=>exact hr
  | ok fl =>
    cases fl with
    | ret obj =>
      obtain ⟨rfl,rfl⟩:=hr
      have hS:(s.heap.push (newSetO (!byT w))).get? s.heap.objs.size=some (newSetO (!byT w)):=Heap.get?_push_size _ rfl
      have hT:Shared.TypeIs { s with heap:=s.heap.push (newSetO (!byT w)) } (.ref s.heap.objs.size) "set" := ⟨_,hS,rfl⟩
      have i1:=PySem.F.called_set.init.lookup
      have i2:=PySem.F.called_set.init.bind (.ref s.heap.objs.size)
      repeat (any_goals (first | assumption | wp_step))
      refine codeAny_mono (codeAny_call_builtin (R:=wants (fun r s₂ => r = .none∧∃ h' tk es pl ep,s₂ = { s with heap:=h',toks:=tk }∧SetS h' s.heap.objs.size (!byT w) es pl ep (ddS val items.size)∧(∀ b o,s.heap.get? b=some o→h'.get? b=some o)) E) PySem.F.called_set.init.plain PySem.F.entry_set_init (check_set_init_1 hT ?_)) fun r₂ s₂ hr₂ => ?_
      · obtain ⟨⟨oc,od,odt,osl⟩,hol,hcl,nl,hdl⟩:=hl
        simp only at hcl hdl
        subst hcl;subst hdl
        have hol':(s.heap.push (newSetO (!byT w))).get? l=some { cls := .type "list",dict:=od,data := .seq items nl,slots:=osl }:=Heap.get?_push_of_some _ hol
        have q1:=PySem.F.sub_list_set
        have q2:=PySem.F.sub_list_frozenset
        have q3:(Value.type "list" == Value.type "dict")=false:=by decide
        have hl1:(s.heap.push (newSetO (!byT w))).IsList l items:=⟨_,hol',rfl,nl,rfl⟩
        unfold Builtin.«set.__init__» noKeywords Builtin.Frozenset.updateFrom
        generalize hPI:pyIter=PI
        wp_walk
        subst hPI
        refine wpAny_pyIter_list hl1 (wpAny_bind (wpAny_runValue ?_))
        have lS:l < s.heap.objs.size:=Heap.lt_size hol
        have hI:l≠(s.heap.push (newSetO (!byT w))).objs.size:=by rw [Heap.size_push];exact Nat.ne_of_lt (Nat.lt_succ_of_lt lS)
        have hSf:s.heap.objs.size ∉ [(s.heap.push (newSetO (!byT w))).objs.size,l]:=fun hm=>by
          rw [Heap.size_push] at hm
          rcases List.mem_cons.mp hm with z | z
          · exact Nat.lt_irrefl _ (Nat.lt_of_lt_of_le (Nat.lt_succ_self _) (Nat.le_of_eq z.symm))
          · exact Nat.ne_of_gt lS (List.mem_singleton.mp z)
        refine update_S ((Walks.list (by simp [hh]) _ l hI items).toS) s.heap.objs.size hSf val hval hv h4 (!byT w) items.size 0 _ #[] [] 0 rfl (Nat.zero_le _) ⟨⟨_,Heap.get?_push_size _ rfl,rfl,rfl⟩,hl1.push _⟩ (SetS.start (Heap.get?_push_of_some _ hS)) ?_
        intro s' es pl ep mv hS'
        obtain ⟨h',g',d',tk',os'⟩:=s'
        obtain rfl:g'=s.gens:=mv.gens
        obtain rfl:d'=s.drawn:=mv.drawn
        obtain rfl:os'=s.os:=mv.os
        show wpAny _ _ _ _ _ _
        refine wpAny_pure ?_
        show wpAny _ _ (ret Value.none) _ _ _
        refine wpAny_pure ⟨rfl,h',tk',es,pl,ep,rfl,hS',fun b o e=>mv.heap b o (fun hm => ?_) (Heap.get?_push_of_some _ (Heap.get?_push_of_some _ e))⟩
        have lb:=Heap.lt_size e
        rcases List.mem_cons.mp hm with z | z
        · exact Nat.ne_of_lt lb z
        · rw [List.mem_singleton.mp z,Heap.size_push] at lb
          exact Nat.not_succ_le_self _ (Nat.le_of_lt lb)
      · cases r₂ with
        | error e=>exact hr₂
        | ok fl₂ =>
          cases fl₂ with
          | ret r =>
            obtain ⟨rfl,h',tk,es,pl,ep,rfl,hS',hk'⟩:=hr₂
            repeat (any_goals (first | assumption | wp_step))
            exact h _ _ es pl ep hS' hk'
          | next=>exact False.elim hr₂
          | brk=>exact False.elim hr₂
          | cont=>exact False.elim hr₂
    | next=>exact False.elim hr
    | brk=>exact False.elim hr
    | cont=>exact False.elim hr
end
end L2
namespace L2
open PySem PySem.Spec PyProof.Rows
theorem slot_si_next:Slot "set_iterator" "__next__" "set_iterator.__next__" :=
  .of (owner := "set_iterator") (n := "__next__") (by rw [typeLookup_type,builtinLookup_eq_fast];kernel_rfl) (by decide +kernel) (by decide +kernel) (by decide +kernel) (by first | exact .inl (by decide +kernel) | exact .inr (by decide +kernel)) (by rw [isSubtype_type];kernel_rfl)
theorem entry_si_next:entryFor table "set_iterator.__next__" = some Builtin.«set_iterator.__next__» := entryFor_of_tree (by kernel_rfl)
theorem args_si_next (a:Value):argsOk "set_iterator.__next__" ⟨[a], []⟩:=by unfold argsOk;kernel_rfl
theorem entry_s_iter:entryFor table "set.__iter__" = some Builtin.«frozenset.__iter__» :=
  entryFor_alias (id' := "frozenset.__iter__") (by kernel_rfl) (by first | rfl | decide +kernel | (unfold String.splitOn;simp +decide [String.splitOnAux])) (by decide +kernel) (by kernel_rfl)
noncomputable abbrev IsSI (h:Heap) (I a:Addr) (slot i n ep:Nat):Prop:=h.get? I=some { cls := .type "set_iterator",dict:=none,data := .fields #[.int slot 0,.int i 0,.ref a,.int n 0,.int ep 0],slots := #[] }
section
variable {prog:Program} {w:World} {A:Around} {E:Value→Shared→Prop} {s:Shared} {a:Addr} {es:Array (Int × Value)} {pl:List Nat} {ep:Nat} {σ : List Nat}
theorem iter_S {Q:Value→Shared→Prop} (hS:SetS s.heap a (!byT w) es pl ep σ) (h4 : σ.length≤4)
    (h:Q (.ref s.heap.objs.size) { s with heap:=s.heap.push { cls := .type "set_iterator",dict:=none,data := .fields #[.int 0 0,.int 0 0,.ref a,.int es.size 0,.int ep 0],slots := #[] } }):wpAny (model prog w) A (pyIter (.ref a)) Q E s:=by
  have ty:s.TypeIs (.ref a) "set" := ⟨_,hS.at_,rfl⟩
  have hf:=hS.fits (by omega)
  refine wpAny_pyIter_slot ty PySem.F.slot_set_iter (wpAny_call_entry PySem.F.slot_set_iter ty entry_s_iter ?_ (PySem.F.args_set_iter_1 _))
  show wpAny _ _ (Builtin.Frozenset.sizeOf a >>= _) _ _ s
  unfold Builtin.Frozenset.sizeOf setEntries
  refine wpAny_bind (wpAny_bind (wpAny_bind (wpAny_setState_of hS.at_ rfl hf (wpAny_pure (wpAny_pure ?_)))))
  refine wpAny_bind ?_
  unfold setDrawn
  refine wpAny_bind (wpAny_setState_of hS.at_ rfl hf ?_)
  unfold setsByText
  refine wpAny_bind (wpAny_bind (wpAny_askSetting (wpAny_pure (wpAny_pure ?_))))
  dsimp only
  refine wpAny_ite_split (fun z=>absurd (Bool.and_eq_true_iff.mp z).2 Bool.false_ne_true) (fun _ => ?_)
  refine wpAny_bind (wpAny_pure ?_)
  refine wpAny_bind (wpAny_setEpoch_of hS.at_ rfl hf ?_)
  refine wpAny_bind (wpAny_newObj_type ?_)
  refine wpAny_pure ⟨_,rfl, "set_iterator",_,⟨_,Heap.get?_push_size _ rfl,rfl⟩,slot_si_next.lookup,h⟩
noncomputable def ordS (w:World) (a:Addr) (ep:Nat) (es:Array (Int × Value)):Array (Int × Value):=if byT w then pickOrder (w.params.setOrder a ep) es else es
noncomputable def slotS (w:World) (pl:List Nat) (i:Nat):Nat:=if byT w then 0 else slotL pl i
theorem pick_go {α : Type} (next:Nat→Nat):∀ (n k:Nat) (l:List α) (out:Array α),l.length=n→(pickOrder.go next n k l out).toList.Perm (out.toList ++ l)
  | 0,k,l,out,h=>by
    rw [List.eq_nil_of_length_eq_zero h,List.append_nil];exact List.Perm.refl _
  | n+1,k,l,out,h=>by
    have hp:0 < l.length:=by omega
    have hm:next k % l.length < l.length:=Nat.mod_lt _ hp
    show (match l[next k % l.length]? with | some x=>pickOrder.go next n (k+1) (l.eraseIdx (next k % l.length)) (out.push x) | none=>out).toList.Perm _
    rw [List.getElem?_eq_getElem hm]
    refine (pick_go next n (k+1) _ _ (by rw [List.length_eraseIdx_of_lt hm];omega)).trans ?_
    rw [Array.toList_push,List.append_assoc]
    refine List.Perm.append_left _ ?_
    rw [List.eraseIdx_eq_take_drop_succ]
    have e:l=l.take (next k % l.length) ++ l[next k % l.length] :: l.drop (next k % l.length+1):=by
      rw [← List.drop_eq_getElem_cons hm,List.take_append_drop]
    exact (List.perm_middle (l₁ := l.take (next k % l.length)) (l₂ := l.drop (next k % l.length+1)) (a:=l[next k % l.length])).symm.trans (List.Perm.of_eq e.symm)
theorem ord_perm (w:World) (a:Addr) (ep:Nat) (es:Array (Int × Value)):(ordS w a ep es).toList.Perm es.toList:=by
  unfold ordS
  split
  · have:=pick_go (w.params.setOrder a ep) es.size 0 es.toList #[] (by simp)
    unfold pickOrder
    simpa using this
  · exact List.Perm.refl _
theorem ord_size (w:World) (a:Addr) (ep:Nat) (es:Array (Int × Value)):(ordS w a ep es).size=es.size:=by
  have:=(ord_perm w a ep es).length_eq
  simpa using this
theorem below_at {pl:List Nat} (hp:pl∈subsL (List.range 8)) (h4:pl.length≤4) {i:Nat} (hi:i≤pl.length):SetTable.below pl.toArray (slotL pl i)=i:=by
  have h1:=List.all_eq_true.mp walk_all pl hp
  rw [Bool.or_eq_true] at h1
  rcases h1 with h1 | h1
  · exact absurd (of_decide_eq_true h1) (by omega)
  have h2:=List.all_eq_true.mp h1 i (List.mem_range.mpr (by omega))
  rw [Bool.or_eq_true] at h2
  rcases h2 with h2 | h2
  · exact absurd (of_decide_eq_true h2) (by omega)
  · exact of_decide_eq_true h2
theorem next_S {i:Nat} {Q:Option (Value × Nat)→Shared→Prop} (hS:SetS s.heap a (!byT w) es pl ep σ) (h4 : σ.length≤4) (hi:i≤es.size)
    (h:Q ((ordS w a ep es)[i]?.map fun e=>(e.2,slotS w pl (i+1))) s):wpAny (model prog w) A (setNext a (slotS w pl i) i ep) Q E s:=by
  have hf:=hS.fits (by omega)
  unfold setNext
  refine wpAny_bind (wpAny_setState_of hS.at_ rfl hf ?_)
  dsimp only
  unfold setsByText
  refine wpAny_bind (wpAny_bind (wpAny_askSetting (wpAny_pure ?_)))
  cases hb:byT w with
  | true =>
    have hb':w.params.followText "set-order" = true:=hb
    dsimp only
    refine wpAny_ite_split (fun _ => ?_) (fun z=>absurd hb' z)
    refine wpAny_ite_split (fun z=>absurd z (by simp)) (fun _ => ?_)
    refine wpAny_bind ?_
    unfold setWalk
    refine wpAny_bind (wpAny_setState_of hS.at_ rfl hf ?_)
    unfold setsByText
    refine wpAny_bind (wpAny_bind (wpAny_askSetting (wpAny_pure ?_)))
    refine wpAny_ite_split (fun _ => ?_) (fun z=>absurd hb' z)
    refine wpAny_bind (wpAny_askSetting (wpAny_pure (wpAny_pure ?_)))
    have eo:ordS w a ep es=pickOrder (w.params.setOrder a ep) es:=if_pos hb
    have es1:slotS w pl i=0:=if_pos hb
    have es2:slotS w pl (i+1)=0:=if_pos hb
    rw [eo,es2] at h
    rw [es1]
    exact h
  | false =>
    have hb':w.params.followText "set-order" = false:=hb
    dsimp only
    refine wpAny_ite_split (fun z=>by rw [show ({ program:=(model prog w).prog,params:=(model prog w).w.params }:Setting).params.followText "set-order" = false from hb'] at z;cases z) (fun _ => ?_)
    refine wpAny_ite_split (fun z=>absurd z Bool.false_ne_true) (fun _ => ?_)
    refine wpAny_bind (wpAny_ite_split (fun z=>absurd z Bool.false_ne_true) (fun _=>wpAny_pure ?_))
    refine wpAny_pure ?_
    have hlen:=hS.len
    have eo:ordS w a ep es=es:=if_neg (by rw [hb];decide)
    have e1:slotS w pl i=slotL pl i:=if_neg (by rw [hb];decide)
    have e2:slotS w pl (i+1)=pl.getD i 0+1:=if_neg (by rw [hb];decide)
    have eb:=below_at hS.mem (by rw [← hlen,hS.size];exact h4) (i:=i) (by omega)
    rw [eo,e2] at h
    show Q (match es[SetTable.below pl.toArray (slotS w pl i)]?,pl.toArray[SetTable.below pl.toArray (slotS w pl i)]? with
      | some (_,x),some j=>some (x,j+1)
      | _,_=>none) s
    rw [e1,eb]
    by_cases lt:i < es.size
    · have l2:i < pl.length:=by omega
      rw [Array.getElem?_eq_getElem lt] at h ⊢
      rw [List.getElem?_toArray,List.getElem?_eq_getElem l2]
      rw [List.getD_eq_getElem?_getD,List.getElem?_eq_getElem l2] at h
      exact h
    · rw [Array.getElem?_eq_none (by omega)] at h ⊢
      exact h
end
end L2
namespace L2
open PySem PySem.Spec PyProof.Rows
end L2
namespace L2
open PySem PySem.Spec PyProof.Rows
section
variable {prog:Program} {w:World} {A:Around} {E:Value→Shared→Prop} {s:Shared}
theorem stop_it {α : Type} {Q : α → Shared→Prop} (hh:A.handled=none) (hE:∀ h' e,(∀ c o,s.heap.get? c=some o→h'.get? c=some o)→(∃ o,h'.get? e=some o∧o.cls = .type "StopIteration")→E (.ref e) { s with heap:=h' }) :
    wpAny (model prog w) A (Builtin.SmallTypes.stopIteration:Sem α) Q E s:=by
  show wpAny _ _ (newExc (.type "StopIteration") [] >>= _) _ _ _
  simp only [newExc,newTuple]
  refine wpAny_bind ?_
  wp_walk
  simp only [raiseNew]
  refine wpAny_bind (wpAny_handled ?_)
  rw [hh]
  refine wpAny_bind (wpAny_pure (wpAny_throw ?_))
  exact hE _ _ (fun c o e=>Heap.get?_push_of_some _ (Heap.get?_push_of_some _ e)) ⟨_,Heap.get?_push_size _ rfl,rfl⟩
end
end L2
namespace L2
open PySem PySem.Spec PyProof.Rows
section
variable {prog:Program} {w:World} {A:Around} {E:Value→Shared→Prop} {s:Shared} {a I:Addr} {es:Array (Int × Value)} {pl:List Nat} {ep:Nat} {σ : List Nat} {i:Nat}
theorem pick_S {e:Int × Value} {Q:Option Value→Shared→Prop} (hS:SetS s.heap a (!byT w) es pl ep σ) (h4 : σ.length≤4) (hI:IsSI s.heap I a (slotS w pl i) i es.size ep) (hi:i≤es.size) (hIa:I≠a) (hx:(ordS w a ep es)[i]? = some e)
    (hQ:∀ h',IsSI h' I a (slotS w pl (i+1)) (i+1) es.size ep→Heap.SameBut I s.heap h'→Q (some e.2) { s with heap:=h' }):wpAny (model prog w) A (pyNext (.ref I)) Q E s:=by
  have ty:s.TypeIs (.ref I) "set_iterator" := ⟨_,hI,rfl⟩
  have hf:=hS.fits (by omega)
  unfold pyNext
  refine wpAny_bind (wpAny_attempt (wpAny_callSpecial?_slot (name:=Str.ofString "__next__") ty slot_si_next (wpAny_call_entry slot_si_next ty entry_si_next ?_ (args_si_next _))))
  show wpAny _ _ (fieldsOf (.ref I) >>= _) _ _ s
  refine wpAny_bind (wpAny_fieldsOf hI rfl ?_)
  show wpAny _ _ (setEntries a >>= _) _ _ s
  unfold setEntries
  refine wpAny_bind (wpAny_bind (wpAny_setState_of hS.at_ rfl hf (wpAny_pure ?_)))
  dsimp only
  refine wpAny_ite_split (fun z=>absurd z (by simp)) (fun _ => ?_)
  simp only [Int.toNat_natCast]
  refine wpAny_bind (next_S hS h4 hi ?_)
  rw [hx]
  dsimp only [Option.map]
  refine wpAny_bind (wpAny_setField_rec hI (by simp) fun g1 z1 s1 => ?_)
  refine wpAny_bind (wpAny_setField_rec z1 (by simp) fun g2 z2 s2 => ?_)
  refine wpAny_pure ⟨_,rfl,wpAny_pure (hQ g2 ?_ (s1.trans s2))⟩
  exact z2
theorem done_S {Q:Option Value→Shared→Prop} (hh:A.handled=none) (hS:SetS s.heap a (!byT w) es pl ep σ) (h4 : σ.length≤4) (hI:IsSI s.heap I a (slotS w pl i) i es.size ep) (hi:i≤es.size) (hx:(ordS w a ep es)[i]? = none)
    (hQ:∀ h',(∀ c o,c≠I→s.heap.get? c=some o→h'.get? c=some o)→Q none { s with heap:=h' }):wpAny (model prog w) A (pyNext (.ref I)) Q E s:=by
  have ty:s.TypeIs (.ref I) "set_iterator" := ⟨_,hI,rfl⟩
  have hf:=hS.fits (by omega)
  unfold pyNext
  refine wpAny_bind (wpAny_attempt (wpAny_callSpecial?_slot (name:=Str.ofString "__next__") ty slot_si_next (wpAny_call_entry slot_si_next ty entry_si_next ?_ (args_si_next _))))
  show wpAny _ _ (fieldsOf (.ref I) >>= _) _ _ s
  refine wpAny_bind (wpAny_fieldsOf hI rfl ?_)
  show wpAny _ _ (setEntries a >>= _) _ _ s
  unfold setEntries
  refine wpAny_bind (wpAny_bind (wpAny_setState_of hS.at_ rfl hf (wpAny_pure ?_)))
  dsimp only
  refine wpAny_ite_split (fun z=>absurd z (by simp)) (fun _ => ?_)
  simp only [Int.toNat_natCast]
  refine wpAny_bind (next_S hS h4 hi ?_)
  rw [hx]
  dsimp only [Option.map]
  refine wpAny_bind (wpAny_setField_rec hI (by simp) fun g1 z1 s1 => ?_)
  refine (show wpAny _ _ (Builtin.SmallTypes.stopIteration:Sem Fin) _ _ _ from stop_it hh fun h' e hk he => ?_)
  obtain ⟨o,ho,hc⟩:=he
  exact wpAny_bind (wpAny_isInstance (T := "StopIteration") (b:=true) ⟨o,ho,hc⟩ isSubtype_stop (wpAny_pure (hQ _ fun c o hc e=>hk _ _ (s1.extBut _ _ hc e))))
end
end L2
namespace L2
open PySem PySem.Spec PyProof.Rows
theorem slot_si_iter:Slot "set_iterator" "__iter__" "set_iterator.__iter__" :=
  .of (owner := "set_iterator") (n := "__iter__") (by rw [typeLookup_type,builtinLookup_eq_fast];kernel_rfl) (by decide +kernel) (by decide +kernel) (by decide +kernel) (by first | exact .inl (by decide +kernel) | exact .inr (by decide +kernel)) (by rw [isSubtype_type];kernel_rfl)
theorem args_si_iter (a:Value):argsOk "set_iterator.__iter__" ⟨[a], []⟩:=by unfold argsOk;kernel_rfl
theorem entry_si_iter:entryFor table "set_iterator.__iter__" = some Builtin.«dict_keyiterator.__iter__» :=
  entryFor_alias (id' := "dict_keyiterator.__iter__") (by kernel_rfl) (by first | rfl | decide +kernel | (unfold String.splitOn;simp +decide [String.splitOnAux])) (by decide +kernel) (by kernel_rfl)
section
variable {prog:Program} {w:World} {A:Around} {E:Value→Shared→Prop} {s:Shared} {a I:Addr} {es:Array (Int × Value)} {pl:List Nat} {ep:Nat} {σ : List Nat} {i:Nat}
theorem walk_S (hh:A.handled=none) (hIa:I≠a) (h4 : σ.length≤4):WalksS prog w A I [I,a] [I] (fun x y=>y=x) es.size (fun i v=>(ordS w a ep es)[i]?.map (·.2)=some v)
    (fun i s=>i≤es.size∧SetS s.heap a (!byT w) es pl ep σ ∧ IsSI s.heap I a (slotS w pl i) i es.size ep) where
  sub:=fun b hb=>by rw [List.mem_singleton.mp hb];exact List.mem_cons_self
  grefl:=fun _=>rfl
  gtrans:=fun _ _ _ e1 e2=>e2.trans e1
  frame:=fun i s h' tk st _ k=>⟨st.1,st.2.1.moved fun o e=>k a (List.mem_cons_of_mem _ List.mem_cons_self) o e,k I List.mem_cons_self _ st.2.2⟩
  item:=fun i s Q E lt st hQ=>by
    obtain ⟨e,he⟩:∃ e,(ordS w a ep es)[i]? = some e:=⟨_,Array.getElem?_eq_getElem (by rw [ord_size];exact lt)⟩
    refine pick_S st.2.1 h4 st.2.2 st.1 hIa he fun h' hI' sb=>hQ _ _ (by rw [he];rfl) ⟨lt,st.2.1.moved fun o q=>sb.extBut _ _ (Ne.symm hIa) q,hI'⟩ ⟨fun b o hb q=>sb.extBut _ _ (fun z=>hb (by rw [z];exact List.mem_cons_self)) q,rfl,rfl,rfl,Nat.le_refl _⟩
  done:=fun s Q E st hQ=>done_S hh st.2.1 h4 st.2.2 st.1 (Array.getElem?_eq_none (by rw [ord_size];exact Nat.le_refl _)) fun h' k=>hQ _ ⟨fun b o hb q=>k b o (fun z=>hb (by rw [z];exact List.mem_cons_self)) q,rfl,rfl,rfl,Nat.le_refl _⟩
  self:=fun i s Q E st hQ=>by
    have ty:s.TypeIs (.ref I) "set_iterator" := ⟨_,st.2.2,rfl⟩
    refine wpAny_pyIter_slot ty slot_si_iter (wpAny_call_entry slot_si_iter ty entry_si_iter ?_ (args_si_iter _))
    show wpAny _ _ (ret (.ref I)) _ _ s
    exact wpAny_pure ⟨_,rfl, "set_iterator",_,ty,slot_si_next.lookup,hQ⟩
theorem hint_S {Q:Bool→Shared→Prop} (hS:SetS s.heap a (!byT w) es pl ep σ) (h:Q false s):wpAny (model prog w) A (Builtin.List.listLengthHint (.ref a)) Q E s:=by
  have ty:s.TypeIs (.ref a) "set" := ⟨_,hS.at_,rfl⟩
  unfold Builtin.List.listLengthHint
  refine wpAny_bind (wpAny_specialOf ty PySem.F.slot_set_len.lookup ?_)
  generalize hid:("set.__len__" : String)=id0
  wp_delta
  rw [show splitId id0=some ("set", "__len__") from by subst hid;decide +kernel]
  subst hid
  refine wpAny_bind (wpAny_isInstance (T := "set") (b:=true) ty (by rw [isSubtype_type];kernel_rfl) ?_)
  refine wpAny_ite_split (fun z=>absurd z (by decide)) (fun _ => ?_)
  refine wpAny_ite_split (fun _ => ?_) (fun z=>absurd (by decide +kernel) z)
  refine wpAny_bind (wpAny_typeOf ty ?_)
  exact wpAny_pure h
theorem collect_S {Q:List Value→Shared→Prop} (hh:A.handled=none) (hS:SetS s.heap a (!byT w) es pl ep σ) (h4 : σ.length≤4)
    (hQ:∀ (h':Heap) (tk:Nat) (vs:List Value),(∀ b o,s.heap.get? b=some o→h'.get? b=some o)→s.heap.objs.size < h'.objs.size→vs=(ordS w a ep es).toList.map (·.2)→Q vs { s with heap:=h',toks:=tk }):wpAny (model prog w) A (collect (.ref a)) Q E s:=by
  have ty:s.TypeIs (.ref a) "set" := ⟨_,hS.at_,rfl⟩
  have la:a < s.heap.objs.size:=Heap.lt_size hS.at_
  unfold collect
  refine wpAny_bind (wpAny_runValue (codeAny_builtin entry_proto_collect' ?_))
  rw [Around.under_plainId PySem.F.plain_proto_collect _]
  show wpAny _ A.in1 (newList [] >>= fun l=>again (.builtin "list.__iadd__" ⟨[l,.ref a], []⟩)) _ _ s
  refine wpAny_bind (wpAny_newList (wpAny_pure ⟨Code.quiet_builtin _ (by decide +kernel),codeAny_builtin entry_list_iadd' ?_⟩))
  rw [Around.under_plainId PySem.F.plain_list_iadd _]
  show wpAny _ A.in1 (Builtin.List.listExtendWith (.ref s.heap.objs.size) (.ref a) (.ref s.heap.objs.size)) _ _ { s with heap:=s.heap.push (seqObj "list" #[] 0) }
  have up:∀ b o,s.heap.get? b=some o→(s.heap.push (seqObj "list" #[] 0)).get? b=some o:=fun b o e=>Heap.get?_push_of_some _ e
  have hS1:=hS.moved (up a)
  have hL:(s.heap.push (seqObj "list" #[] 0)).get? s.heap.objs.size=some (seqObj "list" #[] 0):=Heap.get?_push_size _ rfl
  have hsz1:(s.heap.push (seqObj "list" #[] 0)).objs.size=s.heap.objs.size+1:=size_push' _ _
  generalize s.heap.push (seqObj "list" #[] 0)=g1 at up hS1 hL hsz1 ⊢
  have ne:s.heap.objs.size≠a:=Nat.ne_of_gt la
  unfold Builtin.List.listExtendWith
  refine wpAny_bind (wpAny_typeOf (T := "set") ⟨_,hS1.at_,rfl⟩ ?_)
  have q1:Builtin.List.listSameRef (.ref s.heap.objs.size) (.ref a)=false:=by simp [Builtin.List.listSameRef,ne]
  have q2:(Value.type "set" == Value.type "list")=false:=by decide
  have q3:(Value.type "set" == Value.type "tuple")=false:=by decide
  simp only [q1,q2,q3,Bool.or_false,Bool.false_eq_true,if_false]
  refine wpAny_bind (iter_S (s := { s with heap:=g1 }) hS1 h4 ?_)
  have up2:∀ b o,g1.get? b=some o→(g1.push { cls := .type "set_iterator",dict:=none,data := .fields #[.int 0 0,.int 0 0,.ref a,.int es.size 0,.int ep 0],slots := #[] }).get? b=some o:=fun b o e=>Heap.get?_push_of_some _ e
  have hI:(g1.push { cls := .type "set_iterator",dict:=none,data := .fields #[.int 0 0,.int 0 0,.ref a,.int es.size 0,.int ep 0],slots := #[] }).get? g1.objs.size=some { cls := .type "set_iterator",dict:=none,data := .fields #[.int 0 0,.int 0 0,.ref a,.int es.size 0,.int ep 0],slots := #[] }:=Heap.get?_push_size _ rfl
  show wpAny _ _ _ _ _ { s with heap:=g1.push { cls := .type "set_iterator",dict:=none,data := .fields #[.int 0 0,.int 0 0,.ref a,.int es.size 0,.int ep 0],slots := #[] } }
  generalize g1.push { cls := .type "set_iterator",dict:=none,data := .fields #[.int 0 0,.int 0 0,.ref a,.int es.size 0,.int ep 0],slots := #[] }=g2 at up2 hI ⊢
  have hS2:=hS1.moved (up2 a)
  have hL2:=up2 _ _ hL
  refine wpAny_bind (wpAny_holding (hint_S (s := { s with heap:=g2 }) hS2 ?_))
  refine wpAny_ite_split (fun _ => ?_) (fun z=>absurd (by decide +kernel) z)
  refine wpAny_bind (wpAny_rule ?_)
  refine wpAny_bind ?_
  show wpAny _ A.in1 (updateSeq s.heap.objs.size (·.push .none) >>= fun _=>updateSeq s.heap.objs.size (·.pop)) _ _ _
  refine wpAny_bind (wpAny_updateSeq hL2 rfl ?_)
  have hL3:=Heap.get?_update_self (Obj.mapSeq (·.push Value.none)) hL2 rfl
  refine wpAny_updateSeq hL3 rfl ?_
  have hL4:=Heap.get?_update_self (Obj.mapSeq (·.pop)) hL3 rfl
  have oth:∀ b o,b≠s.heap.objs.size→g2.get? b=some o→((g2.update s.heap.objs.size (Obj.mapSeq (·.push Value.none))).update s.heap.objs.size (Obj.mapSeq (·.pop))).get? b=some o :=
    fun b o hb e=>(Heap.get?_update_other _ _ (Ne.symm hb)).trans ((Heap.get?_update_other _ _ (Ne.symm hb)).trans e)
  have neI:g1.objs.size≠s.heap.objs.size:=by rw [hsz1];exact Nat.succ_ne_self _
  have neIa:g1.objs.size≠a:=by rw [hsz1];exact Nat.ne_of_gt (Nat.lt_succ_of_lt la)
  have hS4:=hS2.moved (oth a · (Ne.symm ne))
  have hI4:=oth _ _ neI hI
  have lst:slotS w pl 0=0:=by unfold slotS slotL;split <;> rfl
  have hI5:IsSI ((g2.update s.heap.objs.size (Obj.mapSeq (·.push Value.none))).update s.heap.objs.size (Obj.mapSeq (·.pop))) g1.objs.size a (slotS w pl 0) 0 es.size ep:=by rw [lst];exact hI4
  refine wpAny_pure ⟨plainId_quiet PySem.F.plain_extend_loop _,codeAny_extend_loopS (walk_S (prog:=prog) (w:=w) (A:=A.in1) (I:=g1.objs.size) (a:=a) (es:=es) (pl:=pl) (ep:=ep) (σ := σ) (by simp [hh]) neIa h4) (by rw [hS.size,sizeLine_eq];omega) s.heap.objs.size (fun hm => ?_) _ es.size 0 _ #[] _ rfl (Nat.zero_le _) ⟨Nat.zero_le _,hS4,hI5⟩ hL4 (ItemsOf.nil _) fun s' acc' c' mv hs' hacc => ?_⟩
  · rcases List.mem_cons.mp hm with z | z
    · exact neI z.symm
    · exact ne (List.mem_singleton.mp z)
  show wpAny _ A (load s.heap.objs.size >>= _) _ _ s'
  refine wpAny_bind (wpAny_load hs' ?_)
  obtain ⟨h',g',d',tk',os'⟩:=s'
  obtain rfl:g'=s.gens:=mv.gens
  obtain rfl:d'=s.drawn:=mv.drawn
  obtain rfl:os'=s.os:=mv.os
  refine wpAny_pure (hQ h' tk' acc'.toList (fun b o e=>mv.heap b o (fun hm => ?_) (oth b o (Nat.ne_of_lt (Heap.lt_size e)) (up2 _ _ (up _ _ e)))) (Heap.lt_size hs') ?_)
  · rcases List.mem_cons.mp hm with z | z
    · exact Nat.ne_of_lt (Heap.lt_size e) z
    · rw [List.mem_singleton.mp z, ] at e
      exact absurd (Heap.lt_size e) (by rw [hsz1];exact Nat.not_lt.mpr (Nat.le_succ _))
  · refine List.ext_getElem? fun j => ?_
    rw [List.getElem?_map,Array.getElem?_toList,Array.getElem?_toList]
    cases hj:acc'[j]? with
    | none =>
      have:es.size≤j:=by rw [← hacc.1];exact Array.getElem?_eq_none_iff.mp hj
      rw [Array.getElem?_eq_none (by rw [ord_size];exact this)];rfl
    | some v=>exact (hacc.2 j v hj).symm
end
end L2
namespace L2
open PySem PySem.Spec PyProof.Rows
section
variable {prog:Program} {w:World} {A:Around} {E:Value→Shared→Prop} {s:Shared} {a:Addr} {es:Array (Int × Value)} {pl:List Nat} {ep:Nat} {σ : List Nat}
theorem ints_S:∀ l:List (Int × Value),(∀ e∈l,∃ (k:Nat) (t:Tok),k < 16∧e=((k:Int),.int (k:Int) t))→IntsAre (l.map (·.2)) (l.map (·.1))
  | [],_ => .nil
  | e :: l,h=>by
    obtain ⟨k,t,_,rfl⟩:=h e List.mem_cons_self
    exact .cons (k:Int) t (ints_S l fun x hx=>h x (List.mem_cons_of_mem _ hx))
theorem sorted_S {Q:Value→Shared→Prop} (hh:A.handled=none) (hS:SetS s.heap a (!byT w) es pl ep σ) (h4 : σ.length≤4)
    (hQ:∀ (h':Heap) (tk:Nat) (l:Addr) (e:Nat) (out:List Value) (ns':List Int),(∀ b o,s.heap.get? b=some o→h'.get? b=some o)→s.heap.objs.size≤l→h'.get? l=some (seqObj "list" out.toArray e)→IntsAre out ns'→ns'.Perm (σ.map fun k:Nat=>(k:Int))→ns'.Pairwise (· ≤ ·)→Q (.ref l) { s with heap:=h',toks:=tk }) :
    wpAny (model prog w) A (call (.builtin "sorted") [.ref a]) Q E s:=by
  refine Calls.call_function_entry kind_sorted plain_sorted entry_sorted (args_sorted1 _) ?_
  unfold Builtin.«sorted»
  refine wpAny_bind (m:=checkCount "sorted" 1 1 _) (wpAny_pure (wpAny_bind (collect_S (by simp [hh]) hS h4 fun g tk vs kp lg ev=>wpAny_bind (wpAny_newList ?_ (by rw [ev,List.length_map,Array.length_toList,ord_size,hS.size,sizeLine_eq];omega)))))
  have hI:IntsAre vs ((ordS w a ep es).toList.map (·.1)):=by
    rw [ev]
    exact ints_S _ fun e he=>hS.el e ((ord_perm w a ep es).mem_iff.mp he)
  have lv:vs.length = σ.length:=by rw [ev,List.length_map,Array.length_toList,ord_size,hS.size]
  have hL:(g.push (seqObj "list" vs.toArray 0)).get? g.objs.size=some (seqObj "list" vs.toArray 0):=Heap.get?_push_size _ rfl
  have up:∀ b o,g.get? b=some o→(g.push (seqObj "list" vs.toArray 0)).get? b=some o:=fun b o e=>Heap.get?_push_of_some _ e
  show wpAny _ _ _ _ _ { s with heap:=g.push (seqObj "list" vs.toArray 0),toks:=tk }
  refine wpAny_bind (wpAny_holding (wpAny_call_entry slot_list_sort ⟨_,hL,rfl⟩ entry_list_sort (list_sort_tree hL hI (by rw [lv];omega) fun out ns' a1 a2 a3=>⟨_,rfl,?_⟩) (args_list_sort _)))
  obtain ⟨e,he⟩:=sortedHeap_at (out:=out) hL
  refine wpAny_pure ⟨_,rfl,hQ _ tk g.objs.size e out.toList ns' (fun b o q => ?_) (Nat.le_of_lt lg) (by simpa using he) a1 ?_ a3⟩
  · have lb:b < g.objs.size:=Heap.lt_size (kp b o q)
    rw [sortedHeap_old (Nat.ne_of_lt lb) (by rw [size_push'];exact Nat.lt_succ_of_lt lb)]
    exact up b o (kp b o q)
  · exact a2.trans (((ord_perm w a ep es).map _).trans hS.keys)
end
noncomputable def SetPhi (w:World) (a:Addr) (σ : List Nat):Heap→Prop:=fun h=>∃ es pl ep,SetS h a (!byT w) es pl ep σ
theorem boot_set_:bootBuiltins "set" = some (.type "set"):=by decide +kernel
noncomputable def ddN (ns:List Nat):List Nat:=ddS (fun i=>ns.getD i 0) ns.length
theorem ddN_mem {ns:List Nat} {k:Nat}:k∈ddN ns↔k∈ns:=by
  unfold ddN
  rw [ddS_mem]
  constructor
  · rintro ⟨j,h1,h2⟩
    rw [List.getD_eq_getElem?_getD,List.getElem?_eq_getElem h1] at h2
    rw [← h2];exact List.getElem_mem h1
  · intro h
    obtain ⟨j,hj⟩:=List.getElem?_of_mem h
    exact ⟨j,(List.getElem?_eq_some_iff.mp hj).1,by rw [List.getD_eq_getElem?_getD,hj];rfl⟩
theorem ddN_len (ns:List Nat):(ddN ns).length≤ns.length:=ddS_len _ _
inductive J_setOf (kK:PySem.W.Frag) (w:World) (xs:List V) (H:Hp) (Q:VK):Prop
  | mk:∀ (p:Addr) (ns:List Nat),(xs = [.ref p])→(SqL kK H p (ns.map fun n:Nat=>V.int (n:Int)))→(ns.length≤4)→(∀ n∈ns,n < 16)→(∀ l,H l=none→Q (.ref l) (upd H l (.ext (SetPhi w l (ddN ns)))))→J_setOf kK w xs H Q
inductive J_sortedSet (w:World) (xs:List V) (H:Hp) (Q:VK):Prop
  | mk:∀ (p:Addr) (σ : List Nat),(xs = [.ref p])→(H p=some (.ext (SetPhi w p σ)))→(σ.length≤4)→(∀ (ms:List Nat) (l:Addr),ms.Pairwise (· < ·)→(∀ k,k∈ms↔k ∈ σ)→H l=none→Q (.ref l) (upd H l (.lst (ms.map fun n:Nat=>V.int (n:Int)))))→J_sortedSet w xs H Q
section
variable {X:Cx}
theorem call_setOf (hc:X.calm=true):CallR X (.type "set") (fun xs H Q=>J_setOf X.K X.w xs H Q):=by
  intro pins s σ H xs us Q I r h
  obtain ⟨p,ns,rfl,hS,h4,h16,q⟩:=h
  obtain ⟨u,rfl,rx⟩:=vals1 r
  cases rx
  obtain ⟨its,r',pl,hz⟩:=I.list hS
  have hlen:=r'.length
  rw [List.length_map] at hlen
  have hsz:its.toArray.size=ns.length:=by simp;omega
  refine call_set_S (val:=fun i=>ns.getD i 0) (I.ok.hd hc) pl.isList (fun i v hv => ?_) (fun i hi => ?_) (by omega) fun h' tk es pl' ep hS' kp => ?_
  · have hv:its[i]? = some v:=by simpa using hv
    have hi:i < ns.length:=by rw [hlen];exact (List.getElem?_eq_some_iff.mp hv).1
    have:=vals_at r' (j:=i) (x:=V.int ((ns[i]:Nat):Int)) (by rw [List.getElem?_map,List.getElem?_eq_getElem hi];rfl) hv
    obtain ⟨t,e⟩:=(show ∃ t,v=Value.int ((ns[i]:Nat):Int) t from this)
    exact ⟨t,by rw [e,List.getD_eq_getElem?_getD,List.getElem?_eq_getElem hi];rfl⟩
  · rw [hsz] at hi
    rw [List.getD_eq_getElem?_getD,List.getElem?_eq_getElem hi]
    exact h16 _ (List.getElem_mem hi)
  · rw [hsz] at hS'
    have hφ : SetPhi X.w s.heap.objs.size (ddN ns) h':=⟨es,pl',ep,hS'⟩
    refine ⟨.ref s.heap.objs.size,_,I.laid (t':=tk) kp (Nat.le_refl _) (show ObjOk X.prog X.w _ h' _ (.ext (SetPhi X.w s.heap.objs.size (ddN ns))) from ⟨hφ,⟨_,hS'.at_⟩,fun h1 h2 ⟨es,pl,ep,x⟩ k=>⟨es,pl,ep,x.moved k⟩⟩),rfl,q _ (I.hok.fresh (Nat.le_refl _))⟩
theorem ms_of {σ : List Nat} {ns':List Int} (nd : σ.Nodup) (hp:ns'.Perm (σ.map fun k:Nat=>(k:Int))) (hs:ns'.Pairwise (· ≤ ·)):∃ ms:List Nat,ns'=ms.map (fun n:Nat=>(n:Int))∧ms.Pairwise (· < ·)∧∀ k,k∈ms↔k ∈ σ := by
  have nn:∀ x∈ns',0≤x:=fun x hx=>by
    obtain ⟨k,_,rfl⟩:=List.mem_map.mp (hp.mem_iff.mp hx)
    exact Int.natCast_nonneg k
  have nd':ns'.Nodup:=hp.nodup_iff.mpr (by
    unfold List.Nodup
    rw [List.pairwise_map]
    exact nd.imp fun {x y} h e=>h (by omega))
  have e1:ns'=(ns'.map Int.toNat).map (fun n:Nat=>(n:Int)):=by
    rw [List.map_map]
    have:ns'.map ((fun n:Nat=>(n:Int)) ∘ Int.toNat)=ns'.map id:=List.map_congr_left fun x hx=>by have:=nn x hx;show ((x.toNat:Nat):Int)=x;omega
    rw [this,List.map_id]
  refine ⟨ns'.map Int.toNat,e1,?_,fun k => ?_⟩
  · rw [List.pairwise_map]
    have both:=hs.and nd'
    refine both.imp_of_mem fun {x y} hx hy h => ?_
    have:=nn x hx
    have:=nn y hy
    have h1:=h.1
    have h2:x≠y:=h.2
    omega
  · constructor
    · intro h
      obtain ⟨x,hx,rfl⟩:=List.mem_map.mp h
      obtain ⟨k,hk,rfl⟩:=List.mem_map.mp (hp.mem_iff.mp hx)
      rw [Int.toNat_natCast];exact hk
    · intro h
      exact List.mem_map.mpr ⟨(k:Int),hp.mem_iff.mpr (List.mem_map.mpr ⟨k,h,rfl⟩),Int.toNat_natCast k⟩
theorem call_sortedSet (hc:X.calm=true):CallR X (.builtin "sorted") (fun xs H Q=>J_sortedSet X.w xs H Q):=by
  intro pins s σ0 H xs us Q I r h
  obtain ⟨p, σ,rfl,hp,h4,q⟩:=h
  obtain ⟨u,rfl,rx⟩:=vals1 r
  cases rx
  obtain ⟨⟨es,pl,ep,hS⟩,_⟩:=(show ObjOk X.prog X.w H s.heap p (.ext (SetPhi X.w p σ)) from I.hok p _ hp)
  refine sorted_S (I.ok.hd hc) hS h4 fun h' tk l e out ns' kp ll hl hI hperm hs => ?_
  obtain ⟨ms,e1,e2,e3⟩:=ms_of hS.nd hperm hs
  have hlen:ms.length≤sizeLine:=by
    have:ns'.length = σ.length:=by rw [hperm.length_eq,List.length_map]
    rw [e1,List.length_map] at this
    rw [this,sizeLine_eq];omega
  refine ⟨.ref l,_,I.laid (t':=tk) kp ll (show ObjOk X.prog X.w _ h' _ (.lst (ms.map fun n:Nat=>V.int (n:Int))) from ⟨by rw [List.length_map];exact hlen,out,e,?_,hl⟩),rfl,q ms l e2 e3 (I.hok.fresh ll)⟩
  have:=vals_ints hI
  rw [e1,List.map_map] at this
  exact this
end
end L2
namespace K65
open PySem L2 Sw
noncomputable def top (i:Nat):Stmt:=PySem.Challenge.pw_samewise_k65_sharing_walked.main.body.getD i (.Pass ⟨0,0,0,0⟩)
noncomputable abbrev s_mark:Stmt:=top 4
theorem sc_mark:FnScope ["term", "leads"] ["term", "leads"] (defScope s_mark):=⟨rfl,rfl,rfl,by decide +kernel,rfl,by decide +kernel,by decide +kernel⟩
noncomputable abbrev s_join_classes:Stmt:=top 6
theorem sc_join_classes:FnScope ["leads", "a", "b", "low", "high", "k"] ["leads", "a", "b"] (defScope s_join_classes):=⟨rfl,rfl,rfl,by decide +kernel,rfl,by decide +kernel,by decide +kernel⟩
noncomputable abbrev s_join_like:Stmt:=top 7
theorem sc_join_like:FnScope ["terms", "leads", "joined", "first", "k", "term", "other"] ["terms", "leads"] (defScope s_join_like):=⟨rfl,rfl,rfl,by decide +kernel,rfl,by decide +kernel,by decide +kernel⟩
noncomputable abbrev s_closed:Stmt:=top 5
theorem sc_closed:FnScope ["terms", "edges", "leads", "edge"] ["terms", "edges"] (defScope s_closed):=⟨rfl,rfl,rfl,by decide +kernel,rfl,by decide +kernel,by decide +kernel⟩
noncomputable abbrev s_nodes:Stmt:=top 8
theorem sc_nodes:FnScope ["terms", "leads", "found", "seen", "k", "term", "own"] ["terms", "leads"] (defScope s_nodes):=⟨rfl,rfl,rfl,by decide +kernel,rfl,by decide +kernel,by decide +kernel⟩
noncomputable abbrev s_cost_of:Stmt:=top 10
theorem sc_cost_of:FnScope ["term", "costs"] ["term", "costs"] (defScope s_cost_of):=⟨rfl,rfl,rfl,by decide +kernel,rfl,by decide +kernel,by decide +kernel⟩
noncomputable abbrev s_arm_leads:Stmt:=top 12
theorem sc_arm_leads:FnScope ["term", "leads"] ["term", "leads"] (defScope s_arm_leads):=⟨rfl,rfl,rfl,by decide +kernel,rfl,by decide +kernel,by decide +kernel⟩
noncomputable abbrev s_needed_leads:Stmt:=top 11
theorem sc_needed_leads:FnScope ["terms", "leads", "picks", "lead", "found", "waiting", "here", "below"] ["terms", "leads", "picks", "lead"] (defScope s_needed_leads):=⟨rfl,rfl,rfl,by decide +kernel,rfl,by decide +kernel,by decide +kernel⟩
noncomputable abbrev s_reached_leads:Stmt:=top 16
theorem sc_reached_leads:FnScope ["terms", "leads", "heads", "lead", "found", "waiting", "here", "k", "below"] ["terms", "leads", "heads", "lead"] (defScope s_reached_leads):=⟨rfl,rfl,rfl,by decide +kernel,rfl,by decide +kernel,by decide +kernel⟩
noncomputable abbrev s_count_ways:Stmt:=top 17
theorem sc_count_ways:FnScope ["heads", "reached", "ways", "lead"] ["heads", "reached"] (defScope s_count_ways):=⟨rfl,rfl,rfl,by decide +kernel,rfl,by decide +kernel,by decide +kernel⟩
noncomputable abbrev s_all_picks:Stmt:=top 18
theorem sc_all_picks:FnScope ["heads", "reached", "picks", "lead", "longer", "pick", "k", "more"] ["heads", "reached"] (defScope s_all_picks):=⟨rfl,rfl,rfl,by decide +kernel,rfl,by decide +kernel,by decide +kernel⟩
noncomputable abbrev s_ordered:Stmt:=top 19
theorem sc_ordered:FnScope ["terms", "leads", "picks", "needed", "rows", "placed", "left", "later", "lead"] ["terms", "leads", "picks", "needed"] (defScope s_ordered):=⟨rfl,rfl,rfl,by decide +kernel,rfl,by decide +kernel,by decide +kernel⟩
noncomputable abbrev s_sharing:Stmt:=top 15
theorem sc_sharing:FnScope ["terms", "leads", "costs", "k", "heads", "reached", "best", "picks", "choice", "price"] ["terms", "leads", "costs", "k"] (defScope s_sharing):=⟨rfl,rfl,rfl,by decide +kernel,rfl,by decide +kernel,by decide +kernel⟩
noncomputable abbrev s_whole:Stmt:=top 21
theorem sc_whole:FnScope ["_law_found"] ["_law_found"] (defScope s_whole):=⟨rfl,rfl,rfl,by decide +kernel,rfl,by decide +kernel,by decide +kernel⟩
noncomputable abbrev s_word:Stmt:=top 22
theorem sc_word:FnScope ["_law_cell", "_law_head", "_law_letters", "_law_m", "_law_size", "_law_place", "_law_fill"] ["_law_cell", "_law_head"] (defScope s_word):=⟨rfl,rfl,rfl,by decide +kernel,rfl,by decide +kernel,by decide +kernel⟩
noncomputable abbrev s_number:Stmt:=top 23
theorem sc_number:FnScope ["_law_cell", "_law_m"] ["_law_cell"] (defScope s_number):=⟨rfl,rfl,rfl,by decide +kernel,rfl,by decide +kernel,by decide +kernel⟩
noncomputable abbrev s_knot:Stmt:=top 24
theorem sc_knot:FnScope ["_law_cell", "_law_many", "_law_head", "_law_m", "_law_word_here", "_law_count", "_law_factors"] ["_law_cell", "_law_many", "_law_head"] (defScope s_knot):=⟨rfl,rfl,rfl,by decide +kernel,rfl,by decide +kernel,by decide +kernel⟩
noncomputable abbrev s_term:Stmt:=top 25
theorem sc_term:FnScope ["_law_cell", "_law_many", "_law_head", "_law_m"] ["_law_cell", "_law_many", "_law_head"] (defScope s_term):=⟨rfl,rfl,rfl,by decide +kernel,rfl,by decide +kernel,by decide +kernel⟩
noncomputable abbrev s_made:Stmt:=top 26
theorem sc_made:FnScope ["_law_script", "_law_head", "_law_rate", "_law_terms", "_law_edges", "_law_cell", "_law_term_here", "_law_m", "_law_a", "_law_b"] ["_law_script"] (defScope s_made):=⟨rfl,rfl,rfl,by decide +kernel,rfl,by decide +kernel,by decide +kernel⟩
noncomputable abbrev s_key:Stmt:=top 27
theorem sc_key:FnScope ["_law_term_here"] ["_law_term_here"] (defScope s_key):=⟨rfl,rfl,rfl,by decide +kernel,rfl,by decide +kernel,by decide +kernel⟩
noncomputable abbrev s_costs:Stmt:=top 28
theorem sc_costs:FnScope ["_law_script", "_law_terms", "_law_costs_here", "_law_k", "_law_cell", "_law_m"] ["_law_script", "_law_terms"] (defScope s_costs):=⟨rfl,rfl,rfl,by decide +kernel,rfl,by decide +kernel,by decide +kernel⟩
noncomputable abbrev s_cost:Stmt:=top 29
theorem sc_cost:FnScope ["_law_term_here", "_law_costs_here"] ["_law_term_here", "_law_costs_here"] (defScope s_cost):=⟨rfl,rfl,rfl,by decide +kernel,rfl,by decide +kernel,by decide +kernel⟩
noncomputable abbrev s_arms:Stmt:=top 30
theorem sc_arms:FnScope ["_law_term_here"] ["_law_term_here"] (defScope s_arms):=⟨rfl,rfl,rfl,by decide +kernel,rfl,by decide +kernel,by decide +kernel⟩
noncomputable abbrev s_row_fine:Stmt:=top 31
theorem sc_row_fine:FnScope ["_law_row", "_law_terms", "_law_leads", "_law_seen"] ["_law_row", "_law_terms", "_law_leads", "_law_seen"] (defScope s_row_fine):=⟨rfl,rfl,rfl,by decide +kernel,rfl,by decide +kernel,by decide +kernel⟩
noncomputable abbrev s_choice_fine:Stmt:=top 32
theorem sc_choice_fine:FnScope ["_law_choice", "_law_terms", "_law_leads", "_law_lead", "_law_seen", "_law_row", "_law_wanted"] ["_law_choice", "_law_terms", "_law_leads", "_law_lead"] (defScope s_choice_fine):=⟨rfl,rfl,rfl,by decide +kernel,rfl,by decide +kernel,by decide +kernel⟩
noncomputable abbrev s_lnodes:Stmt:=top 33
theorem sc_lnodes:FnScope ["_law_terms", "_law_leads", "_law_lead", "_law_unlike", "_law_k", "_law_sort"] ["_law_terms", "_law_leads", "_law_lead"] (defScope s_lnodes):=⟨rfl,rfl,rfl,by decide +kernel,rfl,by decide +kernel,by decide +kernel⟩
noncomputable abbrev s_ways:Stmt:=top 34
theorem sc_ways:FnScope ["_law_terms", "_law_leads", "_law_lead", "_law_wanted", "_law_many", "_law_at", "_law_unlike", "_law_sort"] ["_law_terms", "_law_leads", "_law_lead"] (defScope s_ways):=⟨rfl,rfl,rfl,by decide +kernel,rfl,by decide +kernel,by decide +kernel⟩
noncomputable abbrev s_asked:Stmt:=top 35
theorem sc_asked:FnScope ["_law_script", "_law_terms"] ["_law_script", "_law_terms"] (defScope s_asked):=⟨rfl,rfl,rfl,by decide +kernel,rfl,by decide +kernel,by decide +kernel⟩
noncomputable abbrev s_right:Stmt:=top 36
theorem sc_right:FnScope ["_law_found", "_law_terms", "_law_leads", "_law_costs_here", "_law_k"] ["_law_found", "_law_terms", "_law_leads", "_law_costs_here", "_law_k"] (defScope s_right):=⟨rfl,rfl,rfl,by decide +kernel,rfl,by decide +kernel,by decide +kernel⟩
noncomputable abbrev s_law:Stmt:=top 37
theorem sc_law:FnScope ["_law_script", "_law_terms", "_law_edges", "_law_leads", "_law_costs_here", "_law_handed", "_law_k", "_law_found", "_law_refused", "_law_wide"] ["_law_script"] (defScope s_law):=⟨rfl,rfl,rfl,by decide +kernel,rfl,by decide +kernel,by decide +kernel⟩
section
variable {P:Program} {w:World} {K:PySem.W.Frag} {mg:Str→Option Value} {base:Heap}
inductive SpMark (K:PySem.W.Frag) (vs:List V) (H:Hp) (Q:VK):Prop
  | mk (v:V) (t:Tm) (L:Addr) (ls:List Nat) (z0:vs = [v,.ref L]) (z1:IsTm H t v) (z2:SqL K H L (ls.map nV)) (z3:(∀ x as,t = .of x as→as.length≤1000∧∀ a∈as,a < ls.length)) (z4:∀ v' H',Same H H'→IsTm H' (mk ls t) v'→Q v' H'):SpMark K vs H Q
noncomputable def spMark (K:PySem.W.Frag):Sp:=fun vs H Q _=>SpMark K vs H Q
theorem ok_mark (B:Blt mg) (D:Def K mg "mark" s_mark ["term", "leads"]):Has P w K mg base 1 "mark" ["term", "leads"] (spMark K):=by
  refine D.has sc_mark (fun vs H Q E h => ?_) (fun f cdv A outer s H vs Q E hr h => ?_)
  · obtain ⟨v,t,L,ls,rfl,_⟩:=h;rfl
  obtain ⟨v,t,L,ls,rfl,hT,hL,hb,q⟩:=h
  refine ⟨_,(pss_cons (ps_if (pt_cmpR op_ne (pe_ix ix_tup (pv 0) pe_int (fun _ _=>rfl)) pe_str (nomark _)) (pss_one (ps_ret (pv 0))) pss_nil)
    (pss_one (ps_ret (pe_tup (pa_cons pe_str (pa_cons (pe_ix ix_tup (pv 0) pe_int (fun _ _=>rfl)) (pa_cons (pe_callTy call_tuple_of rfl B.tuple_ boot_tuple_ (pa_cons (pe_comp (te:=(tOp (rIxL K) _ _)) (own := ["number"]) (caps := [("leads",1)]) (comp_scope (defScope s_mark) ["term", "leads"] rfl rfl rfl (by decide +kernel)) (pi_tup (pe_ix ix_tup (pv 0) pe_int (fun _ _=>rfl))) rfl (fun _ _ _=>pg_name (i:=0) (show (["number", "leads"]:List Str).Nodup by decide +kernel) rfl (Or.inl rfl)) (fun _ _ _=>(pe_ix ix_list (pv 1) (pv 0) (fun _ _=>rfl)))) pa_nil)) pa_nil))))))),?_⟩
  try dsimp only [cxOf]
  cases t with
  | num n =>
    obtain ⟨a,rfl,h⟩:=id hT
    refine ⟨_,rfl,a,_,0,_,rfl,rfl,SqT.of h,atI_nat (j:=0) rfl,rfl,_,rfl,iteDN (fun _=>⟨_,rfl,q _ _ (Same.refl _) hT⟩) (fun z=>absurd (V.str.inj z) (by decide))⟩
  | name n =>
    obtain ⟨a,rfl,h⟩:=id hT
    refine ⟨_,rfl,a,_,0,_,rfl,rfl,SqT.of h,atI_nat (j:=0) rfl,rfl,_,rfl,iteDN (fun _=>⟨_,rfl,q _ _ (Same.refl _) hT⟩) (fun z=>absurd (V.str.inj z) (by decide))⟩
  | of x as =>
    obtain ⟨a,b,rfl,h,h2⟩:=id hT
    obtain ⟨hl,hlt⟩:=hb x as rfl
    refine ⟨_,rfl,a,_,0,_,rfl,rfl,SqT.of h,atI_nat (j:=0) rfl,rfl,_,rfl,iteDN (fun z=>absurd rfl z) (fun _ => ?_)⟩
    refine ⟨_,rfl,a,_,1,_,rfl,rfl,SqT.of h,atI_nat (j:=1) rfl,?_⟩
    refine ⟨_,rfl,a,_,2,_,rfl,rfl,SqT.of h,atI_nat (j:=2) rfl,b,rfl,⟨_,SqT.of h2⟩,?_⟩
    refine comp_tupS (ys:=(as.map fun a=>ls.getD a 0).map nV) (SqT.of h2) (by rw [List.length_map];exact hl) (by simp) (fun i y z hy hz H' sm Q' q' => ?_) (fun D1 H' hD1 sm hD => ?_)
    · rw [List.getElem?_map] at hy
      rw [List.getElem?_map,List.getElem?_map] at hz
      cases e:as[i]? with
      | none=>rw [e] at hy;cases hy
      | some k =>
        rw [e] at hy hz
        have e1:nV k=y:=Option.some.inj hy
        have e2:nV (ls.getD k 0)=z:=Option.some.inj hz
        subst e1 e2
        have hk:=hlt k (List.mem_of_getElem? e)
        have e3:ls[k]? = some (ls.getD k 0):=by rw [List.getD_eq_getElem?_getD,List.getElem?_eq_getElem hk];rfl
        exact ⟨_,rfl,_,rfl,L,_,_,_,rfl,rfl,sm.seq hL,nV_at e3,q' _ (Same.refl _)⟩
    · refine ⟨D1,_,rfl,.inl ⟨SqL.of hD,fun l hl' => ?_⟩⟩
      refine ⟨(show 3≤sizeLine by decide),fun t ht => ?_⟩
      refine q _ _ (sm.trans ((same_new hl' _).trans (same_new ht _))) ⟨t,l,rfl,upd_same,?_⟩
      rw [upd_ne (ne_of_none upd_same ht),upd_same]
inductive SpJoin (vs:List V) (H:Hp) (Q:VK):Prop
  | mk (L:Addr) (ls:List Nat) (a b la lb:Nat) (z0:vs = [.ref L,nV a,nV b]) (z1:H L=some (.lst (ls.map nV))) (z2:GoodL ls) (z3:ls.length≤1000000) (z4:ls[a]? = some la) (z5:ls[b]? = some lb) (z6:(la=lb→Q (.bl false) H)) (z7:(la≠lb→Q (.bl true) (upd H L (.lst ((jn ls (max la lb) (min la lb)).map nV))))):SpJoin  vs H Q
noncomputable def spJoin:Sp:=fun vs H Q _=>SpJoin  vs H Q
theorem ok_join_classes (B:Blt mg) (D:Def K mg "join_classes" s_join_classes ["leads", "a", "b"]):Has P w K mg base 1 "join_classes" ["leads", "a", "b"] spJoin:=by
  refine D.has sc_join_classes (fun vs H Q E h => ?_) (fun f cdv A outer s H vs Q E hr h => ?_)
  · obtain ⟨L,ls,a,b,la,lb,rfl,_⟩:=h;rfl
  obtain ⟨L,ls,a,b,la,lb,rfl,hL,hg,hz,ha,hb,q1,q2⟩:=h
  refine ⟨_,(pss_cons (ps_set (i:=3) sc_join_classes.nd rfl (Or.inl rfl) (pe_callB (call_min2 rfl) rfl B.min_ boot_min_ (pa_cons (pe_ix ix_list (pv 0) (pv 1) (fun _ _=>rfl)) (pa_cons (pe_ix ix_list (pv 0) (pv 2) (fun _ _=>rfl)) pa_nil))))
    (pss_cons (ps_set (i:=4) sc_join_classes.nd rfl (Or.inl rfl) (pe_callB (call_max2 rfl) rfl B.max_ boot_max_ (pa_cons (pe_ix ix_list (pv 0) (pv 1) (fun _ _=>rfl)) (pa_cons (pe_ix ix_list (pv 0) (pv 2) (fun _ _=>rfl)) pa_nil))))
    (pss_cons (ps_if (pt_cmpR op_eq (pv 3) (pv 4) (nomark _)) (pss_one (ps_ret pe_bl)) pss_nil)
    (pss_cons (ps_for PassesOwn.never rfl (pi_range2 rfl B.range_ (pa_cons (pv 4) (pa_cons (pe_callB call_len_seq rfl B.len_ PySem.boot_len (pa_cons (pv 0) pa_nil)) pa_nil))) (pg_name (i:=5) sc_join_classes.nd rfl (Or.inl rfl))
    (pss_one (ps_if (pt_cmpR op_eq (pe_ix ix_list (pv 0) (pv 5) (fun _ _=>rfl)) (pv 4) (nomark _)) (pss_one (ps_asg (pv 3) (pg_sub (pv 0) (pv 5) set_list))) pss_nil)))
    (pss_one (ps_ret pe_bl)))))),?_⟩
  try dsimp only [cxOf]
  refine ⟨_,rfl,_,rfl,L,_,_,_,rfl,rfl,SqL.of hL,nV_at ha,_,rfl,_,rfl,L,_,_,_,rfl,rfl,SqL.of hL,nV_at hb,_,_,rfl,?_⟩
  refine ⟨_,rfl,_,rfl,L,_,_,_,rfl,rfl,SqL.of hL,nV_at ha,_,rfl,_,rfl,L,_,_,_,rfl,rfl,SqL.of hL,nV_at hb,_,_,rfl,?_⟩
  have e1:(if (lb:Int) < (la:Int) then (lb:Int) else (la:Int))=((min la lb:Nat):Int):=by split <;> omega
  have e2:(if (lb:Int) > (la:Int) then (lb:Int) else (la:Int))=((max la lb:Nat):Int):=by split <;> omega
  dsimp only [gName]
  rw [e1,e2]
  by_cases hab:la=lb
  · refine ⟨_,rfl,_,rfl,rfl,_,rfl,iteD (fun _=>q1 hab) (fun z=>absurd ?_ z)⟩
    show V.int _=V.int _
    congr 1;omega
  · refine ⟨_,rfl,_,rfl,rfl,_,rfl,iteD (fun z => ?_) (fun _ => ?_)⟩
    · have:=V.int.inj z
      omega
    have hhi:∃ c:Nat,ls[c]? = some (max la lb):=by
      rcases Nat.le_total la lb with h | h
      · exact ⟨b,by rw [Nat.max_eq_right h];exact hb⟩
      · exact ⟨a,by rw [Nat.max_eq_left h];exact ha⟩
    obtain ⟨c,hc⟩:=hhi
    have hhi2:=(hg c _ hc).2
    have hlt:max la lb < ls.length:=(List.getElem?_eq_some_iff.mp hhi2).1
    have q2':=q2 hab
    have hlohi:min la lb < max la lb:=by omega
    generalize max la lb=hi at *
    generalize min la lb=lo at *
    refine ⟨_,rfl,_,rfl,L,_,rfl,.inl (SqL.of hL),hi,_,rfl,?_,?_⟩
    · rw [List.length_map];omega
    have en:(((ls.map nV).length:Nat):Int) - (hi:Int)=((ls.length - hi:Nat):Int):=by rw [List.length_map];omega
    rw [en,Int.toNat_natCast]
    refine for_range (lo:=(hi:Int)) (fun i σ H'=>∃ o, σ = [some (.ref L),some (nV a),some (nV b),some (nV lo),some (nV hi),o]∧H'=upd H L (.lst ((mix ls hi lo (hi+i)).map nV))) ⟨none,rfl,?_⟩ ?_ ?_
    · rw [Nat.add_zero,mix_start hg]
      funext c'
      by_cases h:c'=L
      · subst h;rw [upd_same];exact hL
      · rw [upd_ne h]
    · rintro i σ H' hi' ⟨o,rfl,rfl⟩
      have hk:hi+i < ls.length:=by omega
      have ev:=List.getElem?_eq_getElem hk
      generalize ls[hi+i]=v at ev
      have em:(mix ls hi lo (hi+i))[hi+i]? = some v:=by
        rw [mix_at,ev]
        show some _=some _
        dsimp only
        rw [if_neg (by omega)]
      have ek:(hi:Int)+(i:Int)=((hi+i:Nat):Int):=by omega
      show tIfS _ _ _ _ _ _
      refine ⟨_,rfl,_,rfl,L,_,_,nV v,rfl,rfl,SqL.of upd_same,(by rw [ek];exact nV_at em),_,rfl,rfl,_,rfl,iteD (fun z => ?_) (fun z => ?_)⟩
      · have hv:v=hi:=by have:=V.int.inj z;omega
        refine ⟨_,rfl,_,rfl,_,rfl,L,_,_,hi+i,rfl,rfl,upd_same,?_,⟨_,rfl,?_⟩⟩
        · rw [ek,List.length_map,mix_len]
          unfold ixN
          rw [if_pos (by omega),if_pos (by omega),Int.toNat_natCast]
        · rw [upd_upd]
          have:=mix_set (hi:=hi) (lo:=lo) ev
          unfold ren at this
          rw [if_pos hv] at this
          rw [nV_set,this]
          rfl
      · have hv:v≠hi:=fun e=>z (by rw [e])
        refine ⟨_,rfl,?_⟩
        have:=mix_stay (hi:=hi) (lo:=lo) ev hv
        rw [show hi+(i+1)=hi+i+1 from rfl,this]
    · rintro σ H' ⟨o,rfl,rfl⟩
      rw [mix_end (by omega)]
      exact q2'
inductive SpJoinLike (P:Program) (w:World) (vs:List V) (H:Hp) (Q:VK):Prop
  | mk (T L:Addr) (us:List V) (ts:List Tm) (ls:List Nat) (es:List (Nat × Nat)) (z0:vs = [.ref T,.ref L]) (z1:H T=some (.lst us)) (z2:Tms H us ts) (z3:H L=some (.lst (ls.map nV))) (z4:T≠L) (z5:GoodL ls) (z6:Sound ts es ls) (z7:Arms ts) (z8:ls.length=ts.length) (z9:ts.length≤1000) (z10:(∀ (i:Nat) x as,ts[i]? = some (.of x as)→as.length≤1000)) (z11:∀ ls' b H',But L H H'→H' L=some (.lst (ls'.map nV))→GoodL ls'→Sound ts es ls'→Keeps ls ls'→ls'.length=ls.length→(b=true→ls'.sum < ls.sum)→(b=false→ls'=ls∧∀ (i j:Nat) (t u:Tm),ts[i]? = some t→ts[j]? = some u→mk ls t=mk ls u→ls[i]? = ls[j]?)→Q (.bl b) H'):SpJoinLike P w vs H Q
noncomputable def spJoinLike (P:Program) (w:World):Sp:=fun vs H Q _=>SpJoinLike P w vs H Q
inductive Iv_join_like1 (P:Program) (w:World) (H:Hp) (T:Addr) (L:Addr) (p:Addr) (ts:List Tm) (es:List (Nat × Nat)) (ls:List Nat) (i:Nat) (σ : St) (H':Hp):Prop
  | mk:∀ (ls':List Nat) (jd:Bool) (kvs:List (NK × V)) (x4 x5 x6:Option V),(σ = [some (.ref T),some (.ref L),some (.bl jd),some (.ref p),x4,x5,x6])→(But L H H')→(H' L=some (.lst (ls'.map nV)))→(DN P w H' p kvs)→(GoodL ls')→(Sound ts es ls')→(Keeps ls ls')→(ls'.length=ls.length)→((jd=true→ls'.sum < ls.sum))→((jd=false→ls'=ls))→(ls'.sum≤ls.sum)→(kvs.length≤i)→((∀ key v,valV kvs key=some v→∃ j t m,v=nV j∧ts[j]? = some t∧key=tmNK m∧Stands ts es t m))→((jd=false→∀ (j:Nat) t,j < i→ts[j]? = some t→∃ j',valV kvs (tmNK (mk ls t))=some (nV j')∧ls[j']? = ls[j]?))→Iv_join_like1 P w H T L p ts es ls i σ H'
theorem ok_join_like (B:Blt mg) (h_mark:Has P w K mg base 1 "mark" ["term", "leads"] (spMark K)) (h_join_classes:Has P w K mg base 1 "join_classes" ["leads", "a", "b"] spJoin) (D:Def K mg "join_like" s_join_like ["terms", "leads"]) :
    Has P w K mg base 2 "join_like" ["terms", "leads"] (spJoinLike P w):=by
  refine D.has sc_join_like (fun vs H Q E h => ?_) (fun f cdv A outer s H vs Q E hr h => ?_)
  · obtain ⟨T,L,us,ts,ls,es,rfl,_⟩:=h;rfl
  obtain ⟨T,L,us,ts,ls,es,rfl,hT,hts,hL,hTL,hg,hs,har,hlen,hz,hza,q⟩:=h
  refine ⟨_,(pss_cons (ps_set (i:=2) sc_join_like.nd rfl (Or.inl rfl) pe_bl)
    (pss_cons (ps_set (i:=3) sc_join_like.nd rfl (Or.inl rfl) pe_dnewN)
    (pss_cons (ps_for PassesOwn.never rfl (pi_enum rfl B.enumerate_ (pa_cons (pv 0) pa_nil)) (pg_tup rfl (pgs_cons (pg_name (i:=4) sc_join_like.nd rfl (Or.inl rfl)) (pgs_cons (pg_name (i:=5) sc_join_like.nd rfl (Or.inl rfl)) pgs_nil)))
    (pss_cons (ps_set (i:=6) sc_join_like.nd rfl (Or.inl rfl) (pe_setD (un10 hr) (pv 3) (pe_callH h_mark hr (by omega) rfl (pa_cons (pv 5) (pa_cons (pv 1) pa_nil))) (pv 4) ⟨rfl,rfl,rfl,rfl⟩))
    (pss_one (ps_if (pt_val (pe_callH h_join_classes hr (by omega) rfl (pa_cons (pv 1) (pa_cons (pv 6) (pa_cons (pv 4) pa_nil))))) (pss_one (ps_set (i:=2) sc_join_like.nd rfl (Or.inl rfl) pe_bl)) pss_nil))))
    (pss_one (ps_ret (pv 2)))))),?_⟩
  try dsimp only [cxOf]
  have hut:=Paired.length hts
  intro p φ hp dn0
  dsimp only [gName]
  have hpL:p≠L:=fun e=>by rw [e,hL] at hp;cases hp
  have hpT:p≠T:=fun e=>by rw [e,hT] at hp;cases hp
  refine ⟨_,rfl,T,rfl,⟨us,SqL.of (by rw [upd_ne (Ne.symm hpT)];exact hT)⟩,?_⟩
  refine for_enum (xs:=us) (Iv_join_like1 P w H T L p ts es ls)
    ⟨ls,false, [],none,none,none,rfl,(But.refl L H).new hp,by rw [upd_ne (Ne.symm hpL)];exact hL,dn0,hg,hs,keeps_refl ls,rfl,(fun z=>nomatch z),fun _=>rfl,Nat.le_refl _,Nat.zero_le _,(fun key v e=>by rw [valV_nil] at e;cases e),fun _ j t hj=>absurd hj (Nat.not_lt_zero _)⟩ ?_ ?_ ?_
  · rintro i σ H' _ ⟨ls',jd,kvs,x4,x5,x6,rfl,bt,_⟩
    exact SqL.of (bt T _ hTL hT)
  · rintro i x a0 σ H' hx ⟨ls',jd,kvs,x4,x5,x6,rfl,bt,hL',dn,hg',hs',hk',hlen',hjt,hjf,hsum,hkl,iA,iB⟩ ha0
    obtain ⟨t,ht,hx'⟩:=tms_at hts hx
    have hi:i < ts.length:=(List.getElem?_eq_some_iff.mp ht).1
    have sm0:=same_new ha0 (.tup [.int (i:Int),x])
    have bt1:=bt.same sm0
    have itx:IsTm (upd H' a0 (.tup [.int (i:Int),x])) t x:=hx'.keep (bt1.tup hL)
    have hL1:=sm0 _ _ hL'
    have dn1:=dn.same sm0
    refine ⟨a0,_,rfl,SqT.of upd_same,rfl,_,_,rfl,_,_,rfl,rfl,?_⟩
    generalize upd H' a0 (.tup [.int (i:Int),x])=H1 at bt1 itx hL1 dn1 ⊢
    have hb:∀ x as,t = .of x as→as.length≤1000∧∀ a∈as,a < ls'.length:=fun x as e=>by
      subst e
      refine ⟨hza i x as ht,fun a ha => ?_⟩
      have:=har i x as ht a ha
      omega
    refine ⟨_,rfl,p,rfl,⟨kvs,dn1⟩,_,rfl,_,rfl,x,t,L,ls',rfl,itx,SqL.of hL1,hb,fun v' H2 sm2 hm => ?_⟩
    obtain ⟨b,rfl,nk⟩:=hm.key
    have dn2:=dn1.same sm2
    have hL2:=sm2 _ _ hL1
    have bt2:=bt1.same sm2
    obtain ⟨li,hli⟩:∃ li,ls'[i]? = some li:=⟨_,List.getElem?_eq_getElem (by omega)⟩
    refine ⟨_,rfl,kvs,tmNK (mk ls' t),b,dn2,rfl,nk,small1000 (by omega),fun v hv => ?_,fun hn φ2 dn3 => ?_⟩
    · -- there is one already
      obtain ⟨j,u,m,rfl,hu,hkey,hst⟩:=iA _ _ hv
      have em:m=mk ls' t:=tmNK_inj hkey.symm
      subst em
      have hj:j < ts.length:=(List.getElem?_eq_some_iff.mp hu).1
      obtain ⟨lj,hlj⟩:∃ lj,ls'[j]? = some lj:=⟨_,List.getElem?_eq_getElem (by omega)⟩
      have eq:Eqv ts es j i:=stands_eqv hu ht hst (stands_mk hs' (fun x as e=>(hb x as e).2))
      refine ⟨_,rfl,_,rfl,_,rfl,L,ls',j,i,lj,li,rfl,hL2,hg',by omega,hlj,hli,fun e => ?_,fun e => ?_⟩
      · refine ⟨_,rfl,iteF ⟨ls',jd,kvs,_,_,_,rfl,bt2,hL2,dn2,hg',hs',hk',hlen',hjt,hjf,hsum,by omega,iA,fun hjd j' t' hj' ht' => ?_⟩⟩
        by_cases hji:j' < i
        · exact iB hjd j' t' hji ht'
        · have e':j'=i:=by omega
          subst e'
          rw [ht] at ht';cases ht'
          have el:=hjf hjd
          rw [el] at hv hlj hli
          exact ⟨j,hv,by rw [hlj,hli,e]⟩
      · have e1:Eqv ts es lj li := .trans (.symm (hs' j lj hlj)) (.trans eq (hs' i li hli))
        have g1:=(hg' j lj hlj).2
        have g2:=(hg' i li hli).2
        have eqv:Eqv ts es (max lj li) (min lj li):=by
          rcases Nat.le_total lj li with h | h
          · rw [Nat.max_eq_right h,Nat.min_eq_left h];exact e1.symm
          · rw [Nat.max_eq_left h,Nat.min_eq_right h];exact e1
        have hlo:ls'[min lj li]? = some (min lj li):=by
          rcases Nat.le_total lj li with h | h
          · rw [Nat.min_eq_left h];exact g1
          · rw [Nat.min_eq_right h];exact g2
        have hhi:max lj li∈ls':=by
          rcases Nat.le_total lj li with h | h
          · rw [Nat.max_eq_right h];exact List.mem_of_getElem? g2
          · rw [Nat.max_eq_left h];exact List.mem_of_getElem? g1
        have hlt:min lj li < max lj li:=by omega
        have hsm:=sum_jn hlt hhi
        refine ⟨_,rfl,iteT ?_⟩
        refine ⟨jn ls' (max lj li) (min lj li),true,kvs,_,_,_,rfl,bt2.put,upd_same,dn2.keep (fun φ e=>by rw [upd_ne hpL];exact e) (fun c ys e=>by rw [upd_ne (ne_of e hL2 (fun z=>nomatch z))];exact e),
          good_jn hg' hlo hlt,sound_jn hs' eqv,hk'.trans (keeps_jn _ _ _),by rw [jn_len];exact hlen',fun _=>by omega,(fun z=>nomatch z),by omega,by omega,iA,(fun z=>nomatch z)⟩
    · -- it is the first one
      have hL3:(upd H2 p (.ext φ2)) L=some (.lst (ls'.map nV)):=by rw [upd_ne (Ne.symm hpL)];exact hL2
      refine ⟨_,rfl,_,rfl,_,rfl,L,ls',i,i,li,li,rfl,hL3,hg',by omega,hli,hli,fun _ => ?_,fun z=>absurd rfl z⟩
      refine ⟨_,rfl,iteF ⟨ls',jd,_,_,_,_,rfl,bt2.new hp,hL3,dn3,hg',hs',hk',hlen',hjt,hjf,hsum,by rw [List.length_append];show kvs.length+1≤i+1;omega,fun key v e => ?_,fun hjd j' t' hj' ht' => ?_⟩⟩
      · rw [valV_snoc _ _ _ _ hn] at e
        by_cases hk:key=tmNK (mk ls' t)
        · rw [if_pos hk] at e
          cases e
          exact ⟨i,t,mk ls' t,rfl,ht,hk,stands_mk hs' (fun x as e=>(hb x as e).2)⟩
        · rw [if_neg hk] at e
          exact iA key v e
      · have el:=hjf hjd
        rw [valV_snoc _ _ _ _ hn]
        by_cases hji:j' < i
        · obtain ⟨j2,e1,e2⟩:=iB hjd j' t' hji ht'
          by_cases hk:tmNK (mk ls t')=tmNK (mk ls' t)
          · rw [hk,hn] at e1;cases e1
          · rw [if_neg hk];exact ⟨j2,e1,e2⟩
        · have e':j'=i:=by omega
          subst e'
          rw [ht] at ht';cases ht'
          rw [el,if_pos rfl]
          exact ⟨j',rfl,rfl⟩
  · rintro σ H' ⟨ls',jd,kvs,x4,x5,x6,rfl,bt,hL',dn,hg',hs',hk',hlen',hjt,hjf,hsum,hkl,iA,iB⟩
    refine ⟨_,rfl,q ls' jd H' bt hL' hg' hs' hk' hlen' hjt fun hjd=>⟨hjf hjd,fun i j t u hi hj hm => ?_⟩⟩
    obtain ⟨i',a1,a2⟩:=iB hjd i t (by rw [hut];exact (List.getElem?_eq_some_iff.mp hi).1) hi
    obtain ⟨j',b1,b2⟩:=iB hjd j u (by rw [hut];exact (List.getElem?_eq_some_iff.mp hj).1) hj
    rw [hm,b1] at a1
    have e:i'=j':=by have:=V.int.inj (Option.some.inj a1);omega
    rw [← a2, ← b2,e]
inductive SpClosed (K:PySem.W.Frag) (vs:List V) (H:Hp) (Q:VK):Prop
  | mk (T E:Addr) (us evs:List V) (ts:List Tm) (es:List (Nat × Nat)) (z0:vs = [.ref T,.ref E]) (z1:H T=some (.lst us)) (z2:Tms H us ts) (z3:SqL K H E evs) (z4:Edges H evs es) (z5:Arms ts) (z6:ts.length≤1000) (z7:(∀ (i:Nat) x as,ts[i]? = some (.of x as)→as.length≤1000)) (z8:(∀ a b:Nat,(a,b)∈es→a < ts.length∧b < ts.length)) (z9:∀ L ls H',Same H H'→H L=none→H' L=some (.lst (ls.map nV))→Closed ts es ls→Q (.ref L) H'):SpClosed K vs H Q
noncomputable def spClosed (K:PySem.W.Frag):Sp:=fun vs H Q _=>SpClosed K vs H Q
inductive Iv_closed2 (H:Hp) (T:Addr) (E:Addr) (L:Addr) (ts:List Tm) (es:List (Nat × Nat)) (σ':St) (H':Hp):Prop
  | mk:∀ (ls:List Nat) (x3:Option V),(σ' = [some (.ref T),some (.ref E),some (.ref L),x3])→(Same H H')→(H' L=some (.lst (ls.map nV)))→(GoodL ls)→(Sound ts es ls)→(ls.length=ts.length)→(∀ a b:Nat,(a,b)∈es→ls[a]? = ls[b]?)→Iv_closed2 H T E L ts es σ' H'
inductive Iv_closed3 (H:Hp) (T:Addr) (E:Addr) (L:Addr) (ts:List Tm) (es:List (Nat × Nat)) (i:Nat) (σ':St) (H':Hp):Prop
  | mk:∀ (ls:List Nat) (x3:Option V),(σ' = [some (.ref T),some (.ref E),some (.ref L),x3])→(Same H H')→(H' L=some (.lst (ls.map nV)))→(GoodL ls)→(Sound ts es ls)→(ls.length=ts.length)→(∀ (j a b:Nat),j < i→es[j]? = some (a,b)→ls[a]? = ls[b]?)→Iv_closed3 H T E L ts es i σ' H'
theorem ok_closed (B:Blt mg) (h_join_classes:Has P w K mg base 1 "join_classes" ["leads", "a", "b"] spJoin) (h_join_like:Has P w K mg base 2 "join_like" ["terms", "leads"] (spJoinLike P w)) (D:Def K mg "closed" s_closed ["terms", "edges"]) :
    Has P w K mg base 3 "closed" ["terms", "edges"] (spClosed K):=by
  refine D.has sc_closed (fun vs H Q E h => ?_) (fun f cdv A outer s H vs Q E hr h => ?_)
  · obtain ⟨T,E,us,evs,ts,es,rfl,_⟩:=h;rfl
  obtain ⟨T,E,us,evs,ts,es,rfl,hT,hts,hE,hes,har,hz,hza,hee,q⟩:=h
  refine ⟨_,(pss_cons (ps_set (i:=2) sc_closed.nd rfl (Or.inl rfl) (pe_callTy (call_list_rng rfl) rfl B.list_ boot_list_ (pa_cons (pe_callTy call_range1V rfl B.range_ PyProof.Rows.boot_range (pa_cons (pe_callB call_len_seq rfl B.len_ PySem.boot_len (pa_cons (pv 0) pa_nil)) pa_nil)) pa_nil)))
    (pss_cons (ps_for PassesOwn.never rfl (pi_list (pv 1)) (pg_name (i:=3) sc_closed.nd rfl (Or.inl rfl))
    (pss_one (ps_expr (pe_callH h_join_classes hr (by omega) rfl (pa_cons (pv 2) (pa_cons (pe_ix ix_tup (pv 3) pe_int (fun _ _=>rfl)) (pa_cons (pe_ix ix_tup (pv 3) pe_int (fun _ _=>rfl)) pa_nil)))))))
    (pss_cons (ps_while PassesOwn.never (pt_val (pe_callH h_join_like hr (by omega) rfl (pa_cons (pv 0) (pa_cons (pv 2) pa_nil))))
    (pss_one ps_pass))
    (pss_one (ps_ret (pv 2)))))),?_⟩
  try dsimp only [cxOf]
  have hut:=Paired.length hts
  have hue:=Paired.length hes
  refine ⟨_,rfl,T,us,rfl,.inl (SqL.of hT),_,rfl,fun r hr0=>⟨r,us.length,rfl,upd_same,by omega,fun L hL0 => ?_⟩⟩
  dsimp only [gName]
  have hLH:H L=none:=by
    by_cases e:L=r
    · rw [e];exact hr0
    · rw [upd_ne e] at hL0;exact hL0
  have sm0:Same H (upd (upd H r (.rng 0 ((us.length:Nat):Int))) L (.lst ((List.range us.length).map fun i:Nat=>V.int (i:Int)))):=(same_new hr0 _).trans (same_new hL0 _)
  have hL1:(upd (upd H r (.rng 0 ((us.length:Nat):Int))) L (.lst ((List.range us.length).map fun i:Nat=>V.int (i:Int)))) L=some (.lst ((List.range ts.length).map nV)):=by rw [upd_same,hut]
  generalize (upd (upd H r (.rng 0 ((us.length:Nat):Int))) L (.lst ((List.range us.length).map fun i:Nat=>V.int (i:Int))))=H1 at sm0 hL1 ⊢
  have hTL:T≠L:=fun e=>by rw [e,hLH] at hT;cases hT
  refine rd_cut (Iv_closed2 H T E L ts es) ?_ (fun key => ?_)
  · rintro σ' H2 ⟨ls,x3,rfl,sm2,hL2,hg2,hs2,hlen2,hed2⟩
    refine ⟨fun m σ' H'=>∃ (ls:List Nat),m=ls.sum ∧ σ' = [some (.ref T),some (.ref E),some (.ref L),x3]∧Same H H'∧H' L=some (.lst (ls.map nV))∧GoodL ls∧Sound ts es ls∧ls.length=ts.length∧∀ a b:Nat,(a,b)∈es→ls[a]? = ls[b]?,
      ⟨_,ls,rfl,rfl,sm2,hL2,hg2,hs2,hlen2,hed2⟩,?_⟩
    rintro m σ' H3 ⟨ls,rfl,rfl,sm3,hL3,hg3,hs3,hlen3,hed3⟩
    refine ⟨_,rfl,_,rfl,T,L,us,ts,ls,es,rfl,sm3 _ _ hT,tms_same sm3 hts,hL3,hTL,hg3,hs3,har,hlen3,hz,hza,fun ls' b H4 bt hL4 hg4 hs4 hk4 hlen4 hbt hbf => ?_⟩
    have sm4:Same H H4:=fun c o h=>bt c o (fun e=>by rw [e,hLH] at h;cases h) (sm3 c o h)
    have hed4:∀ a b:Nat,(a,b)∈es→ls'[a]? = ls'[b]? := fun a b h=>by
      obtain ⟨h1,h2⟩:=hee a b h
      obtain ⟨v,hv⟩:∃ v,ls[a]? = some v:=⟨_,List.getElem?_eq_getElem (by omega)⟩
      obtain ⟨u,e1,e2⟩:=hk4 a b v hv (by rw [← hed3 a b h];exact hv)
      rw [e1,e2]
    refine ⟨_,rfl,?_⟩
    cases b with
    | true =>
      refine iteT ⟨fun σ' H'=>∃ m',m' < ls.sum∧∃ (ls:List Nat),m'=ls.sum ∧ σ' = [some (.ref T),some (.ref E),some (.ref L),x3]∧Same H H'∧H' L=some (.lst (ls.map nV))∧GoodL ls∧Sound ts es ls∧ls.length=ts.length∧∀ a b:Nat,(a,b)∈es→ls[a]? = ls[b]?,fun σ' H' h=>h,?_⟩
      exact ⟨_,hbt rfl,ls',rfl,rfl,sm4,hL4,hg4,hs4,by omega,hed4⟩
    | false =>
      obtain ⟨el,hm⟩:=hbf rfl
      refine iteF ⟨_,rfl,q L ls' H4 sm4 hLH hL4 ⟨by omega,hg4,hs4,fun i j hi hj e => ?_⟩⟩
      rw [el]
      exact complete har hee hlen3 hed3 hm e
  · refine ⟨_,rfl,E,rfl,⟨evs,sm0.seq hE⟩,?_⟩
    refine for_list (xs:=evs) (Iv_closed3 H T E L ts es)
      ⟨_,none,rfl,sm0,hL1,good_id _,sound_id _ _ _,List.length_range,fun j a b hj=>absurd hj (Nat.not_lt_zero _)⟩ ?_ ?_ ?_
    · rintro i σ' H' _ ⟨ls,x3,rfl,sm,_⟩
      exact sm.seq hE
    · rintro i x σ' H' hx ⟨ls,x3,rfl,sm,hL',hg',hs',hlen',hed'⟩
      obtain ⟨⟨a,b⟩,he,ea,rest,rfl,hea⟩:=edges_at hes hx
      have hea':=sm _ _ hea
      obtain ⟨ha,hb⟩:=hee a b (List.mem_of_getElem? he)
      obtain ⟨la,hla⟩:∃ la,ls[a]? = some la:=⟨_,List.getElem?_eq_getElem (by omega)⟩
      obtain ⟨lb,hlb⟩:∃ lb,ls[b]? = some lb:=⟨_,List.getElem?_eq_getElem (by omega)⟩
      refine ⟨_,rfl,_,rfl,ea,_,0,_,rfl,rfl,SqT.of hea',atI_nat (j:=0) rfl,_,rfl,ea,_,1,_,rfl,rfl,SqT.of hea',atI_nat (j:=1) rfl,L,ls,a,b,la,lb,rfl,hL',hg',by omega,hla,hlb,fun e => ?_,fun e => ?_⟩
      · refine ⟨ls,_,rfl,sm,hL',hg',hs',hlen',fun j c d hj hcd => ?_⟩
        by_cases hji:j < i
        · exact hed' j c d hji hcd
        · have e':j=i:=by omega
          subst e'
          rw [he] at hcd;cases hcd
          rw [hla,hlb,e]
      · have e1:Eqv ts es la lb := .trans (.symm (hs' a la hla)) (.trans (.edge (List.mem_of_getElem? he)) (hs' b lb hlb))
        have g1:=(hg' a la hla).2
        have g2:=(hg' b lb hlb).2
        have eqv:Eqv ts es (max la lb) (min la lb):=by
          rcases Nat.le_total la lb with h | h
          · rw [Nat.max_eq_right h,Nat.min_eq_left h];exact e1.symm
          · rw [Nat.max_eq_left h,Nat.min_eq_right h];exact e1
        have hlo:ls[min la lb]? = some (min la lb):=by
          rcases Nat.le_total la lb with h | h
          · rw [Nat.min_eq_left h];exact g1
          · rw [Nat.min_eq_right h];exact g2
        have hlt:min la lb < max la lb:=by omega
        refine ⟨jn ls (max la lb) (min la lb),_,rfl,sm.put hLH,upd_same,good_jn hg' hlo hlt,sound_jn hs' eqv,by rw [jn_len];exact hlen',fun j c d hj hcd => ?_⟩
        by_cases hji:j < i
        · have:=hed' j c d hji hcd
          rw [jn_at,jn_at,this]
        · have e':j=i:=by omega
          subst e'
          rw [he] at hcd;cases hcd
          rw [jn_at,jn_at,hla,hlb]
          show some _=some _
          unfold ren
          by_cases h:la≤lb
          · rw [Nat.max_eq_right h,Nat.min_eq_left h,if_neg e,if_pos rfl]
          · rw [Nat.max_eq_left (by omega),Nat.min_eq_right (by omega),if_pos rfl,if_neg (fun z=>e z.symm)]
    · rintro σ' H' ⟨ls,x3,rfl,sm,hL',hg',hs',hlen',hed'⟩
      refine key _ _ ⟨ls,x3,rfl,sm,hL',hg',hs',hlen',fun a b h => ?_⟩
      obtain ⟨j,hj⟩:=List.mem_iff_getElem?.mp h
      exact hed' j a b (by rw [hue];exact (List.getElem?_eq_some_iff.mp hj).1) hj
end

end K65
namespace K65
open PySem L2 Sw
section
variable {P:Program} {w:World} {K:PySem.W.Frag} {mg:Str→Option Value} {base:Heap}
theorem kit_ii {K:PySem.W.Frag}:PySem.W.kitOne K (.type "int") (.type "int")=some true:=by rfl
theorem kit_ib {K:PySem.W.Frag}:PySem.W.kitOne K (.type "int") (.type "bool")=some false:=by rfl
theorem kit_ll {K:PySem.W.Frag}:PySem.W.kitOne K (.type "list") (.type "list")=some true:=by rfl
theorem kit_tt {K:PySem.W.Frag}:PySem.W.kitOne K (.type "tuple") (.type "tuple")=some true:=by rfl
inductive SpWhole (vs:List V) (H:Hp) (Q:VK):Prop
  | mk (n:Int) (z0:vs = [.int n]) (z1:Q (.bl true) H):SpWhole  vs H Q
noncomputable def spWhole:Sp:=fun vs H Q _=>SpWhole  vs H Q
theorem ok_whole (B:Blt mg) (D:Def K mg "_law_whole" s_whole ["_law_found"]):Has P w K mg base 1 "_law_whole" ["_law_found"] spWhole:=by
  refine D.has sc_whole (fun vs H Q E h => ?_) (fun f cdv A outer s H vs Q E hr h => ?_)
  · obtain ⟨n,rfl,_⟩:=h;rfl
  obtain ⟨n,rfl,q⟩:=h
  refine ⟨_,(pss_one (ps_ret (pe_and (pe_callB call_isT rfl B.isinstance_ boot_isinstance_ (pa_cons (pv 0) (pa_cons (pe_bltn (v := .ty "int") rfl B.int_ boot_int_ rfl) pa_nil))) (pe_one (pe_not (pe_callB call_isT rfl B.isinstance_ boot_isinstance_ (pa_cons (pv 0) (pa_cons (pe_bltn (v := .ty "bool") rfl B.bool_ boot_bool_ rfl) pa_nil)))))))),?_⟩
  try dsimp only [cxOf]
  refine ⟨_,rfl,_,_,_,true,rfl,.int _,kit_ii,_,rfl,iteT ?_⟩
  exact ⟨_,rfl,_,_,_,false,rfl,.int _,kit_ib,_,rfl,q⟩
theorem all_true:∀ n:Nat,(List.replicate n true).all id=true
  | 0=>rfl
  | n+1=>by rw [List.replicate_succ,List.all_cons,all_true n];rfl
theorem all_bl (xs:List V):(xs.map fun _=>V.bl true)=(List.replicate xs.length true).map V.bl:=by
  rw [List.map_replicate]
  exact List.map_const' ..
end

section
variable {P:Program} {w:World} {K:PySem.W.Frag} {mg:Str→Option Value} {base:Heap}
inductive SpWord2 (vs:List V) (H:Hp) (Q:VK):Prop
  | mk (c h:Int) (z0:vs = [.int c,.int h]) (z1:∀ z:Str,z.length≤8→Q (.str z) H):SpWord2  vs H Q
noncomputable def spWord2:Sp:=fun vs H Q _=>SpWord2  vs H Q
theorem ok_word2 (D:Def K mg "_law_word" s_word ["_law_cell", "_law_head"]):Has P w K mg base 1 "_law_word" ["_law_cell", "_law_head"] spWord2:=by
  refine D.has sc_word (fun vs H Q E h => ?_) (fun f cdv A outer s H vs Q E hr h => ?_)
  · obtain ⟨c,h',rfl,_⟩:=h;rfl
  obtain ⟨c,hd,rfl,q⟩:=h
  refine ⟨_,(pss_cons (ps_set (i:=2) sc_word.nd rfl (Or.inl rfl) pe_str)
    (pss_cons (ps_set (i:=3) sc_word.nd rfl (Or.inl rfl) (pe_op op_mod (pe_op op_mul (pv 0) pe_int) pe_int))
    (pss_cons (ps_set (i:=4) sc_word.nd rfl (Or.inl rfl) (pe_op op_add pe_int (pe_op op_mod (pv 3) pe_int)))
    (pss_cons (ps_if (pt_cmpR op_eq (pe_op op_mod (pv 1) pe_int) pe_int (nomark _)) (pss_one (ps_set (i:=4) sc_word.nd rfl (Or.inl rfl) (pe_op op_add pe_int (pe_op op_mod (pe_op op_fdiv (pv 1) pe_int) pe_int)))) pss_nil)
    (pss_cons (ps_set (i:=5) sc_word.nd rfl (Or.inl rfl) (pe_op op_mod (pe_op op_fdiv (pv 3) pe_int) (pv 4)))
    (pss_cons (ps_set (i:=6) sc_word.nd rfl (Or.inl rfl) (pe_ix ix_str (pv 2) (pe_op op_mod (pe_op op_fdiv (pv 1) pe_int) pe_int) (fun _ _=>rfl)))
    (pss_one (ps_ret (pe_op op_add_str (pe_op op_add_str (pe_op op_mul_str0 (pv 6) (pv 5)) (pe_ix ix_str (pv 2) (pe_op op_mod (pe_op op_fdiv (pv 3) pe_int) pe_int) (fun _ _=>rfl))) (pe_op op_mul_str0 (pv 6) (pe_op op_sub (pe_op op_sub (pv 4) pe_int) (pv 5)))))))))))),?_⟩
  try dsimp only [cxOf]
  refine ⟨_,rfl,_,_,rfl,rfl,.inr ⟨by decide,by decide⟩,_,_,rfl,rfl,pos',?_⟩
  dsimp only [gName]
  generalize c * 69621 % 2147483587=m
  have b0:0≤m % 8:=Int.emod_nonneg _ (by decide)
  have b1:m % 8 < 8:=Int.emod_lt_of_pos _ (by decide)
  have d0:0≤hd / 2 % 8:=Int.emod_nonneg _ (by decide)
  have d1:hd / 2 % 8 < 8:=Int.emod_lt_of_pos _ (by decide)
  refine ⟨_,rfl,_,_,rfl,rfl,pos',_,_,rfl,rfl,?_⟩
  dsimp only [gName]
  refine rd_cut (fun σ' H'=>∃ n:Int, σ' = [some (.int c),some (.int hd),some (.str "abcdefghijklmnopqrstuvwxyz"),some (.int m),some (.int n),none,none]∧H'=H∧1≤n∧n≤8) ?_ (fun key => ?_)
  rotate_left
  · refine ⟨_,rfl,_,_,rfl,rfl,pos',rfl,_,rfl,iteD (fun _ => ?_) (fun _ => ?_)⟩
    · refine ⟨_,rfl,_,_,rfl,rfl,div',_,_,rfl,rfl,pos',_,_,rfl,rfl,?_⟩
      exact key _ _ ⟨_,rfl,rfl,by omega,by omega⟩
    · exact key _ _ ⟨_,rfl,rfl,by omega,by omega⟩
  rintro σ' H' ⟨n,rfl,rfl,h1,h8⟩
  have c0:0≤m / 8 % n:=Int.emod_nonneg _ (by omega)
  have c1:m / 8 % n < n:=Int.emod_lt_of_pos _ (by omega)
  have z1:=abcF_at (hd / 16)
  have z2:=abcF_at (m / 64)
  have hz:("abcdefghijklmnopqrstuvwxyz" : Str).length≤sizeLine:=by decide +kernel
  refine ⟨_,rfl,_,_,rfl,rfl,div',_,rfl,_,_,rfl,rfl,(show (0:Int) < n by omega),?_⟩
  dsimp only [gName]
  generalize m / 8 % n=pl at c0 c1
  refine ⟨_,rfl,_,rfl,_,_,rfl,rfl,div',_,_,rfl,rfl,pos',_,_,_,rfl,rfl,hz,z1,?_⟩
  dsimp only [gName]
  have l1:∀ i,(letF i).length=1:=fun i=>rfl
  have m1:=timesS_len (letF (hd / 16)) pl.toNat
  have m2:=timesS_len (letF (hd / 16)) (n - 1 - pl).toNat
  rw [l1,Nat.mul_one] at m1 m2
  have big:(1000:Nat)≤sizeLine:=by decide
  have l1':∀ c:Nat,(⟨#[c]⟩:Str).length=1:=fun c=>rfl
  refine ⟨_,rfl,_,rfl,_,_,rfl,rfl,c0,by omega,(by rw [l1'];decide),_,rfl,_,rfl,_,_,rfl,rfl,div',_,_,rfl,rfl,pos',_,_,_,rfl,rfl,hz,z2,_,_,rfl,rfl,?_,?_⟩
  · show (timesS (letF (hd / 16)) _).length+(letF (m / 64)).length≤sizeLine
    rw [m1,l1];omega
  refine ⟨_,rfl,_,rfl,_,_,rfl,rfl,_,rfl,_,_,rfl,rfl,_,_,rfl,rfl,by omega,by omega,(by rw [l1'];decide),_,_,rfl,rfl,?_,q _ ?_⟩
  · show (timesS (letF (hd / 16)) _ ++ letF (m / 64)).length+(timesS (letF (hd / 16)) _).length≤sizeLine
    rw [Str.length_append,m1,m2,l1];omega
  · show (timesS (letF (hd / 16)) _ ++ letF (m / 64) ++ timesS (letF (hd / 16)) _).length≤8
    rw [Str.length_append,Str.length_append,m1,m2,l1];omega
noncomputable abbrev BitsOk (c:Int):Prop:=Builtin.Int.intBits c≤2000000
inductive SpNumber (vs:List V) (H:Hp) (Q:VK):Prop
  | mk (c:Int) (z0:vs = [.int c]) (z1:BitsOk c) (z2:∀ n:Int,n.natAbs < 10 ^ 60→Q (.int n) H):SpNumber  vs H Q
noncomputable def spNumber:Sp:=fun vs H Q _=>SpNumber  vs H Q
theorem ok_number (D:Def K mg "_law_number" s_number ["_law_cell"]):Has P w K mg base 1 "_law_number" ["_law_cell"] spNumber:=by
  refine D.has sc_number (fun vs H Q E h => ?_) (fun f cdv A outer s H vs Q E hr h => ?_)
  · obtain ⟨c,rfl,_⟩:=h;rfl
  obtain ⟨c,rfl,hb,q⟩:=h
  refine ⟨_,(pss_cons (ps_set (i:=1) sc_number.nd rfl (Or.inl rfl) (pe_op op_mod (pe_op op_mul (pv 0) pe_int) pe_int))
    (pss_cons (ps_if (pt_cmpR op_eq (pe_op op_mod (pv 1) pe_int) pe_int (nomark _)) (pss_one (ps_ret (pe_op op_sub (pe_op op_mod (pe_op op_mulB (pv 0) (pe_op op_add (pe_op op_mul pe_int (pe_op op_pow pe_int pe_int)) pe_int)) (pe_op op_sub (pe_op op_mul pe_int (pe_op op_pow pe_int pe_int)) pe_int)) (pe_op op_sub (pe_op op_pow pe_int pe_int) pe_int)))) pss_nil)
    (pss_one (ps_ret (pe_op op_sub (pe_op op_mod (pe_op op_fdiv (pv 1) pe_int) pe_int) pe_int))))),?_⟩
  try dsimp only [cxOf]
  refine ⟨_,rfl,_,_,rfl,rfl,.inr ⟨by decide,by decide⟩,_,_,rfl,rfl,pos',?_⟩
  dsimp only [gName]
  generalize c * 40014 % 2147483563=m
  refine ⟨_,rfl,_,_,rfl,rfl,pos',rfl,_,rfl,iteD (fun _ => ?_) (fun _ => ?_)⟩
  · have hm:IntMulOk c (7 * 10 ^ (59:Int).toNat+3):=IntMulOk.of_le (n:=250) hb (intBits_le_iff.mpr (by decide)) (by decide)
    refine ⟨_,rfl,10,59,rfl,rfl,⟨by decide,by decide,by decide⟩,_,_,rfl,rfl,.inl ⟨by decide,by decide⟩,_,_,rfl,rfl,_,_,rfl,rfl,hm,?_⟩
    refine ⟨10,60,rfl,rfl,⟨by decide,by decide,by decide⟩,_,_,rfl,rfl,.inl ⟨by decide,by decide⟩,_,_,rfl,rfl,_,_,rfl,rfl,(by show (0:Int) < 2 * 10 ^ 60 - 1;decide),10,60,rfl,rfl,⟨by decide,by decide,by decide⟩,_,_,rfl,rfl,_,_,rfl,rfl,?_⟩
    refine q _ ?_
    generalize c * (7 * 10 ^ (59:Int).toNat+3)=x
    have h0:0≤x % (2 * 10 ^ 60 - 1):=Int.emod_nonneg _ (by decide)
    have h1:x % (2 * 10 ^ 60 - 1) < 2 * 10 ^ 60 - 1:=Int.emod_lt_of_pos _ (by decide)
    show (x % (2 * 10 ^ 60 - 1) - (10 ^ 60 - 1)).natAbs < 10 ^ 60
    generalize x % (2 * 10 ^ 60 - 1)=y at h0 h1
    omega
  · have h0:0≤m / 3 % 7:=Int.emod_nonneg _ (by decide)
    have h1:m / 3 % 7 < 7:=Int.emod_lt_of_pos _ (by decide)
    refine ⟨_,rfl,_,_,rfl,rfl,div',_,_,rfl,rfl,pos',_,_,rfl,rfl,q _ ?_⟩
    show (m / 3 % 7 - 3).natAbs < 10 ^ 60
    generalize m / 3 % 7=y at h0 h1
    omega
theorem atI_ex {xs:List V} {i:Int} (h0:0≤i) (h1:i < xs.length):∃ v,atI xs i=some v∧v∈xs:=by
  have hi:i.toNat < xs.length:=by omega
  have z:atI xs ((i.toNat:Nat):Int)=some xs[i.toNat]:=atI_nat (List.getElem?_eq_getElem hi)
  rw [show ((i.toNat:Nat):Int)=i by omega] at z
  exact ⟨_,z,List.getElem_mem hi⟩
theorem cut_int {xs:List V} {n:Int} (h0:0≤n) (h1:n≤xs.length):cutV xs none (some n)=xs.take n.toNat:=by
  have:=cut_take (xs:=xs) (k:=n.toNat) (by omega)
  rwa [show ((n.toNat:Nat):Int)=n by omega] at this
noncomputable def TmOk (many:Nat) (t:Tm):Prop := ∀ x as,t = .of x as→as.length≤4∧1≤as.length∧∀ a∈as,a < many
inductive SpKnot (vs:List V) (H:Hp) (Q:VK):Prop
  | mk (c:Int) (many:Nat) (h:Int) (z0:vs = [.int c,nV many,.int h]) (z1:0 < many) (z2:∀ v H' t,Same H H'→IsTm H' t v→TmOk many t→Q v H'):SpKnot  vs H Q
noncomputable def spKnot:Sp:=fun vs H Q _=>SpKnot  vs H Q
theorem ok_knot (B:Blt mg) (h_word:Has P w K mg base 1 "_law_word" ["_law_cell", "_law_head"] spWord2) (D:Def K mg "_law_knot" s_knot ["_law_cell", "_law_many", "_law_head"]):Has P w K mg base 2 "_law_knot" ["_law_cell", "_law_many", "_law_head"] spKnot:=by
  refine D.has sc_knot (fun vs H Q E h => ?_) (fun f cdv A outer s H vs Q E hr h => ?_)
  · obtain ⟨c,many,h',rfl,_⟩:=h;rfl
  obtain ⟨c,many,hd,rfl,hm,q⟩:=h
  refine ⟨_,(pss_cons (ps_set (i:=3) sc_knot.nd rfl (Or.inl rfl) (pe_op op_mod (pe_op op_mul (pv 0) pe_int) pe_int))
    (pss_cons (ps_set (i:=4) sc_knot.nd rfl (Or.inl rfl) (pe_ix ix_list (pe_lst (pa_strsB (L := ["plus", "times", "neg", "bind", "plus", "bind"]) (by decide +kernel))) (pe_op op_mod (pv 3) pe_int) (fun _ _=>rfl)))
    (pss_cons (ps_set (i:=5) sc_knot.nd rfl (Or.inl rfl) (pe_op op_sub pe_int (pe_callTy call_intB rfl B.int_ boot_int_ (pa_cons (pe_cmpR op_eq (pv 4) pe_str (nomark _)) pa_nil))))
    (pss_cons (ps_if (pt_cmpR op_gt (pe_op op_mod (pe_op op_fdiv (pv 3) pe_int) pe_int) pe_int (nomark _)) (pss_one (ps_set (i:=5) sc_knot.nd rfl (Or.inl rfl) (pe_op op_add pe_int (pe_op op_mod (pe_op op_fdiv (pv 3) pe_int) pe_int)))) pss_nil)
    (pss_cons (ps_if (pt_cmpR op_eq (pe_op op_mod (pe_op op_fdiv (pv 3) pe_int) pe_int) pe_int (nomark _)) (pss_one (ps_set (i:=4) sc_knot.nd rfl (Or.inl rfl) (pe_callH h_word hr (by omega) rfl (pa_cons (pe_op op_mod (pe_op op_fdiv (pv 3) pe_int) pe_int) (pa_cons (pv 2) pa_nil))))) pss_nil)
    (pss_cons (ps_set (i:=6) sc_knot.nd rfl (Or.inl rfl) (pe_slice sl_list (pe_lst (pa_intsB (L := [40692,39373,69069,30323]) (by decide +kernel))) po_none (po_some (pv 5))))
    (pss_one (ps_ret (pe_tup (pa_cons pe_str (pa_cons (pv 4) (pa_cons (pe_callTy call_tuple_of rfl B.tuple_ boot_tuple_ (pa_cons (pe_comp (te:=(tOp _ (tOp _ (tOp _ _ _) _) _)) (own := ["_law_factor"]) (caps := [("_law_many",1),("_law_cell",0)]) (comp_scope (defScope s_knot) ["_law_cell", "_law_many", "_law_head", "_law_m", "_law_word_here", "_law_count", "_law_factors"] rfl rfl rfl (by decide +kernel)) (pi_list (pv 6)) rfl (fun _ _ _=>pg_name (i:=0) (show (["_law_factor", "_law_many", "_law_cell"]:List Str).Nodup by decide +kernel) rfl (Or.inl rfl)) (fun _ _ _=>(pe_op op_mod (pe_op op_mod (pe_op op_mulB (pv 2) (pv 0)) pe_int) (pv 1)))) pa_nil)) pa_nil)))))))))))),?_⟩
  try dsimp only [cxOf]
  refine ⟨_,rfl,_,_,rfl,rfl,.inr ⟨by decide,by decide⟩,_,_,rfl,rfl,pos',?_⟩
  dsimp only [gName]
  generalize c * 16807 % 2147483629=m
  have b0:0≤m % 6:=Int.emod_nonneg _ (by decide)
  have b1:m % 6 < 6:=Int.emod_lt_of_pos _ (by decide)
  refine ⟨(show 6≤sizeLine by decide),fun p hp => ?_⟩
  have s0:=same_new hp (.lst ((["plus", "times", "neg", "bind", "plus", "bind"]:List Str).map V.str))
  have hP:=upd_same (H:=H) (a:=p) (o := .lst ((["plus", "times", "neg", "bind", "plus", "bind"]:List Str).map V.str))
  generalize upd H p (.lst ((["plus", "times", "neg", "bind", "plus", "bind"]:List Str).map V.str))=H0 at s0 hP ⊢
  obtain ⟨v,hv,hvm⟩:=atI_ex (xs:=(["plus", "times", "neg", "bind", "plus", "bind"]:List Str).map V.str) b0 (by show m % 6 < 6;exact b1)
  obtain ⟨wd,_,rfl⟩:=List.mem_map.mp hvm
  refine ⟨_,rfl,_,_,rfl,rfl,pos',p,_,_,_,rfl,rfl,SqL.of hP,hv,?_⟩
  dsimp only [gName]
  clear hv hvm hP
  refine ⟨_,rfl,rfl,_,rfl,_,_,rfl,rfl,?_⟩
  dsimp only [gName]
  have k1:∀ bb:Bool,1≤2 - (if bb=true then (1:Int) else 0)∧2 - (if bb=true then (1:Int) else 0)≤4:=fun bb=>by cases bb <;> decide
  have k2:=k1 (decide (V.str wd=V.str "neg"))
  generalize (2:Int) - (if decide (V.str wd=V.str "neg")=true then (1:Int) else 0)=cn at k2 ⊢
  refine rd_cut (fun σ' H'=>∃ n:Int, σ' = [some (.int c),some (nV many),some (.int hd),some (.int m),some (.str wd),some (.int n),none]∧H'=H0∧1≤n∧n≤4) ?_ (fun key => ?_)
  rotate_left
  · refine ⟨_,rfl,_,_,rfl,rfl,div',_,_,rfl,rfl,pos',_,_,rfl,rfl,_,rfl,iteD (fun _ => ?_) (fun _ => ?_)⟩
    · have d0:0≤m / 24 % 4:=Int.emod_nonneg _ (by decide)
      have d1:m / 24 % 4 < 4:=Int.emod_lt_of_pos _ (by decide)
      refine ⟨_,rfl,_,_,rfl,rfl,div',_,_,rfl,rfl,pos',_,_,rfl,rfl,?_⟩
      exact key _ _ ⟨_,rfl,rfl,by omega,by omega⟩
    · exact key _ _ ⟨_,rfl,rfl,k2.1,k2.2⟩
  rintro σ' Ha ⟨n,rfl,rfl,n1,n4⟩
  refine rd_cut (fun σ' H'=>∃ wd:Str, σ' = [some (.int c),some (nV many),some (.int hd),some (.int m),some (.str wd),some (.int n),none]∧H'=Ha) ?_ (fun key => ?_)
  rotate_left
  · refine ⟨_,rfl,_,_,rfl,rfl,div',_,_,rfl,rfl,pos',rfl,_,rfl,iteD (fun _ => ?_) (fun _ => ?_)⟩
    · refine ⟨_,rfl,_,_,rfl,rfl,div',_,_,rfl,rfl,pos',_,rfl,_,_,rfl,fun z _ => ?_⟩
      exact key _ _ ⟨_,rfl,rfl⟩
    · exact key _ _ ⟨_,rfl,rfl⟩
  rintro σ' Hb ⟨wd,rfl,rfl⟩
  refine ⟨(show 4≤sizeLine by decide),fun p2 hp2 => ?_⟩
  have s1:=same_new hp2 (.lst (([40692,39373,69069,30323]:List Int).map V.int))
  have hP2:=upd_same (H:=Hb) (a:=p2) (o := .lst (([40692,39373,69069,30323]:List Int).map V.int))
  generalize upd Hb p2 (.lst (([40692,39373,69069,30323]:List Int).map V.int))=H1 at s1 hP2 ⊢
  refine ⟨_,rfl,_,rfl,p2,_,rfl,SqL.of hP2,fun p3 hp3 => ?_⟩
  dsimp only [gName]
  have ec:cutV (([40692,39373,69069,30323]:List Int).map V.int) none (some n)=(([40692,39373,69069,30323]:List Int).take n.toNat).map V.int:=by
    rw [cut_int (by omega) (by show n≤4;exact n4),List.map_take]
  have hfs:∀ f∈([40692,39373,69069,30323]:List Int).take n.toNat,0≤f∧f < 100000:=fun f hf=>by
    have:=List.mem_of_mem_take hf
    revert this
    simp only [List.mem_cons,List.not_mem_nil,or_false]
    omega
  have hfl:(([40692,39373,69069,30323]:List Int).take n.toNat).length=n.toNat:=by rw [List.length_take];show min n.toNat 4=n.toNat;omega
  rw [ec]
  generalize ([40692,39373,69069,30323]:List Int).take n.toNat=fs at hfs hfl ⊢
  have s2:=same_new hp3 (.lst (fs.map V.int))
  have hP3:=upd_same (H:=H1) (a:=p3) (o := .lst (fs.map V.int))
  generalize upd H1 p3 (.lst (fs.map V.int))=H2 at s2 hP3 ⊢
  refine ⟨_,rfl,_,rfl,p3,rfl,⟨_,SqL.of hP3⟩,?_⟩
  refine comp_list (xs:=fs.map V.int) (fun x => .int (c * vI x % 2147483549 % (many:Int))) (SqL.of hP3) (by rw [List.length_map];omega) (fun x hx H' sm Q' q' => ?_) (fun D1 hD1 => ?_)
  · obtain ⟨f,hf,rfl⟩:=List.mem_map.mp hx
    have:=hfs f hf
    exact ⟨_,rfl,_,rfl,_,_,rfl,rfl,IntMulOk.of_right (intBits_le_64 (by omega) (by omega)),_,_,rfl,rfl,pos',_,rfl,_,_,rfl,rfl,(show (0:Int) < (many:Int) by omega),q'⟩
  have ea:(fs.map V.int).map (fun x=>V.int (c * vI x % 2147483549 % (many:Int)))=(fs.map fun f=>(c * f % 2147483549 % (many:Int)).toNat).map nV:=by
    rw [List.map_map,List.map_map]
    refine List.map_congr_left fun f _ => ?_
    have a1:0≤c * f % 2147483549 % (many:Int):=Int.emod_nonneg _ (by omega)
    show V.int (c * f % 2147483549 % (many:Int))=V.int (((c * f % 2147483549 % (many:Int)).toNat:Nat):Int)
    congr 1
    omega
  rw [ea]
  have hlt:∀ a∈(fs.map fun f=>(c * f % 2147483549 % (many:Int)).toNat),a < many:=fun a ha=>by
    obtain ⟨f,_,rfl⟩:=List.mem_map.mp ha
    have a1:0≤c * f % 2147483549 % (many:Int):=Int.emod_nonneg _ (by omega)
    have a2:c * f % 2147483549 % (many:Int) < many:=Int.emod_lt_of_pos _ (by omega)
    omega
  have hal:(fs.map fun f=>(c * f % 2147483549 % (many:Int)).toNat).length=n.toNat:=by rw [List.length_map,hfl]
  generalize (fs.map fun f=>(c * f % 2147483549 % (many:Int)).toNat)=as at hlt hal ⊢
  refine ⟨D1,_,rfl,.inl ⟨SqL.of upd_same,fun l hl => ?_⟩⟩
  refine ⟨(show 3≤sizeLine by decide),fun t ht=>q _ _ (.of wd as) (s0.trans (s1.trans (s2.trans ((same_new hD1 _).trans ((same_new hl _).trans (same_new ht _)))))) ⟨t,l,rfl,upd_same,?_⟩ fun x as' e => ?_⟩
  · rw [upd_ne (ne_of_none upd_same ht),upd_same]
  · cases e
    exact ⟨by omega,by omega,hlt⟩
end

end K65
namespace K65
open PySem L2 Sw
section
variable {P:Program} {w:World} {K:PySem.W.Frag} {mg:Str→Option Value} {base:Heap}
inductive SpTermM (vs:List V) (H:Hp) (Q:VK):Prop
  | mk (c:Int) (many:Nat) (h:Int) (z0:vs = [.int c,nV many,.int h]) (z1:BitsOk c) (z2:∀ v H' t,Same H H'→IsTm H' t v→TmOk many t→Q v H'):SpTermM  vs H Q
noncomputable def spTermM:Sp:=fun vs H Q _=>SpTermM  vs H Q
theorem leaf_num {many:Nat} {n:Int}:TmOk many (.num n):=fun x as e=>nomatch e
theorem leaf_name {many:Nat} {n:Str}:TmOk many (.name n):=fun x as e=>nomatch e
theorem ok_termM (B:Blt mg) (h_word:Has P w K mg base 1 "_law_word" ["_law_cell", "_law_head"] spWord2) (h_number:Has P w K mg base 1 "_law_number" ["_law_cell"] spNumber) (h_knot:Has P w K mg base 2 "_law_knot" ["_law_cell", "_law_many", "_law_head"] spKnot)
    (D:Def K mg "_law_term" s_term ["_law_cell", "_law_many", "_law_head"]):Has P w K mg base 3 "_law_term" ["_law_cell", "_law_many", "_law_head"] spTermM:=by
  refine D.has sc_term (fun vs H Q E h => ?_) (fun f cdv A outer s H vs Q E hr h => ?_)
  · obtain ⟨c,many,h',rfl,_⟩:=h;rfl
  obtain ⟨c,many,hd,rfl,hb,q⟩:=h
  refine ⟨_,(pss_cons (ps_set (i:=3) sc_term.nd rfl (Or.inl rfl) (pe_op op_mod (pe_op op_mul (pv 0) pe_int) pe_int))
    (pss_cons (ps_if (pt_cmpR op_lt (pe_op op_mod (pv 3) pe_int) pe_int (nomark _)) (pss_one (ps_ret (pe_tup (pa_cons pe_str (pa_cons (pe_callH h_number hr (by omega) rfl (pa_cons (pv 0) pa_nil)) pa_nil))))) pss_nil)
    (pss_cons (ps_if (PW.pt (pw_or (pt_cmpR op_lt (pe_op op_mod (pv 3) pe_int) pe_int (nomark _)) (pw_or1 (pt_cmpR op_eq (pv 1) pe_int (nomark _))))) (pss_cons (ps_if (pt_cmpR op_eq (pe_op op_mod (pe_op op_fdiv (pv 3) pe_int) pe_int) pe_int (nomark _)) (pss_one (ps_ret (pe_tup (pa_cons pe_str (pa_cons (pe_callH h_word hr (by omega) rfl (pa_cons (pe_op op_mod (pe_op op_fdiv (pv 3) pe_int) pe_int) (pa_cons (pv 2) pa_nil))) pa_nil))))) pss_nil)
    (pss_cons (ps_if (pt_cmpR op_eq (pe_op op_mod (pe_op op_fdiv (pv 3) pe_int) pe_int) pe_int (nomark _)) (pss_one (ps_ret (pe_tup (pa_cons pe_str (pa_cons (pe_ix ix_list (pe_lst (pa_strsB (L := ["plus", "times", "neg", "bind"]) (by decide +kernel))) (pe_op op_mod (pe_op op_fdiv (pv 3) pe_int) pe_int) (fun _ _=>rfl)) pa_nil))))) pss_nil)
    (pss_one (ps_ret (pe_tup (pa_cons pe_str (pa_cons (pe_callH h_word hr (by omega) rfl (pa_cons (pv 0) (pa_cons (pv 2) pa_nil))) pa_nil))))))) pss_nil)
    (pss_one (ps_ret (pe_callH h_knot hr (by omega) rfl (pa_cons (pv 0) (pa_cons (pv 1) (pa_cons (pv 2) pa_nil))))))))),?_⟩
  try dsimp only [cxOf]
  refine ⟨_,rfl,_,_,rfl,rfl,.inr ⟨by decide,by decide⟩,_,_,rfl,rfl,pos',?_⟩
  dsimp only [gName]
  generalize c * 48271 % 2147483647=m
  refine ⟨_,rfl,_,_,rfl,rfl,pos',_,_,rfl,rfl,_,rfl,iteD (fun _ => ?_) (fun _ => ?_)⟩
  · refine ⟨_,rfl,c,rfl,hb,fun n _ => ?_⟩
    exact ⟨(show 2≤sizeLine by decide),fun t ht=>q _ _ (.num n) (same_new ht _) ⟨t,rfl,upd_same⟩ leaf_num⟩
  have nm:∀ z:Str,(2:Nat)≤sizeLine∧∀ p,H p=none→Q (.ref p) (upd H p (.tup [.str "name",.str z])):=fun z=>⟨by decide,fun t ht=>q _ _ (.name z) (same_new ht _) ⟨t,rfl,upd_same⟩ leaf_name⟩
  have b0:0≤m / 50 % 4:=Int.emod_nonneg _ (by decide)
  have b1:m / 50 % 4 < 4:=Int.emod_lt_of_pos _ (by decide)
  by_cases h4:m % 10 < 4∨many=0
  · dsimp only [tNext]
    show tIfS _ _ _ _ _ _
    refine rd_if2 (fun b H'=>b=true∧H'=H) (fun Q' hQ' => ?_) (fun H' hR => ?_) (fun H' hR => ?_)
    · refine ⟨_,rfl,_,_,rfl,rfl,pos',_,_,rfl,rfl,_,rfl,iteD (fun _=>hQ' _ _ ⟨rfl,rfl⟩) (fun z => ?_)⟩
      refine ⟨_,rfl,rfl,_,rfl,?_⟩
      have hm:many=0:=by rcases h4 with h | h;exact absurd h z;exact h
      subst hm
      exact hQ' _ _ ⟨by rw [decide_eq_true_iff];rfl,rfl⟩
    · obtain ⟨_,rfl⟩:=hR
      refine ⟨_,rfl,_,_,rfl,rfl,div',_,_,rfl,rfl,pos',rfl,_,rfl,iteD (fun _ => ?_) (fun _ => ?_)⟩
      · exact ⟨_,rfl,_,_,rfl,rfl,div',_,_,rfl,rfl,pos',_,rfl,_,_,rfl,fun z _=>nm z⟩
      refine ⟨_,rfl,_,_,rfl,rfl,div',_,_,rfl,rfl,pos',rfl,_,rfl,iteD (fun _ => ?_) (fun _ => ?_)⟩
      · refine ⟨(show 4≤sizeLine by decide),fun p hp => ?_⟩
        obtain ⟨v,hv,hvm⟩:=atI_ex (xs:=(["plus", "times", "neg", "bind"]:List Str).map V.str) b0 (by show m / 50 % 4 < 4;exact b1)
        obtain ⟨z,_,rfl⟩:=List.mem_map.mp hvm
        refine ⟨_,rfl,_,_,rfl,rfl,div',_,_,rfl,rfl,pos',p,_,_,_,rfl,rfl,SqL.of upd_same,hv,?_⟩
        exact ⟨(show 2≤sizeLine by decide),fun t ht=>q _ _ (.name z) ((same_new hp _).trans (same_new ht _)) ⟨t,rfl,upd_same⟩ leaf_name⟩
      · exact ⟨_,rfl,_,rfl,_,_,rfl,fun z _=>nm z⟩
    · cases hR.1
  · dsimp only [tNext]
    show tIfS _ _ _ _ _ _
    refine rd_if2 (fun b H'=>b=false∧H'=H) (fun Q' hQ' => ?_) (fun H' hR => ?_) (fun H' hR => ?_)
    · refine ⟨_,rfl,_,_,rfl,rfl,pos',_,_,rfl,rfl,_,rfl,iteD (fun z=>absurd (.inl z) h4) (fun z => ?_)⟩
      refine ⟨_,rfl,rfl,_,rfl,?_⟩
      refine hQ' _ _ ⟨?_,rfl⟩
      rw [decide_eq_false_iff_not]
      intro e
      have:=V.int.inj e
      exact h4 (.inr (by omega))
    · cases hR.1
    · obtain ⟨_,rfl⟩:=hR
      exact ⟨_,rfl,_,rfl,_,rfl,c,many,hd,rfl,by omega,q⟩
theorem tsok_snoc {ts:List Tm} {t:Tm} (h:TsOk ts) (ht:TmOk ts.length t) (hn:tmD t ∉ ts.map tmD):TsOk (ts ++ [t]):=by
  have key:∀ (i:Nat) y as,(ts ++ [t])[i]? = some (.of y as)→ts[i]? = some (.of y as)∨(i=ts.length∧t = .of y as):=fun i y as e=>by
    by_cases hi:i < ts.length
    · rw [List.getElem?_append_left hi] at e;exact .inl e
    · rw [List.getElem?_append_right (by omega)] at e
      by_cases h0:i - ts.length=0
      · rw [h0] at e
        exact .inr ⟨by omega,by simpa using e⟩
      · rw [List.getElem?_eq_none (by simp;omega)] at e;cases e
  refine ⟨fun i y as e a ha => ?_,fun i y as e => ?_,?_⟩
  · rcases key i y as e with e' | ⟨rfl,e'⟩
    · exact h.1 i y as e' a ha
    · exact (ht _ _ e').2.2 a ha
  · rcases key i y as e with e' | ⟨rfl,e'⟩
    · exact h.2.1 i y as e'
    · exact ⟨(ht _ _ e').1,(ht _ _ e').2.1⟩
  · rw [List.nodup_append]
    refine ⟨h.2.2,by simp,fun a ha b hb => ?_⟩
    rw [List.mem_singleton.mp hb]
    intro e
    exact hn (List.mem_map.mpr ⟨a,ha,by rw [e]⟩)
structure MadeOk (H H':Hp) (T E:Addr) (us evs:List V) (ts:List Tm) (es:List (Nat × Nat)):Prop where
  same:Same H H'
  t0:H T=none
  e0:H E=none
  te:T≠E
  hT:H' T=some (.lst us)
  tms:Tms H' us ts
  hE:H' E=some (.lst evs)
  eds:Edges H' evs es
  ok:TsOk ts
  few:ts.length≤16
  lt:∀ a b:Nat,(a,b)∈es→a < ts.length∧b < ts.length
theorem paired_snoc_lt {ts:List Tm} {es:List (Nat × Nat)} {a b:Nat} (h:∀ a b:Nat,(a,b)∈es→a < ts.length∧b < ts.length) (ha:a < ts.length) (hb:b < ts.length):∀ x y:Nat,(x,y)∈es ++ [(a,b)]→x < ts.length∧y < ts.length:=fun x y hm=>by
  rcases List.mem_append.mp hm with hm | hm
  · exact h x y hm
  · have:=List.mem_singleton.mp hm
    cases this
    exact ⟨ha,hb⟩
inductive SpMade (K:PySem.W.Frag) (vs:List V) (H:Hp) (Q:VK):Prop
  | mk (a:Addr) (ns:List Int) (z0:vs = [.ref a]) (z1:SqL K H a (ns.map V.int)) (z2:ns.length≤63) (z3:(∀ c∈ns,BitsOk c)) (z4:∀ p T E us evs ts es H',MadeOk H H' T E us evs ts es→H' p=some (.tup [.ref T,.ref E])→(ns.length=0→ts.length=0)→evs.length≤63→Q (.ref p) H'):SpMade K vs H Q
noncomputable def spMade (K:PySem.W.Frag):Sp:=fun vs H Q _=>SpMade K vs H Q
theorem ok_made (B:Blt mg) (h_term:Has P w K mg base 3 "_law_term" ["_law_cell", "_law_many", "_law_head"] spTermM) (D:Def K mg "_law_made" s_made ["_law_script"]):Has P w K mg base 4 "_law_made" ["_law_script"] (spMade K):=by
  refine D.has sc_made (fun vs H Q E h => ?_) (fun f cdv A outer s H vs Q E hr h => ?_)
  · obtain ⟨a,ns,rfl,_⟩:=h;rfl
  obtain ⟨a,ns,rfl,hS,h63,hbits,q⟩:=h
  refine ⟨_,(pss_cons (ps_set (i:=1) sc_made.nd rfl (Or.inl rfl) pe_int)
    (pss_cons (ps_if (pt_cmpR op_gt (pe_callB call_len_seq rfl B.len_ PySem.boot_len (pa_cons (pv 0) pa_nil)) pe_int (nomark _)) (pss_one (ps_set (i:=1) sc_made.nd rfl (Or.inl rfl) (pe_op op_mod (pe_ix ix_list (pv 0) pe_int (fun _ _=>rfl)) pe_int))) pss_nil)
    (pss_cons (ps_set (i:=2) sc_made.nd rfl (Or.inl rfl) (pe_ix ix_list (pe_lst (pa_cons pe_int (pa_cons pe_int (pa_cons pe_int pa_nil)))) (pe_op op_mod (pv 1) pe_int) (fun _ _=>rfl)))
    (pss_cons (ps_set (i:=3) sc_made.nd rfl (Or.inl rfl) (pe_lst pa_nil))
    (pss_cons (ps_set (i:=4) sc_made.nd rfl (Or.inl rfl) (pe_lst pa_nil))
    (pss_cons (ps_for PassesOwn.never rfl (pi_list (pe_slice sl_list (pv 0) po_none (po_some pe_int))) (pg_name (i:=5) sc_made.nd rfl (Or.inl rfl))
    (pss_cons (ps_if (pt_cmpR op_lt (pe_callB call_len_seq rfl B.len_ PySem.boot_len (pa_cons (pv 3) pa_nil)) pe_int (nomark _)) (pss_cons (ps_set (i:=6) sc_made.nd rfl (Or.inl rfl) (pe_callH h_term hr (by omega) rfl (pa_cons (pv 5) (pa_cons (pe_callB call_len_seq rfl B.len_ PySem.boot_len (pa_cons (pv 3) pa_nil)) (pa_cons (pv 1) pa_nil)))))
    (pss_one (ps_if (pt_cmpR (op_notInD (un101 hr)) (pv 6) (pv 3) (by with_unfolding_all rfl)) (pss_one (ps_expr (pe_bm PySem.F.plainAttrs_list PySem.F.slot_list_append PySem.F.type_list_append mt_append (pv 3) (pa_cons (pv 6) pa_nil)))) pss_nil))) pss_nil)
    (pss_cons (ps_set (i:=7) sc_made.nd rfl (Or.inl rfl) (pe_op op_mod (pe_op op_mul (pv 5) pe_int) pe_int))
    (pss_one (ps_if (pt_cmpR op_eq (pe_op op_mod (pv 7) (pv 2)) pe_int (nomark _)) (pss_cons (ps_set (i:=8) sc_made.nd rfl (Or.inl rfl) (pe_op op_mod (pe_op op_fdiv (pv 7) pe_int) (pe_callB call_len_seq rfl B.len_ PySem.boot_len (pa_cons (pv 3) pa_nil))))
    (pss_cons (ps_set (i:=9) sc_made.nd rfl (Or.inl rfl) (pe_op op_mod (pe_op op_mod (pe_op op_mul (pv 5) pe_int) pe_int) (pe_callB call_len_seq rfl B.len_ PySem.boot_len (pa_cons (pv 3) pa_nil))))
    (pss_one (ps_expr (pe_bm PySem.F.plainAttrs_list PySem.F.slot_list_append PySem.F.type_list_append mt_append (pv 4) (pa_cons (pe_tup (pa_cons (pv 8) (pa_cons (pv 9) (pa_cons (pe_op op_add pe_int (pe_op op_mod (pv 5) (pe_op op_pow pe_int pe_int))) (pa_cons (pe_tup (pa_cons pe_str pa_nil)) pa_nil))))) pa_nil)))))) pss_nil)))))
    (pss_one (ps_ret (pe_tup (pa_cons (pv 3) (pa_cons (pv 4) pa_nil))))))))))),?_⟩
  try dsimp only [cxOf]
  have hnl:(ns.map V.int).length=ns.length:=List.length_map ..
  refine rd_cut (fun σ' H' => σ' = [some (.ref a),some (.int 0),none,none,none,none,none,none,none,none]∧H'=H) ?_ (fun key=>key _ _ ⟨rfl,rfl⟩)
  rintro σ0 H ⟨rfl,rfl⟩
  refine rd_cut (fun σ' H'=>∃ hd:Int, σ' = [some (.ref a),some (.int hd),none,none,none,none,none,none,none,none]∧H'=H) ?_ (fun key => ?_)
  rotate_left
  · refine ⟨_,rfl,a,_,rfl,.inl hS,_,_,rfl,rfl,_,rfl,iteD (fun z => ?_) (fun _ => ?_)⟩
    · rw [hnl] at z
      obtain ⟨v,hv,hvm⟩:=atI_ex (xs:=ns.map V.int) (i:=0) (Int.le_refl _) (by rw [hnl];exact z)
      obtain ⟨c,_,rfl⟩:=List.mem_map.mp hvm
      refine ⟨_,rfl,a,_,_,_,rfl,rfl,hS,hv,_,_,rfl,rfl,pos',?_⟩
      exact key _ _ ⟨_,rfl,rfl⟩
    · exact key _ _ ⟨_,rfl,rfl⟩
  rintro σ' H ⟨hd,rfl,rfl⟩
  refine ⟨(show 3≤sizeLine by decide),fun p hp => ?_⟩
  have b0:0≤hd % 3:=Int.emod_nonneg _ (by decide)
  have b1:hd % 3 < 3:=Int.emod_lt_of_pos _ (by decide)
  have hr3:∃ r:Int,0 < r∧atI ([V.int 2,V.int 3,V.int 6]) (hd % 3)=some (.int r):=by
    rcases (show hd % 3=0∨hd % 3=1∨hd % 3=2 by omega) with e | e | e <;> rw [e]
    · refine ⟨_,?_,rfl⟩;decide
    · refine ⟨_,?_,rfl⟩;decide
    · refine ⟨_,?_,rfl⟩;decide
  obtain ⟨r,hr0,hv⟩:=hr3
  have s0:=same_new hp (.lst [V.int 2,V.int 3,V.int 6])
  refine ⟨_,rfl,_,_,rfl,rfl,pos',p,_,_,_,rfl,rfl,SqL.of upd_same,hv,?_⟩
  dsimp only [gName]
  generalize upd H p (.lst [V.int 2,V.int 3,V.int 6])=H0 at s0 ⊢
  refine ⟨Nat.zero_le _,fun T hT => ?_⟩
  dsimp only [gName]
  have s1:=same_new hT (.lst [])
  have hT1:=upd_same (H:=H0) (a:=T) (o := .lst [])
  generalize upd H0 T (.lst [])=H1 at s1 hT1 ⊢
  refine ⟨Nat.zero_le _,fun E1 hE => ?_⟩
  dsimp only [gName]
  have s2:=same_new hE (.lst [])
  have hE2:=upd_same (H:=H1) (a:=E1) (o := .lst [])
  generalize upd H1 E1 (.lst [])=H2 at s2 hE2 ⊢
  have hTE:T≠E1:=fun e=>by rw [e,hE] at hT1;cases hT1
  have g2:=s0.trans (s1.trans s2)
  have hT0:H T=none:=s0.free hT
  have hE0:H E1=none:=(s0.trans s1).free hE
  refine ⟨_,rfl,_,rfl,a,_,rfl,g2.seq hS,fun sl hsl => ?_⟩
  have hcm:∀ x∈cutV (ns.map V.int) none (some 90),∃ c:Int,x = .int c∧BitsOk c:=fun x hx=>by
    obtain ⟨c,hc,rfl⟩:=List.mem_map.mp (cutV_mem hx)
    exact ⟨c,rfl,hbits c hc⟩
  have hcl:=cutV_length (ns.map V.int) none (some 90)
  rw [hnl] at hcl
  generalize cutV (ns.map V.int) none (some 90)=cs at hcm hcl ⊢
  have s3:=same_new hsl (.lst cs)
  have hsl3:=upd_same (H:=H2) (a:=sl) (o := .lst cs)
  have hTsl:T≠sl:=fun e=>by rw [e] at hT1;have:=s2 _ _ hT1;rw [hsl] at this;cases this
  have hEsl:E1≠sl:=fun e=>by rw [e,hsl] at hE2;cases hE2
  have hT3:=s3 _ _ (s2 _ _ hT1)
  have hE3:=s3 _ _ hE2
  have g3:=g2.trans s3
  generalize upd H2 sl (.lst cs)=H3 at s3 hsl3 hT3 hE3 g3 ⊢
  refine ⟨sl,rfl,⟨_,SqL.of hsl3⟩,?_⟩
  refine for_list (xs:=cs) (fun i σ H'=>∃ (us evs:List V) (ts:List Tm) (es:List (Nat × Nat)) (x5 x6 x7 x8 x9:Option V), σ = [some (.ref a),some (.int hd),some (.int r),some (.ref T),some (.ref E1),x5,x6,x7,x8,x9]∧MadeOk H H' T E1 us evs ts es∧H' sl=some (.lst cs)∧ts.length≤i∧evs.length≤i)
    ⟨[], [], [], [],none,none,none,none,none,rfl,⟨g3,hT0,hE0,hTE,hT3,.nil,hE3,.nil,tsok_nil,Nat.zero_le _,fun a b h=>nomatch h⟩,hsl3,Nat.le_refl _,Nat.le_refl _⟩ ?_ ?_ ?_
  · rintro i σ H' _ ⟨us,evs,ts,es,x5,x6,x7,x8,x9,rfl,mo,h1,_⟩
    exact SqL.of h1
  · rintro i x σ H' hx ⟨us,evs,ts,es,x5,x6,x7,x8,x9,rfl,mo,h1,hti,hei⟩
    obtain ⟨c,rfl,hbc⟩:=hcm x (List.mem_of_getElem? hx)
    have hlen:=Paired.length mo.tms
    have hi:i < cs.length:=(List.getElem?_eq_some_iff.mp hx).1
    show tSeq _ _ _ _ _
    refine rd_cut (fun σ' H4=>∃ (us:List V) (ts:List Tm) (x6 x7:Option V), σ' = [some (.ref a),some (.int hd),some (.int r),some (.ref T),some (.ref E1),some (.int c),x6,x7,x8,x9]∧MadeOk H H4 T E1 us evs ts es∧H4 sl=some (.lst cs)∧ts.length≤i+1∧0 < ts.length) ?_ (fun key => ?_)
    rotate_left
    · refine ⟨_,rfl,T,us,rfl,.inl (SqL.of mo.hT),_,_,rfl,rfl,_,rfl,iteD (fun z => ?_) (fun z => ?_)⟩
      · refine ⟨_,rfl,_,rfl,T,us,rfl,.inl (SqL.of mo.hT),_,rfl,c,us.length,hd,rfl,hbc,fun v H4 t s4 hv htm => ?_⟩
        dsimp only [gName]
        have hT4:=s4 _ _ mo.hT
        have h3':=tms_same s4 mo.tms
        rw [hlen] at htm z
        refine ⟨_,rfl,_,rfl,_,_,hv.den,.inl (by rw [Den];exact ⟨T,us,rfl,hT4,tms_den h3'⟩),Nat.le_trans (tms_deep ts) (by decide),_,rfl,?_⟩
        by_cases hm:tmD t∈ts.map tmD
        · rw [decide_eq_true hm]
          refine iteF (key _ _ ⟨us,ts,_,_,rfl, { mo with same:=mo.same.trans s4,hT:=hT4,tms:=h3',hE:=s4 _ _ mo.hE,eds:=edges_keep (fun b ys=>s4 _ _) mo.eds },s4 _ _ h1,by omega,?_⟩)
          cases ts with
          | nil=>cases hm
          | cons=>exact Nat.succ_pos _
        · rw [decide_eq_false hm]
          have kp:∀ b ys,H4 b=some (.tup ys)→(upd H4 T (.lst (us ++ [v]))) b=some (.tup ys):=fun b ys e=>by rw [upd_ne (ne_of e hT4 (fun z=>nomatch z))];exact e
          refine iteT ⟨_,rfl,.inl ⟨rfl,_,SqL.of hT4⟩,_,rfl,T,us,v,rfl,rfl,hT4,small1000 (by omega),?_⟩
          refine key _ _ ⟨us ++ [v],ts ++ [t],_,_,rfl,⟨(mo.same.trans s4).put mo.t0,mo.t0,mo.e0,mo.te,upd_same,tms_snoc (tms_keep kp h3') (hv.keep kp),by rw [upd_ne (Ne.symm mo.te)];exact s4 _ _ mo.hE,edges_keep kp (edges_keep (fun b ys=>s4 _ _) mo.eds),tsok_snoc mo.ok htm hm,?_,fun x y hxy => ?_⟩,?_,?_,?_⟩
          · rw [List.length_append];show ts.length+1≤16;omega
          · have:=mo.lt x y hxy;rw [List.length_append];omega
          · rw [upd_ne (Ne.symm hTsl)];exact s4 _ _ h1
          · rw [List.length_append];show ts.length+1≤i+1;omega
          · rw [List.length_append];exact Nat.succ_pos _
      · refine key _ _ ⟨us,ts,_,_,rfl,mo,h1,by omega,?_⟩
        rw [hlen] at z
        omega
    rintro σ' H4 ⟨us,ts,x6,x7,rfl,mo,h1,hti,hpos⟩
    have hlen:=Paired.length mo.tms
    refine ⟨_,rfl,_,_,rfl,rfl,.inr ⟨by decide,by decide⟩,_,_,rfl,rfl,pos',?_⟩
    dsimp only [gName]
    generalize c * 45991 % 2147483543=m
    refine ⟨_,rfl,_,rfl,_,_,rfl,rfl,hr0,rfl,_,rfl,iteD (fun _ => ?_) (fun _ => ?_)⟩
    · have hp0:(0:Int) < ((us.length:Nat):Int):=by omega
      have a0:0≤m / 60 % ((us.length:Nat):Int):=Int.emod_nonneg _ (by omega)
      have a1:m / 60 % ((us.length:Nat):Int) < ((us.length:Nat):Int):=Int.emod_lt_of_pos _ hp0
      have c0:0≤c * 62089911 % 4294967291 % ((us.length:Nat):Int):=Int.emod_nonneg _ (by omega)
      have c1:c * 62089911 % 4294967291 % ((us.length:Nat):Int) < ((us.length:Nat):Int):=Int.emod_lt_of_pos _ hp0
      refine ⟨_,rfl,_,_,rfl,rfl,div',_,rfl,T,us,rfl,.inl (SqL.of mo.hT),_,_,rfl,rfl,hp0,?_⟩
      dsimp only [gName]
      refine ⟨_,rfl,_,_,rfl,rfl,.inr ⟨by decide,by decide⟩,_,_,rfl,rfl,pos',_,rfl,T,us,rfl,.inl (SqL.of mo.hT),_,_,rfl,rfl,hp0,?_⟩
      dsimp only [gName]
      obtain ⟨na,ena⟩:∃ na:Nat,m / 60 % ((us.length:Nat):Int)=(na:Int):=⟨_,(Int.toNat_of_nonneg a0).symm⟩
      obtain ⟨nb,enb⟩:∃ nb:Nat,c * 62089911 % 4294967291 % ((us.length:Nat):Int)=(nb:Int):=⟨_,(Int.toNat_of_nonneg c0).symm⟩
      rw [ena] at a1 ⊢
      rw [enb] at c1 ⊢
      refine ⟨_,rfl,.inl ⟨rfl,_,SqL.of mo.hE⟩,?_⟩
      refine ⟨_,rfl,_,rfl,_,rfl,10,12,rfl,rfl,⟨by decide,by decide,by decide⟩,_,_,rfl,rfl,(by show (0:Int) < 10 ^ 12;decide),_,_,rfl,rfl,(show 1≤sizeLine by decide),fun tp htp=>⟨(show 4≤sizeLine by decide),fun te hte => ?_⟩⟩
      have s5:=(same_new htp (.tup [.str "told"])).trans (same_new hte (.tup [nV na,nV nb,.int (1+c % 10 ^ (12:Int).toNat),.ref tp]))
      have hte5:=upd_same (H:=upd H4 tp (.tup [.str "told"])) (a:=te) (o := .tup [nV na,nV nb,.int (1+c % 10 ^ (12:Int).toNat),.ref tp])
      generalize upd (upd H4 tp (.tup [.str "told"])) te (.tup [nV na,nV nb,.int (1+c % 10 ^ (12:Int).toNat),.ref tp])=H5 at s5 hte5 ⊢
      have hE5:=s5 _ _ mo.hE
      have kp:∀ b ys,H5 b=some (.tup ys)→(upd H5 E1 (.lst (evs ++ [.ref te]))) b=some (.tup ys):=fun b ys e=>by rw [upd_ne (ne_of e hE5 (fun z=>nomatch z))];exact e
      refine ⟨E1,evs,_,rfl,rfl,hE5,small1000 (by omega),?_⟩
      refine ⟨us,evs ++ [.ref te],ts,es ++ [(na,nb)],_,_,_,_,_,rfl,⟨(mo.same.trans s5).put mo.e0,mo.t0,mo.e0,mo.te,by rw [upd_ne mo.te];exact s5 _ _ mo.hT,tms_keep kp (tms_same s5 mo.tms),upd_same,Paired.snoc (edges_keep kp (edges_keep (fun b ys=>s5 _ _) mo.eds)) ⟨te,_,rfl,kp _ _ hte5⟩,mo.ok,mo.few,paired_snoc_lt mo.lt (by omega) (by omega)⟩,?_,hti,?_⟩
      · rw [upd_ne (Ne.symm hEsl)];exact s5 _ _ h1
      · rw [List.length_append];show evs.length+1≤i+1;omega
    · exact ⟨us,evs,ts,es,_,_,_,_,_,rfl,mo,h1,hti,by omega⟩
  · rintro σ H' ⟨us,evs,ts,es,x5,x6,x7,x8,x9,rfl,mo,h1,hti,hei⟩
    refine ⟨_,rfl,_,rfl,(show 2≤sizeLine by decide),fun p hp => ?_⟩
    have s5:=same_new hp (.tup [.ref T,.ref E1])
    refine q p T E1 us evs ts es _ { mo with same:=mo.same.trans s5,hT:=s5 _ _ mo.hT,tms:=tms_same s5 mo.tms,hE:=s5 _ _ mo.hE,eds:=edges_keep (fun b ys=>s5 _ _) mo.eds } upd_same (fun z=>by omega) (by omega)
end

end K65
namespace K65
open PySem L2 Sw
section
variable {P:Program} {w:World} {K:PySem.W.Frag} {mg:Str→Option Value} {base:Heap}
structure TLok (ts:List Tm) (ls:List Nat):Prop where
  arms:Arms ts
  len:ls.length=ts.length
  few:ts.length≤900
  small:∀ (i:Nat) x as,ts[i]? = some (.of x as)→as.length≤1000
  like:LikeL ts ls
theorem TLok.at {ts:List Tm} {ls:List Nat} (h:TLok ts ls) {i:Nat} {t:Tm} (ht:ts[i]? = some t):∀ x as,t = .of x as→as.length≤1000∧∀ a∈as,a < ls.length:=fun x as e=>by
  subst e
  have hl:=(List.getElem?_eq_some_iff.mp ht).1
  exact ⟨h.small i x as ht,fun a ha=>by have:=h.arms i x as ht a ha;have:=h.len;omega⟩
inductive SpNodes (vs:List V) (H:Hp) (Q:VK):Prop
  | mk (T L:Addr) (us:List V) (ts:List Tm) (ls:List Nat) (z0:vs = [.ref T,.ref L]) (z1:H T=some (.lst us)) (z2:Tms H us ts) (z3:H L=some (.lst (ls.map nV))) (z4:TLok ts ls) (z5:∀ F kvs H',Same H H'→H F=none→H' F=some (.dK kvs)→Rws H' kvs (rowsF ls (firstsF (ts.map (mk ls)) ts.length))→Own H kvs→Q (.ref F) H'):SpNodes  vs H Q
noncomputable def spNodes:Sp:=fun vs H Q _=>SpNodes  vs H Q
theorem ok_nodes (B:Blt mg) (h_mark:Has P w K mg base 1 "mark" ["term", "leads"] (spMark K)) (D:Def K mg "nodes" s_nodes ["terms", "leads"]):Has P w K mg base 2 "nodes" ["terms", "leads"] spNodes:=by
  refine D.has sc_nodes (fun vs H Q E h => ?_) (fun f cdv A outer s H vs Q E hr h => ?_)
  · obtain ⟨T,L,us,ts,ls,rfl,_⟩:=h;rfl
  obtain ⟨T,L,us,ts,ls,rfl,hT,hts,hL,ok,q⟩:=h
  refine ⟨_,(pss_cons (ps_set (i:=2) sc_nodes.nd rfl (Or.inl rfl) pe_dnewK)
    (pss_cons (ps_set (i:=3) sc_nodes.nd rfl (Or.inl rfl) pe_dnewN)
    (pss_cons (ps_for PassesOwn.never rfl (pi_enum rfl B.enumerate_ (pa_cons (pv 0) pa_nil)) (pg_tup rfl (pgs_cons (pg_name (i:=4) sc_nodes.nd rfl (Or.inl rfl)) (pgs_cons (pg_name (i:=5) sc_nodes.nd rfl (Or.inl rfl)) pgs_nil)))
    (pss_cons (ps_set (i:=6) sc_nodes.nd rfl (Or.inl rfl) (pe_callH h_mark hr (by omega) rfl (pa_cons (pv 5) (pa_cons (pv 1) pa_nil))))
    (pss_one (ps_if (pt_cmp (pc_nnotin (un10 hr) (pv 6) (pv 3)) (by with_unfolding_all rfl)) (pss_cons (ps_nput (un10 hr) (pv 3) (pv 6) pe_bl rfl)
    (pss_one (ps_expr (pe_bm PySem.F.plainAttrs_list PySem.F.slot_list_append PySem.F.type_list_append mt_append (pe_setK (pv 2) (pe_ix ix_list (pv 1) (pv 4) (fun _ _=>rfl)) (pe_lst pa_nil) ⟨rfl,rfl,rfl,rfl⟩) (pa_cons (pv 4) pa_nil))))) pss_nil))))
    (pss_one (ps_ret (pv 2)))))),?_⟩
  try dsimp only [cxOf]
  have hut:=Paired.length hts
  have few:=ok.few
  intro F hF
  dsimp only [gName]
  have sF:=same_new hF (.dK [])
  have hF0:=upd_same (H:=H) (a:=F) (o := .dK [])
  generalize upd H F (.dK [])=H0 at sF hF0 ⊢
  intro S φ hS dn0
  dsimp only [gName]
  have hSH:H S=none:=sF.free hS
  have sS:=sF.trans (same_new hS (.ext φ))
  have hF1:=same_new hS (.ext φ) _ _ hF0
  generalize upd H0 S (.ext φ)=H1 at sS hF1 dn0 ⊢
  refine ⟨_,rfl,T,rfl,⟨us,SqL.of (sS _ _ hT)⟩,?_⟩
  refine for_enum (xs:=us) (fun i σ H'=>∃ (kvs:List (Key × V)) (sks:List (NK × V)) (x4 x5 x6:Option V), σ = [some (.ref T),some (.ref L),some (.ref F),some (.ref S),x4,x5,x6]∧Same H H'∧H' F=some (.dK kvs)∧Rws H' kvs (rowsF ls (firstsF (ts.map (mk ls)) i))∧Own H kvs∧DN P w H' S sks∧SeenOk ts ls i sks)
    ⟨[], [],none,none,none,rfl,sS,hF1,.nil,⟨List.nodup_nil,fun kv hm=>by cases hm⟩,dn0,seen_nil ts ls⟩ ?_ ?_ ?_
  · rintro i σ H' _ ⟨kvs,sks,x4,x5,x6,rfl,sm,_⟩
    exact SqL.of (sm _ _ hT)
  · rintro i x a0 σ H' hx ⟨kvs,sks,x4,x5,x6,rfl,sm,hF',rw',own,dn,sn⟩ ha0
    obtain ⟨t,ht,hx'⟩:=tms_at hts hx
    have hi:i < ts.length:=(List.getElem?_eq_some_iff.mp ht).1
    have s1:=same_new ha0 (.tup [.int (i:Int),x])
    have g1:=sm.trans s1
    have dn1:=dn.same s1
    have hF1:=s1 _ _ hF'
    have rw1:=rw'.same s1
    refine ⟨a0,_,rfl,SqT.of upd_same,rfl,_,_,rfl,_,_,rfl,rfl,?_⟩
    generalize upd H' a0 (.tup [.int (i:Int),x])=H1 at s1 g1 dn1 hF1 rw1 ⊢
    have hl:=ok.len
    have hli:ls[i]? = some (ls.getD i 0):=getD_at (by omega)
    refine ⟨_,rfl,_,rfl,x,t,L,ls,rfl,hx'.same g1,SqL.of (g1 _ _ hL),ok.at ht,fun v' H2 s2 hm => ?_⟩
    dsimp only [gName]
    obtain ⟨b,rfl,nk⟩:=hm.key
    have g2:=g1.trans s2
    have dn2:=dn1.same s2
    have hF2:=s2 _ _ hF1
    have rw2:=rw1.same s2
    have rlen:=rows_len ls (firstsF (ts.map (mk ls)) i)
    have flen:=firsts_len (ts.map (mk ls)) i
    have klen:=Paired.length rw2
    refine ⟨_,rfl,_,rfl,S,b,sks,tmNK (mk ls t),rfl,rfl,dn2,nk,_,rfl,?_⟩
    rcases seen_iff sn ht with ⟨hv,hnew⟩ | ⟨hv,hnew⟩
    · rw [hv]
      refine iteT ?_
      refine ⟨_,rfl,_,rfl,S,b,sks,tmNK (mk ls t),rfl,rfl,dn2,nk,small1000 (by have:=sn.2.2;omega),fun φ3 dn3 => ?_⟩
      obtain ⟨φ0,e0⟩:=dn2.ext
      have g3:Same H (upd H2 S (.ext φ3)):=fun c o e=>by rw [upd_ne (fun z=>by rw [z,hSH] at e;cases e)];exact g2 c o e
      have hF3:(upd H2 S (.ext φ3)) F=some (.dK kvs):=by rw [upd_ne (ne_of hF2 e0 (fun z=>nomatch z))];exact hF2
      have rw3:Rws (upd H2 S (.ext φ3)) kvs _:=rw2.updO e0 (fun xs z=>nomatch z)
      generalize upd H2 S (.ext φ3)=H3 at g3 hF3 rw3 dn3 ⊢
      refine ⟨_,rfl,F,rfl,.inl ⟨kvs,.inl hF3⟩,_,rfl,_,rfl,L,_,_,_,rfl,rfl,SqL.of (g3 _ _ hL),nV_at hli,Nat.zero_le _,fun N hN => ?_⟩
      have s4:=same_new hN (.lst [])
      have hN4:=upd_same (H:=H3) (a:=N) (o := .lst [])
      have hNH:H N=none:=g3.free hN
      have g4:=g3.trans s4
      have hF4:=s4 _ _ hF3
      have rw4:=rw3.same s4
      have dn4:=dn3.same s4
      have own4:=own.snoc (k := .inl ((ls.getD i 0:Nat):Int)) rw3 hN hNH
      generalize upd H3 N (.lst [])=H4 at s4 hN4 g4 hF4 rw4 dn4 ⊢
      have efs:rowsF ls (firstsF (ts.map (mk ls)) (i+1))=addR (rowsF ls (firstsF (ts.map (mk ls)) i)) (ls.getD i 0) i:=by
        rw [firsts_succ,hnew]
        exact rows_snoc ls _ i
      have nk':=rows_keys ls (firstsF (ts.map (mk ls)) i)
      have small:=rows_small ls (firstsF (ts.map (mk ls)) i)
      generalize rowsF ls (firstsF (ts.map (mk ls)) i)=ps at rw4 efs nk' small rlen klen
      have sn':=seen_put (V.bl true) sn ht
      refine ⟨kvs,.inl ((ls.getD i 0:Nat):Int),hF4,rfl,small1000 (by omega),fun v hval => ?_,fun hnone => ?_⟩
      · rcases rw4.look (ls.getD i 0) with ⟨e,_⟩ | ⟨a,zs,e,el,ha⟩
        · rw [hval] at e;cases e
        · have ev:v = .ref a:=Option.some.inj (hval.symm.trans e)
          subst ev
          have haH:=own.fresh (val_mem hval)
          have hsz:zs.length≤900:=by have:=small _ (lookR_mem el);show zs.length≤900;simp only at this;omega
          refine ⟨.inl ⟨rfl,_,SqL.of ha⟩,_,rfl,a,_,_,rfl,rfl,ha,small1000 (by rw [List.length_map];omega),?_⟩
          have egr:=rw4.grow (zs:=zs ++ [i]) own.1 nk' hval
          have eL:(zs ++ [i]).map nV=zs.map nV ++ [nV i]:=by rw [List.map_append];rfl
          rw [eL] at egr
          refine ⟨kvs,putK sks (tmNK (mk ls t)) (.bl true),_,_,_,rfl,?_,?_,?_,own,Sw.DN.updO (P:=P) (w:=w) dn4 ha (fun φ z=>nomatch z) (fun ys z=>nomatch z),sn'⟩
          · exact fun c o e=>by rw [upd_ne (fun z=>by rw [z,haH] at e;cases e)];exact g4 c o e
          · rw [upd_ne (ne_of hF4 ha (fun z=>nomatch z))];exact hF4
          · rw [efs]
            unfold addR
            rw [el]
            exact egr
      · rcases rw4.look (ls.getD i 0) with ⟨e,el⟩ | ⟨a,zs,e,el,ha⟩
        · have hN5:(upd H4 F (.dK (kvs ++ [(.inl ((ls.getD i 0:Nat):Int),.ref N)]))) N=some (.lst []):=by rw [upd_ne (ne_of hN4 hF4 (fun z=>nomatch z))];exact hN4
          refine ⟨.inl ⟨rfl,_,SqL.of hN5⟩,_,rfl,N,_,_,rfl,rfl,hN5,small1000 (Nat.zero_le _),?_⟩
          refine ⟨kvs ++ [(.inl ((ls.getD i 0:Nat):Int),.ref N)],putK sks (tmNK (mk ls t)) (.bl true),_,_,_,rfl,?_,?_,?_,own4,?_,sn'⟩
          · exact fun c o e=>by rw [upd_ne (fun z=>by rw [z,hNH] at e;cases e),upd_ne (fun z=>by rw [z,hF] at e;cases e)];exact g4 c o e
          · rw [upd_ne (ne_of upd_same hN5 (fun z=>nomatch z)),upd_same]
          · rw [efs]
            unfold addR putR
            have hany:(ps.any fun p=>decide (p.1=ls.getD i 0))=false:=by rw [← rw4.any,valV_any,hnone];rfl
            rw [hany,el]
            have r5:Rws (upd (upd H4 F (.dK (kvs ++ [(.inl ((ls.getD i 0:Nat):Int),.ref N)]))) N (.lst ([] ++ [V.int (i:Int)]))) kvs ps:=(rw4.updO hF4 (fun xs z=>nomatch z)).keep fun l xs ⟨kv,hm,e2⟩ e3=>by
              obtain ⟨l',e4,hl4⟩:=own.2 kv hm
              rw [e2] at e4
              cases e4
              rw [upd_ne (fun z => ?_)]
              · exact e3
              · subst z
                have:∀ {kvs:List (Key × V)} {ps:List Row},Rws H3 kvs ps→(∃ kv∈kvs,kv.2 = .ref l)→False:=by
                  intro kvs ps r
                  induction r with
                  | nil=>rintro ⟨kv,hm,_⟩;cases hm
                  | @cons kv p kvs ps q t ih =>
                    rintro ⟨kv',hm,e⟩
                    rcases List.mem_cons.mp hm with rfl | hm
                    · obtain ⟨_,l',e2,hl⟩:=q
                      rw [e] at e2
                      cases e2
                      rw [hN] at hl
                      cases hl
                    · exact ih ⟨kv',hm,e⟩
                exact this rw3 ⟨kv,hm,e2⟩
            exact Paired.snoc r5 ⟨rfl,N,rfl,upd_same⟩
          · exact Sw.DN.updO (P:=P) (w:=w) (Sw.DN.updO (P:=P) (w:=w) dn4 hF4 (fun φ z=>nomatch z) (fun ys z=>nomatch z)) hN5 (fun φ z=>nomatch z) (fun ys z=>nomatch z)
        · rw [hnone] at e;cases e
    · obtain ⟨v,hv'⟩:=Option.isSome_iff_exists.mp hv
      rw [hv']
      refine iteF ⟨kvs,sks,_,_,_,rfl,g2,hF2,?_,own,dn2,seen_skip sn ht hv⟩
      rw [firsts_succ,hnew]
      show Rws H2 kvs (rowsF ls (firstsF (ts.map (mk ls)) i ++ []))
      rw [List.append_nil]
      exact rw2
  · rintro σ H' ⟨kvs,sks,x4,x5,x6,rfl,sm,hF',rw',own,dn,sn⟩
    rw [hut] at rw'
    exact ⟨_,rfl,q F kvs H' sm hF hF' rw' own⟩
end

section
variable {P:Program} {w:World} {K:PySem.W.Frag} {mg:Str→Option Value} {base:Heap}
theorem cost_get {cs:DK} (hc:CostOk cs) (t:Tm):(valV cs (Sum.inr (keyF t))).getD (.int 1) = .int (costF cs t):=by
  unfold costF
  cases e:valV cs (Sum.inr (keyF t)) with
  | none=>rfl
  | some v=>obtain ⟨n,rfl,_⟩:=hc _ _ e;rfl
inductive SpCostOf (vs:List V) (H:Hp) (Q:VK):Prop
  | mk (v:V) (t:Tm) (C:Addr) (cs:DK) (z0:vs = [v,.ref C]) (z1:IsTm H t v) (z2:H C=some (.dK cs)) (z3:CostOk cs) (z4:Q (.int (costF cs t)) H):SpCostOf  vs H Q
noncomputable def spCostOf:Sp:=fun vs H Q _=>SpCostOf  vs H Q
theorem ok_cost_of (D:Def K mg "cost_of" s_cost_of ["term", "costs"]):Has P w K mg base 1 "cost_of" ["term", "costs"] spCostOf:=by
  refine D.has sc_cost_of (fun vs H Q E h => ?_) (fun f cdv A outer s H vs Q E hr h => ?_)
  · obtain ⟨v,t,C,cs,rfl,_⟩:=h;rfl
  obtain ⟨v,t,C,cs,rfl,hT,hC,hc,q⟩:=h
  refine ⟨_,(pss_cons (ps_if (pt_cmpR op_eq (pe_ix ix_tup (pv 0) pe_int (fun _ _=>rfl)) pe_str (nomark _)) (pss_one (ps_ret (pe_dget2 (hu_of hr) (pv 1) pe_str pe_int ⟨rfl,rfl,rfl,rfl⟩))) pss_nil)
    (pss_cons (ps_if (pt_cmpR op_eq (pe_ix ix_tup (pv 0) pe_int (fun _ _=>rfl)) pe_str (nomark _)) (pss_one (ps_ret (pe_dget2 (hu_of hr) (pv 1) pe_str pe_int ⟨rfl,rfl,rfl,rfl⟩))) pss_nil)
    (pss_one (ps_ret (pe_dget2 (hu_of hr) (pv 1) (pe_ix ix_tup (pv 0) pe_int (fun _ _=>rfl)) pe_int ⟨rfl,rfl,rfl,rfl⟩))))),?_⟩
  try dsimp only [cxOf]
  rw [← cost_get hc t] at q
  cases t with
  | num n =>
    obtain ⟨a,rfl,h⟩:=id hT
    refine ⟨_,rfl,a,_,0,_,rfl,rfl,SqT.of h,atI_nat (j:=0) rfl,rfl,_,rfl,iteD (fun _ => ?_) (fun z=>absurd rfl z)⟩
    exact ⟨_,rfl,C,rfl,.inl ⟨cs,.inl hC⟩,_,DGet.k (k:=Sum.inr "#") hC,q⟩
  | name n =>
    obtain ⟨a,rfl,h⟩:=id hT
    refine ⟨_,rfl,a,_,0,_,rfl,rfl,SqT.of h,atI_nat (j:=0) rfl,rfl,_,rfl,iteD (fun z=>absurd (V.str.inj z) (by decide)) (fun _ => ?_)⟩
    refine ⟨_,rfl,a,_,0,_,rfl,rfl,SqT.of h,atI_nat (j:=0) rfl,rfl,_,rfl,iteD (fun _ => ?_) (fun z=>absurd rfl z)⟩
    exact ⟨_,rfl,C,rfl,.inl ⟨cs,.inl hC⟩,_,DGet.k (k:=Sum.inr "@") hC,q⟩
  | of x as =>
    obtain ⟨a,b,rfl,h,h2⟩:=id hT
    refine ⟨_,rfl,a,_,0,_,rfl,rfl,SqT.of h,atI_nat (j:=0) rfl,rfl,_,rfl,iteD (fun z=>absurd (V.str.inj z) (by decide)) (fun _ => ?_)⟩
    refine ⟨_,rfl,a,_,0,_,rfl,rfl,SqT.of h,atI_nat (j:=0) rfl,rfl,_,rfl,iteD (fun z=>absurd (V.str.inj z) (by decide)) (fun _ => ?_)⟩
    exact ⟨_,rfl,C,rfl,.inl ⟨cs,.inl hC⟩,_,rfl,a,_,1,_,rfl,rfl,SqT.of h,atI_nat (j:=1) rfl,_,DGet.k (k:=Sum.inr x) hC,q⟩
noncomputable def ArmIn (ls:List Nat) (t:Tm):Prop:=(armsF t).length≤1000∧∀ a∈armsF t,a < ls.length
inductive SpArmLeads (K:PySem.W.Frag) (vs:List V) (H:Hp) (Q:VK):Prop
  | mk (v:V) (t:Tm) (L:Addr) (ls:List Nat) (z0:vs = [v,.ref L]) (z1:IsTm H t v) (z2:SqL K H L (ls.map nV)) (z3:ArmIn ls t) (z4:∀ N H',Same H H'→H N=none→H' N=some (.lst (((armsF t).map fun a=>ls.getD a 0).map nV))→Q (.ref N) H'):SpArmLeads K vs H Q
noncomputable def spArmLeads (K:PySem.W.Frag):Sp:=fun vs H Q _=>SpArmLeads K vs H Q
theorem ok_arm_leads (D:Def K mg "arm_leads" s_arm_leads ["term", "leads"]):Has P w K mg base 1 "arm_leads" ["term", "leads"] (spArmLeads K):=by
  refine D.has sc_arm_leads (fun vs H Q E h => ?_) (fun f cdv A outer s H vs Q E hr h => ?_)
  · obtain ⟨v,t,L,ls,rfl,_⟩:=h;rfl
  obtain ⟨v,t,L,ls,rfl,hT,hL,hb,q⟩:=h
  refine ⟨_,(pss_cons (ps_if (pt_cmpR op_ne (pe_ix ix_tup (pv 0) pe_int (fun _ _=>rfl)) pe_str (nomark _)) (pss_one (ps_ret (pe_lst pa_nil))) pss_nil)
    (pss_one (ps_ret (pe_comp (te:=(tOp (rIxL K) _ _)) (own := ["number"]) (caps := [("leads",1)]) (comp_scope (defScope s_arm_leads) ["term", "leads"] rfl rfl rfl (by decide +kernel)) (pi_tup (pe_ix ix_tup (pv 0) pe_int (fun _ _=>rfl))) rfl (fun _ _ _=>pg_name (i:=0) (show (["number", "leads"]:List Str).Nodup by decide +kernel) rfl (Or.inl rfl)) (fun _ _ _=>(pe_ix ix_list (pv 1) (pv 0) (fun _ _=>rfl))))))),?_⟩
  try dsimp only [cxOf]
  cases t with
  | num n =>
    obtain ⟨a,rfl,h⟩:=id hT
    exact ⟨_,rfl,a,_,0,_,rfl,rfl,SqT.of h,atI_nat (j:=0) rfl,rfl,_,rfl,iteDN (fun _=>⟨Nat.zero_le _,fun p hp=>q p _ (same_new hp _) hp upd_same⟩) (fun z=>absurd (V.str.inj z) (by decide))⟩
  | name n =>
    obtain ⟨a,rfl,h⟩:=id hT
    exact ⟨_,rfl,a,_,0,_,rfl,rfl,SqT.of h,atI_nat (j:=0) rfl,rfl,_,rfl,iteDN (fun _=>⟨Nat.zero_le _,fun p hp=>q p _ (same_new hp _) hp upd_same⟩) (fun z=>absurd (V.str.inj z) (by decide))⟩
  | of x as =>
    obtain ⟨a,b,rfl,h,h2⟩:=id hT
    obtain ⟨hl,hlt⟩:=hb
    refine ⟨_,rfl,a,_,0,_,rfl,rfl,SqT.of h,atI_nat (j:=0) rfl,rfl,_,rfl,iteDN (fun z=>absurd rfl z) (fun _ => ?_)⟩
    refine ⟨_,rfl,a,_,2,_,rfl,rfl,SqT.of h,atI_nat (j:=2) rfl,b,rfl,⟨_,SqT.of h2⟩,?_⟩
    refine comp_tupS (ys:=(as.map fun a=>ls.getD a 0).map nV) (SqT.of h2) (by rw [List.length_map];exact hl) (by simp) (fun i y z hy hz H' sm Q' q' => ?_) (fun D1 H' hD1 sm hD=>q D1 H' sm hD1 hD)
    rw [List.getElem?_map] at hy
    rw [List.getElem?_map,List.getElem?_map] at hz
    cases e:as[i]? with
    | none=>rw [e] at hy;cases hy
    | some k =>
      rw [e] at hy hz
      have e1:nV k=y:=Option.some.inj hy
      have e2:nV (ls.getD k 0)=z:=Option.some.inj hz
      subst e1 e2
      have hk:=hlt k (List.mem_of_getElem? e)
      exact ⟨_,rfl,_,rfl,L,_,_,_,rfl,rfl,sm.seq hL,nV_at (getD_at hk),q' _ (Same.refl _)⟩
end

end K65
namespace K65
open PySem L2 Sw
section
variable {P:Program} {w:World} {K:PySem.W.Frag} {mg:Str→Option Value} {base:Heap}
noncomputable def PickOn (ls:List Nat) (ts:List Tm) (pk:DK) (S:Nat→Prop):Prop := ∀ x,S x→x < ts.length∧(∃ (j:Nat) (t:Tm),valV pk (lk x)=some (nV j)∧ts[j]? = some t)∧∀ b∈pkA ls ts pk x,S b
inductive SpNeed (vs:List V) (H:Hp) (Q:VK):Prop
  | mk (T L Pk:Addr) (us:List V) (ts:List Tm) (ls:List Nat) (pk:DK) (l:Nat) (S:Nat→Prop) (z0:vs = [.ref T,.ref L,.ref Pk,nV l]) (z1:H T=some (.lst us)) (z2:Tms H us ts) (z3:H L=some (.lst (ls.map nV))) (z4:PrG ts ls) (z5:H Pk=some (.dK pk)) (z6:PickOn ls ts pk S) (z7:S l) (z8:∀ N fs H',Same H H'→H' N=some (.lst (fs.map nV))→GInv (pkA ls ts pk) l fs []→Q (.ref N) H'):SpNeed  vs H Q
noncomputable def spNeed:Sp:=fun vs H Q _=>SpNeed  vs H Q
inductive NdI (H:Hp) (T L Pk F W:Addr) (n:Nat) (A:Nat→List Nat) (l:Nat) (m:Nat) (σ : St) (H':Hp):Prop
  | mk:∀ (fs ws:List Nat) (x6 x7:Option V),(σ = [some (.ref T),some (.ref L),some (.ref Pk),some (nV l),some (.ref F),some (.ref W),x6,x7])→(Same H H')→(H' F=some (.dK (dictN fs)))→(H' W=some (.lst (ws.map nV)))→(GInv A l fs ws)→(muN n (fs,ws)≤2 * n+1)→(muN n (fs,ws)=m)→NdI H T L Pk F W n A l m σ H'
inductive NeI (H:Hp) (T L Pk F W N:Addr) (n:Nat) (A:Nat→List Nat) (l here mu:Nat) (bs:List Nat) (i:Nat) (σ : St) (H':Hp):Prop
  | mk:∀ (fs ws:List Nat) (x7:Option V),(σ = [some (.ref T),some (.ref L),some (.ref Pk),some (nV l),some (.ref F),some (.ref W),some (nV here),x7])→(Same H H')→(H' N=some (.lst (bs.map nV)))→(H' F=some (.dK (dictN fs)))→(H' W=some (.lst (ws.map nV)))→(GStep A l here fs ws (bs.take i))→(muN n (fs,ws)≤mu)→NeI H T L Pk F W N n A l here mu bs i σ H'
theorem ok_need (B:Blt mg) (h_arm_leads:Has P w K mg base 1 "arm_leads" ["term", "leads"] (spArmLeads K)) (D:Def K mg "needed_leads" s_needed_leads ["terms", "leads", "picks", "lead"]) :
    Has P w K mg base 2 "needed_leads" ["terms", "leads", "picks", "lead"] spNeed:=by
  refine D.has sc_needed_leads (fun vs H Q E h => ?_) (fun f cdv A outer s H vs Q E hr h => ?_)
  · obtain ⟨T,L,Pk,us,ts,ls,pk,l,S,rfl,_⟩:=h;rfl
  obtain ⟨T,L,Pk,us,ts,ls,pk,l,S,rfl,hT,hts,hL,pi,hPk,hpk,hSl,q⟩:=h
  refine ⟨_,(pss_cons (ps_set (i:=4) sc_needed_leads.nd rfl (Or.inl rfl) (pe_disp (pps_cons (pv 3) pe_bl pps_nil) rfl rfl (List.cons_ne_nil _ _) (Nat.le_of_ble_eq_true rfl)))
    (pss_cons (ps_set (i:=5) sc_needed_leads.nd rfl (Or.inl rfl) (pe_lst (pa_cons (pv 3) pa_nil)))
    (pss_cons (ps_while PassesOwn.never (pt_truth (pv 5) (fun _=>rfl))
    (pss_cons (ps_set (i:=6) sc_needed_leads.nd rfl (Or.inl rfl) (pe_bm0 PySem.F.plainAttrs_list PySem.F.slot_list_pop PySem.F.type_list_pop mt_pop (pv 5)))
    (pss_one (ps_for PassesOwn.never rfl (pi_list (pe_callH h_arm_leads hr (by omega) rfl (pa_cons (pe_ix ix_list (pv 0) (pe_dget (hu_of hr) (pv 2) (pv 6) (fun _ _=>rfl)) (fun _ _=>rfl)) (pa_cons (pv 1) pa_nil)))) (pg_name (i:=7) sc_needed_leads.nd rfl (Or.inl rfl))
    (pss_one (ps_if (pt_cmp (pc_dnotin (hu_of hr) (pv 7) (pv 4)) (by with_unfolding_all rfl)) (pss_cons (ps_dput (hu_of hr) (pv 4) (pv 7) pe_bl rfl)
    (pss_one (ps_expr (pe_bm PySem.F.plainAttrs_list PySem.F.slot_list_append PySem.F.type_list_append mt_append (pv 5) (pa_cons (pv 7) pa_nil))))) pss_nil))))))
    (pss_one (ps_ret (pe_callTy (call_list_dict rfl) rfl B.list_ boot_list_ (pa_cons (pv 4) pa_nil))))))),?_⟩
  try dsimp only [cxOf]
  have few:=pi.few
  have hcl:∀ x,S x→∀ b∈pkA ls ts pk x,S b:=fun x hx=>(hpk x hx).2.2
  have hlt:∀ x,S x→x < ts.length:=fun x hx=>(hpk x hx).1
  have hut:=Paired.length hts
  intro F hF0
  refine ⟨_,rfl,upd_same, [(lk l,.bl true)],rfl,(by show 1≤15;decide),?_⟩
  dsimp only [gName]
  rw [upd_upd]
  have hd0:mergeK [] [(lk l,V.bl true)]=dictN [l]:=rfl
  rw [hd0]
  have s1:=same_new hF0 (.dK (dictN [l]))
  have hF1:=upd_same (H:=H) (a:=F) (o := .dK (dictN [l]))
  generalize upd H F (.dK (dictN [l]))=H1 at s1 hF1 ⊢
  refine ⟨_,rfl,(show 1≤sizeLine by decide),fun W hW0 => ?_⟩
  dsimp only [gName]
  have hW00:H W=none:=s1.free hW0
  have s2:=s1.trans (same_new hW0 (.lst ([l].map nV)))
  have hF2:=(same_new hW0 (.lst ([l].map nV))) _ _ hF1
  have hW2:=upd_same (H:=H1) (a:=W) (o := .lst ([l].map nV))
  have hFW:F≠W:=ne_of_none hF1 hW0
  show tSeq (tWhile _ _) _ _ _ (upd H1 W (.lst ([l].map nV)))
  generalize upd H1 W (.lst ([l].map nV))=H2 at s2 hF2 hW2 ⊢
  refine ⟨NdI H T L Pk F W ts.length (pkA ls ts pk) l,⟨_,NdI.mk [l] [l] none none rfl s2 hF2 hW2 ginv_start (by show 2 * (ts.length - 1)+1≤_;omega) rfl⟩,?_⟩
  rintro m σ H3 ⟨fs,ws,x6,x7,rfl,s3,hF3,hW3,inv,hmx,rfl⟩
  refine ⟨_,rfl, !(ws.map nV).isEmpty,.inl ⟨_,SqL.of hW3,rfl⟩,?_⟩
  rcases List.eq_nil_or_concat ws with rfl | ⟨ws',here,e⟩
  · refine iteF ⟨_,rfl,F,dictN fs,rfl,.inl hF3,fun N hN => ?_⟩
    rw [keys_dictN]
    exact q N fs _ (s3.trans (same_new hN _)) upd_same inv
  rw [List.concat_eq_append] at e
  subst e
  have hne:(!((ws' ++ [here]).map nV).isEmpty)=true:=by rw [List.map_append];simp
  rw [hne]
  have hSh:S here:=inv.least S hSl hcl here (inv.sub here (List.mem_append_right _ (List.mem_singleton.mpr rfl)))
  obtain ⟨_,⟨j,t,hj,ht⟩,_⟩:=hpk here hSh
  have hpa:=pkA_at (ls:=ls) hj ht
  refine iteT ⟨fun σ' H'=>∃ m',m' < muN ts.length (fs,ws' ++ [here])∧NdI H T L Pk F W ts.length (pkA ls ts pk) l m' σ' H',fun σ' H' h=>h,?_⟩
  refine ⟨_,rfl,.inl ⟨rfl,_,SqL.of hW3⟩,W,_,nV here,rfl,rfl,hW3,(by rw [List.map_append];simp),?_⟩
  dsimp only [gName]
  have ed:((ws' ++ [here]).map nV).dropLast=ws'.map nV:=by rw [List.map_append];simp
  rw [ed]
  have s4:=s3.put (o := .lst (ws'.map nV)) hW00
  have hF4:(upd H3 W (.lst (ws'.map nV))) F=some (.dK (dictN fs)):=by rw [upd_ne hFW];exact hF3
  have hW4:=upd_same (H:=H3) (a:=W) (o := .lst (ws'.map nV))
  generalize upd H3 W (.lst (ws'.map nV))=H4 at s4 hF4 hW4 ⊢
  obtain ⟨v,hv⟩:∃ v,us[j]? = some v:=⟨_,List.getElem?_eq_getElem (by rw [hut];exact (List.getElem?_eq_some_iff.mp ht).1)⟩
  obtain ⟨t',ht',hvt⟩:=tms_at hts hv
  rw [ht] at ht'
  cases ht'
  have z2:muN ts.length (fs,ws' ++ [here])=2 * (ts.length - fs.length)+(ws' ++ [here]).length:=rfl
  have z3:muN ts.length (fs,ws')=2 * (ts.length - fs.length)+ws'.length:=rfl
  rw [List.length_append,List.length_singleton] at z2
  refine ⟨_,rfl,_,rfl,_,rfl,Pk,_,rfl,dget_lk (s4 _ _ hPk) hj,T,_,_,_,rfl,rfl,SqL.of (s4 _ _ hT),atI_nat hv,_,rfl,v,t,L,ls,rfl,hvt.same s4,SqL.of (s4 _ _ hL),pi.armIn ht,fun N H5 s5 hN0 hN=>⟨N,rfl,⟨_,SqL.of hN⟩,?_⟩⟩
  have hNW:N≠W:=(ne_of_none hW4 hN0).symm
  have hNF:N≠F:=(ne_of_none hF4 hN0).symm
  rw [← hpa] at hN
  refine for_list (xs:=(pkA ls ts pk here).map nV) (NeI H T L Pk F W N ts.length (pkA ls ts pk) l here (muN ts.length (fs,ws')) (pkA ls ts pk here)) (NeI.mk fs ws' _ rfl (s4.trans s5) hN (s5 _ _ hF4) (s5 _ _ hW4) (by rw [List.take_zero];exact inv.pop) (Nat.le_refl _)) ?_ ?_ ?_
  · rintro i σ H' _ ⟨f1,w1,x7,rfl,sm,hN',_⟩
    exact SqL.of hN'
  · rintro i y σ H' hy ⟨f1,w1,x7,rfl,sm,hN',hF',hW',gs,hmu⟩
    rw [List.getElem?_map] at hy
    cases eb:(pkA ls ts pk here)[i]? with
    | none=>rw [eb] at hy;cases hy
    | some b =>
    rw [eb] at hy
    have e1:nV b=y:=Option.some.inj hy
    subst e1
    have hst:=gs.step (List.mem_of_getElem? eb)
    have hfl:=gs.len S hSl hcl hlt
    have hfl2:=hst.len S hSl hcl hlt
    have hm2:=stepN_mu (n:=ts.length) (p:=(f1,w1)) (b:=b) hfl2
    rw [← take_snoc eb] at hst
    dsimp only [gName]
    refine ⟨_,rfl,_,rfl,F,_,rfl,DGet.k (k:=lk b) hF',_,rfl,?_⟩
    rw [val_dictN]
    by_cases hin:b∈f1
    · rw [decide_eq_true hin]
      have e2:stepN (f1,w1) b=(f1,w1):=if_pos hin
      rw [e2] at hst
      exact iteF (NeI.mk f1 w1 _ rfl sm hN' hF' hW' hst hmu)
    · rw [decide_eq_false hin]
      have e2:stepN (f1,w1) b=(f1 ++ [b],w1 ++ [b]):=if_neg hin
      rw [e2] at hst hm2
      have wl:w1.length≤2000:=by
        have z1:muN ts.length (f1,w1)=2 * (ts.length - f1.length)+w1.length:=rfl
        omega
      refine iteT ⟨_,rfl,_,rfl,F,_,rfl,DPut.k (k:=lk b) hF' (small1000 (by show (dictN f1).length≤1000;unfold dictN;rw [List.length_map];omega)),?_⟩
      rw [put_dictN hin]
      have hW6:(upd H' F (.dK (dictN (f1 ++ [b])))) W=some (.lst (w1.map nV)):=by rw [upd_ne hFW.symm];exact hW'
      refine ⟨_,rfl,.inl ⟨rfl,_,SqL.of hW6⟩,_,rfl,W,_,_,rfl,rfl,hW6,(by rw [List.length_map];exact Nat.lt_of_le_of_lt wl (by decide)),?_⟩
      refine NeI.mk (f1 ++ [b]) (w1 ++ [b]) _ rfl ((sm.put hF0).put hW00) ?_ ?_ ?_ hst (Nat.le_trans hm2 hmu)
      · rw [upd_ne hNW,upd_ne hNF];exact hN'
      · rw [upd_ne hFW,upd_same]
      · rw [upd_same,List.map_append];rfl
  · rintro σ H' ⟨f1,w1,x7,rfl,sm,hN',hF',hW',gs,hmu⟩
    rw [List.length_map,List.take_length] at gs
    exact ⟨muN ts.length (f1,w1),by omega,NdI.mk f1 w1 _ _ rfl sm hF' hW' (gs.done fun b hb=>hb) (by omega) rfl⟩
noncomputable def hdA (ls:List Nat) (ts:List Tm) (hd:Nat→List Nat) (x:Nat):List Nat:=(hd x).flatMap fun j=>stepL ls (ts.getD j (.num 0))
noncomputable def IsLd (ls:List Nat) (n:Nat) (x:Nat):Prop := ∃ k,k < n∧ls.getD k 0=x
theorem hdA_ld {ts:List Tm} {ls:List Nat} {hd:Nat→List Nat} (pi:PrG ts ls) (ho:HdOk ts ls hd):∀ x,IsLd ls ts.length x→∀ b∈hdA ls ts hd x,IsLd ls ts.length b:=fun x _ b hb=>by
  obtain ⟨j,hj,hb⟩:=List.mem_flatMap.mp hb
  have hjn:=(ho.mem x j hj).1
  obtain ⟨a,ha,rfl⟩:=List.mem_map.mp hb
  rw [List.getD_eq_getElem?_getD,List.getElem?_eq_getElem hjn] at ha
  exact ⟨a,by have:=(pi.armIn (List.getElem?_eq_getElem hjn)).2 a ha;rw [← pi.len];exact this,rfl⟩
theorem ld_lt {ts:List Tm} {ls:List Nat} (pi:PrG ts ls):∀ x,IsLd ls ts.length x→x < ts.length:=fun x h=>by obtain ⟨k,hk,rfl⟩:=h;exact pi.lt k hk
inductive SpReached (vs:List V) (H:Hp) (Q:VK):Prop
  | mk (T L Hh:Addr) (us:List V) (ts:List Tm) (ls:List Nat) (kvs:DK) (hd:Nat→List Nat) (l:Nat) (z0:vs = [.ref T,.ref L,.ref Hh,nV l]) (z1:H T=some (.lst us)) (z2:Tms H us ts) (z3:H L=some (.lst (ls.map nV))) (z4:PrG ts ls) (z5:H Hh=some (.dK kvs)) (z6:HdAt H kvs ts ls hd) (z7:HdOk ts ls hd) (z8:IsLd ls ts.length l) (z9:∀ N fs H',Same H H'→H' N=some (.lst (fs.map nV))→GInv (hdA ls ts hd) l fs []→Q (.ref N) H'):SpReached  vs H Q
noncomputable def spReached:Sp:=fun vs H Q _=>SpReached  vs H Q
inductive RdI (H:Hp) (T L Hh F W:Addr) (n:Nat) (A:Nat→List Nat) (l:Nat) (m:Nat) (σ : St) (H':Hp):Prop
  | mk:∀ (fs ws:List Nat) (x6 x7 x8:Option V),(σ = [some (.ref T),some (.ref L),some (.ref Hh),some (nV l),some (.ref F),some (.ref W),x6,x7,x8])→(Same H H')→(H' F=some (.dK (dictN fs)))→(H' W=some (.lst (ws.map nV)))→(GInv A l fs ws)→(muN n (fs,ws)≤2 * n+1)→(muN n (fs,ws)=m)→RdI H T L Hh F W n A l m σ H'
inductive ReI (H:Hp) (T L Hh F W:Addr) (n:Nat) (A:Nat→List Nat) (l here mu:Nat) (bs:List Nat) (σ : St) (H':Hp):Prop
  | mk:∀ (fs ws:List Nat) (x7 x8:Option V),(σ = [some (.ref T),some (.ref L),some (.ref Hh),some (nV l),some (.ref F),some (.ref W),some (nV here),x7,x8])→(Same H H')→(H' F=some (.dK (dictN fs)))→(H' W=some (.lst (ws.map nV)))→(GStep A l here fs ws bs)→(muN n (fs,ws)≤mu)→ReI H T L Hh F W n A l here mu bs σ H'
theorem ok_reached (B:Blt mg) (h_arm_leads:Has P w K mg base 1 "arm_leads" ["term", "leads"] (spArmLeads K)) (D:Def K mg "reached_leads" s_reached_leads ["terms", "leads", "heads", "lead"]) :
    Has P w K mg base 2 "reached_leads" ["terms", "leads", "heads", "lead"] spReached:=by
  refine D.has sc_reached_leads (fun vs H Q E h => ?_) (fun f cdv A outer s H vs Q E hr h => ?_)
  · obtain ⟨T,L,Hh,us,ts,ls,kvs,hd,l,rfl,_⟩:=h;rfl
  obtain ⟨T,L,Hh,us,ts,ls,kvs,hd,l,rfl,hT,hts,hL,pi,hHh,hha,ho,hSl,q⟩:=h
  refine ⟨_,(pss_cons (ps_set (i:=4) sc_reached_leads.nd rfl (Or.inl rfl) (pe_disp (pps_cons (pv 3) pe_bl pps_nil) rfl rfl (List.cons_ne_nil _ _) (Nat.le_of_ble_eq_true rfl)))
    (pss_cons (ps_set (i:=5) sc_reached_leads.nd rfl (Or.inl rfl) (pe_lst (pa_cons (pv 3) pa_nil)))
    (pss_cons (ps_while PassesOwn.never (pt_truth (pv 5) (fun _=>rfl))
    (pss_cons (ps_set (i:=6) sc_reached_leads.nd rfl (Or.inl rfl) (pe_bm0 PySem.F.plainAttrs_list PySem.F.slot_list_pop PySem.F.type_list_pop mt_pop (pv 5)))
    (pss_one (ps_for PassesOwn.never rfl (pi_list (pe_dget (hu_of hr) (pv 2) (pv 6) (fun _ _=>rfl))) (pg_name (i:=7) sc_reached_leads.nd rfl (Or.inl rfl))
    (pss_one (ps_for PassesOwn.never rfl (pi_list (pe_callH h_arm_leads hr (by omega) rfl (pa_cons (pe_ix ix_list (pv 0) (pv 7) (fun _ _=>rfl)) (pa_cons (pv 1) pa_nil)))) (pg_name (i:=8) sc_reached_leads.nd rfl (Or.inl rfl))
    (pss_one (ps_if (pt_cmp (pc_dnotin (hu_of hr) (pv 8) (pv 4)) (by with_unfolding_all rfl)) (pss_cons (ps_dput (hu_of hr) (pv 4) (pv 8) pe_bl rfl)
    (pss_one (ps_expr (pe_bm PySem.F.plainAttrs_list PySem.F.slot_list_append PySem.F.type_list_append mt_append (pv 5) (pa_cons (pv 8) pa_nil))))) pss_nil))))))))
    (pss_one (ps_ret (pe_callTy (call_list_dict rfl) rfl B.list_ boot_list_ (pa_cons (pv 4) pa_nil))))))),?_⟩
  try dsimp only [cxOf]
  have few:=pi.few
  have hcl:=hdA_ld pi ho
  have hlt:=ld_lt pi
  have hut:=Paired.length hts
  intro F hF0
  refine ⟨_,rfl,upd_same, [(lk l,.bl true)],rfl,(by show 1≤15;decide),?_⟩
  dsimp only [gName]
  rw [upd_upd]
  have hd0:mergeK [] [(lk l,V.bl true)]=dictN [l]:=rfl
  rw [hd0]
  have s1:=same_new hF0 (.dK (dictN [l]))
  have hF1:=upd_same (H:=H) (a:=F) (o := .dK (dictN [l]))
  generalize upd H F (.dK (dictN [l]))=H1 at s1 hF1 ⊢
  refine ⟨_,rfl,(show 1≤sizeLine by decide),fun W hW0 => ?_⟩
  dsimp only [gName]
  have hW00:H W=none:=s1.free hW0
  have s2:=s1.trans (same_new hW0 (.lst ([l].map nV)))
  have hF2:=(same_new hW0 (.lst ([l].map nV))) _ _ hF1
  have hW2:=upd_same (H:=H1) (a:=W) (o := .lst ([l].map nV))
  have hFW:F≠W:=ne_of_none hF1 hW0
  show tSeq (tWhile _ _) _ _ _ (upd H1 W (.lst ([l].map nV)))
  generalize upd H1 W (.lst ([l].map nV))=H2 at s2 hF2 hW2 ⊢
  refine ⟨RdI H T L Hh F W ts.length (hdA ls ts hd) l,⟨_,RdI.mk [l] [l] none none none rfl s2 hF2 hW2 ginv_start (by show 2 * (ts.length - 1)+1≤_;omega) rfl⟩,?_⟩
  rintro m σ H3 ⟨fs,ws,x6,x7,x8,rfl,s3,hF3,hW3,inv,hmx,rfl⟩
  refine ⟨_,rfl, !(ws.map nV).isEmpty,.inl ⟨_,SqL.of hW3,rfl⟩,?_⟩
  rcases List.eq_nil_or_concat ws with rfl | ⟨ws',here,e⟩
  · refine iteF ⟨_,rfl,F,dictN fs,rfl,.inl hF3,fun N hN => ?_⟩
    rw [keys_dictN]
    exact q N fs _ (s3.trans (same_new hN _)) upd_same inv
  rw [List.concat_eq_append] at e
  subst e
  have hne:(!((ws' ++ [here]).map nV).isEmpty)=true:=by rw [List.map_append];simp
  rw [hne]
  have hSh:IsLd ls ts.length here:=inv.least _ hSl hcl here (inv.sub here (List.mem_append_right _ (List.mem_singleton.mpr rfl)))
  refine iteT ⟨fun σ' H'=>∃ m',m' < muN ts.length (fs,ws' ++ [here])∧RdI H T L Hh F W ts.length (hdA ls ts hd) l m' σ' H',fun σ' H' h=>h,?_⟩
  refine ⟨_,rfl,.inl ⟨rfl,_,SqL.of hW3⟩,W,_,nV here,rfl,rfl,hW3,(by rw [List.map_append];simp),?_⟩
  dsimp only [gName]
  have ed:((ws' ++ [here]).map nV).dropLast=ws'.map nV:=by rw [List.map_append];simp
  rw [ed]
  have s4:=s3.put (o := .lst (ws'.map nV)) hW00
  have hF4:(upd H3 W (.lst (ws'.map nV))) F=some (.dK (dictN fs)):=by rw [upd_ne hFW];exact hF3
  have hW4:=upd_same (H:=H3) (a:=W) (o := .lst (ws'.map nV))
  generalize upd H3 W (.lst (ws'.map nV))=H4 at s4 hF4 hW4 ⊢
  have z2:muN ts.length (fs,ws' ++ [here])=2 * (ts.length - fs.length)+(ws' ++ [here]).length:=rfl
  have z3:muN ts.length (fs,ws')=2 * (ts.length - fs.length)+ws'.length:=rfl
  rw [List.length_append,List.length_singleton] at z2
  obtain ⟨kh,hkh,ekh⟩:=id hSh
  obtain ⟨ha,hav,hal⟩:=hha kh hkh
  rw [ekh] at hav hal
  refine ⟨_,rfl,_,rfl,Hh,_,rfl,dget_lk (s4 _ _ hHh) hav,ha,rfl,⟨_,SqL.of (s4 _ _ hal)⟩,?_⟩
  refine for_list (xs:=(hd here).map nV) (fun i=>ReI H T L Hh F W ts.length (hdA ls ts hd) l here (muN ts.length (fs,ws')) (((hd here).take i).flatMap fun j=>stepL ls (ts.getD j (.num 0)))) (ReI.mk fs ws' _ _ rfl s4 hF4 hW4 inv.pop (Nat.le_refl _)) ?_ ?_ ?_
  · rintro i σ H' _ ⟨f1,w1,x7,x8,rfl,sm,_⟩
    exact SqL.of (sm _ _ hal)
  · rintro i y σ H5 hy ⟨f0,w0,x7,x8,rfl,s5,hF5,hW5,g5,hmu5⟩
    rw [List.getElem?_map] at hy
    cases ej:(hd here)[i]? with
    | none=>rw [ej] at hy;cases hy
    | some j =>
    rw [ej] at hy
    have e1:nV j=y:=Option.some.inj hy
    subst e1
    have hjm:=List.mem_of_getElem? ej
    have hjn:=(ho.mem here j hjm).1
    obtain ⟨v,hv⟩:∃ v,us[j]? = some v:=⟨_,List.getElem?_eq_getElem (by rw [hut];exact hjn)⟩
    obtain ⟨t,ht,hvt⟩:=tms_at hts hv
    have egt:ts.getD j (.num 0)=t:=by rw [List.getD_eq_getElem?_getD,ht];rfl
    have htk:((hd here).take (i+1)).flatMap (fun j=>stepL ls (ts.getD j (.num 0)))=((hd here).take i).flatMap (fun j=>stepL ls (ts.getD j (.num 0))) ++ stepL ls t:=by rw [take_snoc ej,List.flatMap_append,List.flatMap_cons,List.flatMap_nil,List.append_nil,egt]
    have hsub:∀ b∈stepL ls t,b∈hdA ls ts hd here:=fun b hb=>List.mem_flatMap.mpr ⟨j,hjm,by rw [egt];exact hb⟩
    generalize ((hd here).take i).flatMap (fun j=>stepL ls (ts.getD j (.num 0)))=b0 at g5 htk
    dsimp only [gName]
    refine ⟨_,rfl,_,rfl,T,_,_,_,rfl,rfl,SqL.of (s5 _ _ hT),atI_nat hv,_,rfl,v,t,L,ls,rfl,hvt.same s5,SqL.of (s5 _ _ hL),pi.armIn ht,fun N H6 s6 hN0 hN=>⟨N,rfl,⟨_,SqL.of hN⟩,?_⟩⟩
    have hNW:N≠W:=(ne_of_none hW5 hN0).symm
    have hNF:N≠F:=(ne_of_none hF5 hN0).symm
    have hN:H6 N=some (.lst ((stepL ls t).map nV)):=hN
    refine for_list (xs:=(stepL ls t).map nV) (fun i2 σ' H'=>ReI H T L Hh F W ts.length (hdA ls ts hd) l here (muN ts.length (fs,ws')) (b0 ++ (stepL ls t).take i2) σ' H'∧H' N=some (.lst ((stepL ls t).map nV))) ⟨ReI.mk f0 w0 _ _ rfl (s5.trans s6) (s6 _ _ hF5) (s6 _ _ hW5) (by rw [List.take_zero,List.append_nil];exact g5) hmu5,hN⟩ ?_ ?_ ?_
    · rintro i2 σ H' _ ⟨_,hN'⟩
      exact SqL.of hN'
    · rintro i2 y σ H' hy ⟨⟨f1,w1,x7,x8,rfl,sm,hF',hW',gs,hmu⟩,hN'⟩
      rw [List.getElem?_map] at hy
      cases eb:(stepL ls t)[i2]? with
      | none=>rw [eb] at hy;cases hy
      | some b =>
      rw [eb] at hy
      have e1:nV b=y:=Option.some.inj hy
      subst e1
      have hst:=gs.step (hsub b (List.mem_of_getElem? eb))
      have hfl:=gs.len _ hSl hcl hlt
      have hfl2:=hst.len _ hSl hcl hlt
      have hm2:=stepN_mu (n:=ts.length) (p:=(f1,w1)) (b:=b) hfl2
      rw [List.append_assoc, ← take_snoc eb] at hst
      dsimp only [gName]
      refine ⟨_,rfl,_,rfl,F,_,rfl,DGet.k (k:=lk b) hF',_,rfl,?_⟩
      rw [val_dictN]
      by_cases hin:b∈f1
      · rw [decide_eq_true hin]
        have e2:stepN (f1,w1) b=(f1,w1):=if_pos hin
        rw [e2] at hst
        exact iteF ⟨ReI.mk f1 w1 _ _ rfl sm hF' hW' hst hmu,hN'⟩
      · rw [decide_eq_false hin]
        have e2:stepN (f1,w1) b=(f1 ++ [b],w1 ++ [b]):=if_neg hin
        rw [e2] at hst hm2
        have wl:w1.length≤2000:=by
          have z1:muN ts.length (f1,w1)=2 * (ts.length - f1.length)+w1.length:=rfl
          omega
        refine iteT ⟨_,rfl,_,rfl,F,_,rfl,DPut.k (k:=lk b) hF' (small1000 (by show (dictN f1).length≤1000;unfold dictN;rw [List.length_map];omega)),?_⟩
        rw [put_dictN hin]
        have hW6:(upd H' F (.dK (dictN (f1 ++ [b])))) W=some (.lst (w1.map nV)):=by rw [upd_ne hFW.symm];exact hW'
        refine ⟨_,rfl,.inl ⟨rfl,_,SqL.of hW6⟩,_,rfl,W,_,_,rfl,rfl,hW6,(by rw [List.length_map];exact Nat.lt_of_le_of_lt wl (by decide)),?_⟩
        refine ⟨ReI.mk (f1 ++ [b]) (w1 ++ [b]) _ _ rfl ((sm.put hF0).put hW00) ?_ ?_ hst (Nat.le_trans hm2 hmu),?_⟩
        · rw [upd_ne hFW,upd_same]
        · rw [upd_same,List.map_append];rfl
        · rw [upd_ne hNW,upd_ne hNF];exact hN'
    · rintro σ H' ⟨h,_⟩
      rw [List.length_map,List.take_length, ← htk] at h
      exact h
  · rintro σ H' ⟨f1,w1,x7,x8,rfl,sm,hF',hW',gs,hmu⟩
    rw [List.length_map,List.take_length] at gs
    exact ⟨muN ts.length (f1,w1),by omega,RdI.mk f1 w1 _ _ _ rfl sm hF' hW' (gs.done fun b hb=>hb) (by omega) rfl⟩
inductive SpCount (vs:List V) (H:Hp) (Q:VK):Prop
  | mk (Hh R:Addr) (ts:List Tm) (ls:List Nat) (kvs:DK) (hd:Nat→List Nat) (fs:List Nat) (z0:vs = [.ref Hh,.ref R]) (z1:H Hh=some (.dK kvs)) (z2:HdAt H kvs ts ls hd) (z3:HdOk ts ls hd) (z4:ts.length≤500) (z5:(∀ x∈fs,IsLd ls ts.length x)) (z6:H R=some (.lst (fs.map nV))) (z7:fs.length≤500) (z8:Q (nV (waysF hd fs)) H):SpCount  vs H Q
noncomputable def spCount:Sp:=fun vs H Q _=>SpCount  vs H Q
theorem ways_lt (hd:Nat→List Nat) (hf:∀ x,(hd x).length < 2 ^ 9):∀ (n:Nat) (fs:List Nat),fs.length=n→waysF hd fs < 2 ^ (9 * n+1):=by
  intro n
  induction n with
  | zero=>intro fs h;rw [List.length_eq_zero_iff.mp h];exact (by decide:1 < 2 ^ (9 * 0+1))
  | succ n ih =>
    intro fs h
    rcases List.eq_nil_or_concat fs with e | ⟨f0,k,e⟩
    · rw [e] at h;cases h
    rw [List.concat_eq_append] at e
    subst e
    rw [List.length_append,List.length_singleton] at h
    rw [ways_snoc]
    have h1:=ih f0 (by omega)
    have h2:=hf k
    have e:(2:Nat) ^ (9 * (n+1)+1)=2 ^ (9 * n+1) * 2 ^ 9:=by rw [← Nat.pow_add];congr 1
    rw [e]
    exact Nat.mul_lt_mul'' h1 h2
theorem ok_count (B:Blt mg) (D:Def K mg "count_ways" s_count_ways ["heads", "reached"]):Has P w K mg base 1 "count_ways" ["heads", "reached"] spCount:=by
  refine D.has sc_count_ways (fun vs H Q E h => ?_) (fun f cdv A outer s H vs Q E hr h => ?_)
  · obtain ⟨Hh,R,ts,ls,kvs,hd,fs,rfl,_⟩:=h;rfl
  obtain ⟨Hh,R,ts,ls,kvs,hd,fs,rfl,hHh,hha,ho,few,hld,hR,hfl,q⟩:=h
  refine ⟨_,(pss_cons (ps_set (i:=2) sc_count_ways.nd rfl (Or.inl rfl) pe_int)
    (pss_cons (ps_for PassesOwn.never rfl (pi_list (pv 1)) (pg_name (i:=3) sc_count_ways.nd rfl (Or.inl rfl))
    (pss_one (ps_set (i:=2) sc_count_ways.nd rfl (Or.inl rfl) (pe_op op_mulB (pv 2) (pe_callB call_len_seq rfl B.len_ PySem.boot_len (pa_cons (pe_dget (hu_of hr) (pv 0) (pv 3) (fun _ _=>rfl)) pa_nil))))))
    (pss_one (ps_ret (pv 2))))),?_⟩
  try dsimp only [cxOf]
  have hf9:∀ x,(hd x).length < 2 ^ 9:=fun x=>by have:=ho.few x;exact Nat.lt_of_le_of_lt (Nat.le_trans this few) (by decide)
  refine ⟨_,rfl,R,rfl,⟨_,SqL.of hR⟩,?_⟩
  refine for_list (xs:=fs.map nV) (fun i σ H'=>∃ x3:Option V, σ = [some (.ref Hh),some (.ref R),some (nV (waysF hd (fs.take i))),x3]∧H'=H) ⟨none,rfl,rfl⟩ ?_ ?_ ?_
  · rintro i σ H' _ ⟨x3,rfl,rfl⟩
    exact SqL.of hR
  · rintro i y σ H' hy ⟨x3,rfl,rfl⟩
    rw [List.getElem?_map] at hy
    cases eb:fs[i]? with
    | none=>rw [eb] at hy;cases hy
    | some x =>
    rw [eb] at hy
    have e1:nV x=y:=Option.some.inj hy
    subst e1
    obtain ⟨k,hk,rfl⟩:=hld x (List.mem_of_getElem? eb)
    obtain ⟨a,hav,hal⟩:=hha k hk
    have hil:=(List.getElem?_eq_some_iff.mp eb).1
    have hw:=ways_lt hd hf9 i (fs.take i) (by rw [List.length_take];omega)
    have hb:=hf9 (ls.getD k 0)
    dsimp only [gName]
    refine ⟨_,rfl,_,rfl,_,rfl,Hh,_,rfl,dget_lk hHh hav,a,_,rfl,.inl (SqL.of hal),_,_,rfl,rfl,mulB_of (m:=9 * i+1) (n:=9) (by show ((waysF hd (fs.take i):Nat):Int).natAbs < _;rw [Int.natAbs_natCast];exact hw) (by rw [List.length_map];show (((hd (ls.getD k 0)).length:Nat):Int).natAbs < _;rw [Int.natAbs_natCast];exact hb) (by omega),⟨some (nV (ls.getD k 0)),?_,rfl⟩⟩
    rw [take_snoc eb,ways_snoc,List.length_map]
    show _ = [some (V.ref Hh),some (V.ref R),some (V.int ((waysF hd (fs.take i) * (hd (ls.getD k 0)).length:Nat):Int)),some (nV (ls.getD k 0))]
    rw [Int.natCast_mul]
    rfl
  · rintro σ H' ⟨x3,rfl,rfl⟩
    rw [List.length_map,List.take_length]
    exact ⟨_,rfl,q⟩
end

end K65
namespace K65
open PySem L2 Sw
section
variable {P:Program} {w:World} {K:PySem.W.Frag} {mg:Str→Option Value} {base:Heap}
theorem paired_at {α β : Type} {R : α → β → Prop}:∀ {xs:List α} {ys:List β} {i:Nat} {x : α},Paired R xs ys→xs[i]? = some x→∃ y,ys[i]? = some y∧R x y
  | _,_,_,_,.nil,e=>by simp at e
  | _,_,0,_,.cons h _,e=>by simp at e;subst e;exact ⟨_,rfl,h⟩
  | _,_,i+1,v,.cons _ r,e=>by
    obtain ⟨t,e',h⟩:=paired_at (i:=i) (x:=v) r (by simpa using e)
    exact ⟨t,by simpa using e',h⟩
theorem at_last {α : Type} (xs:List α) (x : α):atI (xs ++ [x]) (-1)=some x:=by
  unfold atI ixN
  rw [if_neg (by decide),if_pos (by rw [List.length_append];show -((xs.length+1:Nat):Int) ≤ -1;omega)]
  have e:((-1:Int)+(((xs ++ [x]).length:Nat):Int)).toNat=xs.length:=by rw [List.length_append];show ((-1:Int)+((xs.length+1:Nat):Int)).toNat=_;omega
  rw [e]
  simp
theorem in_nats {z:Nat} {hs:List Nat}:inV (nV z) (hs.map nV)=decide (z∈hs):=by
  unfold inV
  induction hs with
  | nil=>rfl
  | cons x l ih =>
    rw [List.map_cons,List.any_cons,ih]
    have e:eqV (nV x) (nV z)=decide (x=z):=by
      show (((x:Nat):Int) == ((z:Nat):Int))=_
      rw [Bool.eq_iff_iff,beq_iff_eq,decide_eq_true_iff]
      omega
    rw [e,Bool.eq_iff_iff,Bool.or_eq_true,decide_eq_true_iff,decide_eq_true_iff,decide_eq_true_iff,List.mem_cons]
    exact ⟨fun h=>h.elim (fun h => .inl h.symm) .inr,fun h=>h.elim (fun h => .inl h.symm) .inr⟩
theorem flat_nats (hs:List Nat):(hs.map nV).all flatV=true:=by
  rw [List.all_eq_true]
  intro y hy
  obtain ⟨z,_,rfl⟩:=List.mem_map.mp hy
  rfl
theorem rd_set {v:V} {i:Nat} {rest:TS} {D:Ends} {σ : St} {H:Hp} (h:rest D (σ.set i (some v)) H):tSeq (tAsg (tC v) (gName i)) rest D σ H:=h
theorem all_dec {ks bs:List Nat}:(bs.map fun b=>decide (b∈ks)).all id=decide (∀ b∈bs,b∈ks):=by
  rw [Bool.eq_iff_iff,List.all_eq_true,decide_eq_true_iff]
  constructor
  · intro h b hb
    exact of_decide_eq_true (h _ (List.mem_map.mpr ⟨b,hb,rfl⟩))
  · intro h x hx
    obtain ⟨b,hb,rfl⟩:=List.mem_map.mp hx
    exact decide_eq_true (h b hb)
end

section
variable {P:Program} {w:World} {K:PySem.W.Frag} {mg:Str→Option Value} {base:Heap} {CTW:Addr}
noncomputable def DictAt (H:Hp) (v:V) (pk:DK):Prop := ∃ d,v = .ref d∧H d=some (.dK pk)
inductive SpAll (vs:List V) (H:Hp) (Q:VK):Prop
  | mk (Hh R:Addr) (ts:List Tm) (ls:List Nat) (kvs:DK) (hd:Nat→List Nat) (fs:List Nat) (z0:vs = [.ref Hh,.ref R]) (z1:H Hh=some (.dK kvs)) (z2:HdAt H kvs ts ls hd) (z3:HdOk ts ls hd) (z4:(∀ x∈fs,IsLd ls ts.length x)) (z5:H R=some (.lst (fs.map nV))) (z6:fs.length≤500) (z7:waysF hd fs≤200) (z8:∀ N vs' H',Same H H'→H' N=some (.lst vs')→Paired (DictAt H') vs' (combF hd fs)→Q (.ref N) H'):SpAll  vs H Q
noncomputable def spAll:Sp:=fun vs H Q _=>SpAll  vs H Q
theorem hd_pos {ts:List Tm} {ls:List Nat} {hd:Nat→List Nat} (ho:HdOk ts ls hd) {x:Nat} (h:IsLd ls ts.length x):1≤(hd x).length:=by
  obtain ⟨k,hk,rfl⟩:=h
  exact List.length_pos_of_mem (ho.self k hk)
theorem ways_pre {ts:List Tm} {ls:List Nat} {hd:Nat→List Nat} (ho:HdOk ts ls hd):∀ (gs fs:List Nat),(∀ x∈gs,IsLd ls ts.length x)→waysF hd fs≤waysF hd (fs ++ gs)
  | [],fs,_=>by rw [List.append_nil];exact Nat.le_refl _
  | g :: gs,fs,h=>by
    have h1:=ways_pre ho gs (fs ++ [g]) fun x hx=>h x (List.mem_cons_of_mem _ hx)
    rw [List.append_assoc,List.singleton_append] at h1
    have h2:=hd_pos ho (h g List.mem_cons_self)
    rw [ways_snoc] at h1
    exact Nat.le_trans (Nat.le_mul_of_pos_right _ h2) h1
inductive ApI (H:Hp) (Hh R:Addr) (cs:List DK) (σ : St) (H':Hp):Prop
  | mk:∀ (N:Addr) (vs:List V) (x3 x4 x5 x6 x7:Option V),(σ = [some (.ref Hh),some (.ref R),some (.ref N),x3,x4,x5,x6,x7])→(Same H H')→(H' N=some (.lst vs))→(Paired (DictAt H') vs cs)→ApI H Hh R cs σ H'
inductive AqI (H:Hp) (Hh R N M:Addr) (x:Nat) (vs:List V) (ps cs:List DK) (σ : St) (H':Hp):Prop
  | mk:∀ (ws:List V) (x5 x6 x7:Option V),(σ = [some (.ref Hh),some (.ref R),some (.ref N),some (nV x),some (.ref M),x5,x6,x7])→(Same H H')→(H' N=some (.lst vs))→(Paired (DictAt H') vs ps)→(H' M=some (.lst ws))→(Paired (DictAt H') ws cs)→AqI H Hh R N M x vs ps cs σ H'
theorem DictAt.same {H H':Hp} (sm:Same H H'):∀ (v:V) (pk:DK),DictAt H v pk→DictAt H' v pk:=fun v pk h=>by obtain ⟨d,e,h⟩:=h;exact ⟨d,e,sm _ _ h⟩
theorem DictAt.lst {H:Hp} {a:Addr} {xs ys:List V} (ha:H a=some (.lst xs)):∀ (v:V) (pk:DK),DictAt H v pk→DictAt (upd H a (.lst ys)) v pk:=fun v pk h=>by
  obtain ⟨d,e,h⟩:=h
  exact ⟨d,e,by rw [upd_ne (fun z=>by rw [z,ha] at h;cases h)];exact h⟩
theorem ok_all (B:Blt mg) (b_dict:mg "dict" = none) (D:Def K mg "all_picks" s_all_picks ["heads", "reached"]):Has P w K mg base 1 "all_picks" ["heads", "reached"] spAll:=by
  refine D.has sc_all_picks (fun vs H Q E h => ?_) (fun f cdv A outer s H vs Q E hr h => ?_)
  · obtain ⟨Hh,R,ts,ls,kvs,hd,fs,rfl,_⟩:=h;rfl
  obtain ⟨Hh,R,ts,ls,kvs,hd,fs,rfl,hHh,hha,ho,hld,hR,hfl,hways,q⟩:=h
  refine ⟨_,(pss_cons (ps_set (i:=2) sc_all_picks.nd rfl (Or.inl rfl) (pe_lst (pa_cons pe_dnewK pa_nil)))
    (pss_cons (ps_for PassesOwn.never rfl (pi_list (pv 1)) (pg_name (i:=3) sc_all_picks.nd rfl (Or.inl rfl))
    (pss_cons (ps_set (i:=4) sc_all_picks.nd rfl (Or.inl rfl) (pe_lst pa_nil))
    (pss_cons (ps_for PassesOwn.never rfl (pi_list (pv 2)) (pg_name (i:=5) sc_all_picks.nd rfl (Or.inl rfl))
    (pss_one (ps_for PassesOwn.never rfl (pi_list (pe_dget (hu_of hr) (pv 0) (pv 3) (fun _ _=>rfl))) (pg_name (i:=6) sc_all_picks.nd rfl (Or.inl rfl))
    (pss_cons (ps_set (i:=7) sc_all_picks.nd rfl (Or.inl rfl) (pe_callTy call_dictK rfl b_dict boot_dict_ (pa_cons (pv 5) pa_nil)))
    (pss_cons (ps_dput (hu_of hr) (pv 7) (pv 3) (pv 6) rfl)
    (pss_one (ps_expr (pe_bm PySem.F.plainAttrs_list PySem.F.slot_list_append PySem.F.type_list_append mt_append (pv 4) (pa_cons (pv 7) pa_nil)))))))))
    (pss_one (ps_set (i:=2) sc_all_picks.nd rfl (Or.inl rfl) (pv 4))))))
    (pss_one (ps_ret (pv 2))))),?_⟩
  try dsimp only [cxOf]
  intro d0 hd0
  have k0:=same_new hd0 (.dK [])
  have h0:=upd_same (H:=H) (a:=d0) (o := .dK [])
  generalize upd H d0 (.dK [])=H0 at k0 h0 ⊢
  refine ⟨(show 1≤sizeLine by decide),fun N0 hN0 => ?_⟩
  dsimp only [gName]
  have k1:=same_new hN0 (.lst [.ref d0])
  have hN1:=upd_same (H:=H0) (a:=N0) (o := .lst [.ref d0])
  have h01:=k1 _ _ h0
  generalize upd H0 N0 (.lst [.ref d0])=H1 at k1 hN1 h01 ⊢
  have s1:=k0.trans k1
  refine ⟨_,rfl,R,rfl,⟨_,SqL.of (s1 _ _ hR)⟩,?_⟩
  refine for_list (xs:=fs.map nV) (fun i=>ApI H Hh R (combF hd (fs.take i))) (ApI.mk N0 [.ref d0] none none none none none rfl s1 hN1 (.cons ⟨d0,rfl,h01⟩ .nil)) ?_ ?_ ?_
  · rintro i σ H' _ ⟨N,vs,x3,x4,x5,x6,x7,rfl,sm,_⟩
    exact SqL.of (sm _ _ hR)
  · rintro i y σ H2 hy ⟨N,vs,x3,x4,x5,x6,x7,rfl,s2,hN2,hp2⟩
    rw [List.getElem?_map] at hy
    cases eb:fs[i]? with
    | none=>rw [eb] at hy;cases hy
    | some x =>
    rw [eb] at hy
    have e1:nV x=y:=Option.some.inj hy
    subst e1
    have hxl:=hld x (List.mem_of_getElem? eb)
    have hil:=(List.getElem?_eq_some_iff.mp eb).1
    have htk:=take_snoc eb
    have hw:waysF hd (fs.take (i+1))≤200:=by
      have:=ways_pre ho (fs.drop (i+1)) (fs.take (i+1)) fun z hz=>hld z (List.mem_of_mem_drop hz)
      rw [List.take_append_drop] at this
      omega
    have hcs:=comb_snoc hd (fs.take i) x
    have hcl:=comb_len hd (fs.take (i+1))
    have hdl:∀ pk∈combF hd (fs.take i),pk.length≤500:=fun pk hp=>by
      have:=(comb_get hd _ (fs.take i) rfl pk hp).2
      rw [List.length_take] at this
      omega
    rw [htk,hcs] at hcl
    rw [htk,hcs]
    rw [htk] at hw
    generalize combF hd (fs.take i)=ps at hp2 hcl hdl
    have hpl:=Paired.length hp2
    obtain ⟨kx,hkx,ekx⟩:=id hxl
    obtain ⟨ha,hav,hal⟩:=hha kx hkx
    rw [ekx] at hav hal
    dsimp only [gName]
    refine ⟨Nat.zero_le _,fun M hM0 => ?_⟩
    dsimp only [gName]
    have hM00:H M=none:=s2.free hM0
    have hMN:M≠N:=(ne_of_none hN2 hM0).symm
    have k3:=same_new hM0 (.lst [])
    have hM3:=upd_same (H:=H2) (a:=M) (o := .lst [])
    have hN3:=k3 _ _ hN2
    have hp3:Paired (DictAt (upd H2 M (.lst []))) vs ps:=Paired.mapP hp2 (DictAt.same k3)
    generalize upd H2 M (.lst [])=H3 at k3 hM3 hN3 hp3 ⊢
    have s3:=s2.trans k3
    refine rd_cut (AqI H Hh R N M x vs ps (stepC hd ps x)) ?_ (fun key => ?_)
    · rintro σ' H' ⟨ws,x5,x6,x7,rfl,sm,hN',hp',hM',hq'⟩
      exact ⟨_,rfl,ApI.mk M ws _ _ _ _ _ rfl sm hM' hq'⟩
    · refine ⟨_,rfl,N,rfl,⟨_,SqL.of hN3⟩,?_⟩
      refine for_list (xs:=vs) (fun i1=>AqI H Hh R N M x vs ps (stepC hd (ps.take i1) x)) (AqI.mk [] _ _ _ rfl s3 hN3 hp3 hM3 .nil) ?_ ?_ ?_
      · rintro i1 σ H' _ ⟨ws,x5,x6,x7,rfl,sm,hN',_⟩
        exact SqL.of hN'
      · rintro i1 y1 σ H4 hy1 ⟨ws,x5,x6,x7,rfl,s4,hN4,hp4,hM4,hq4⟩
        obtain ⟨pk,hpk,d,rfl,hd4⟩:=paired_at hp4 hy1
        have hpm:=List.mem_of_getElem? hpk
        have htk1:=take_snoc hpk
        have hst:stepC hd (ps.take (i1+1)) x=stepC hd (ps.take i1) x ++ (hd x).map fun k=>putK pk (lk x) (nV k):=by
          unfold stepC
          rw [htk1,List.flatMap_append,List.flatMap_cons,List.flatMap_nil,List.append_nil]
        have hle:(stepC hd (ps.take (i1+1)) x).length≤200:=by
          have a1:(stepC hd (ps.take (i1+1)) x).length≤(stepC hd ps x).length:=by
            rw [stepC_len,stepC_len]
            exact Nat.mul_le_mul_right _ (by rw [List.length_take];omega)
          omega
        rw [hst] at hle
        rw [hst]
        generalize stepC hd (ps.take i1) x=c0 at hq4 hle
        dsimp only [gName]
        refine ⟨_,rfl,_,rfl,Hh,_,rfl,dget_lk (s4 _ _ hHh) hav,ha,rfl,⟨_,SqL.of (s4 _ _ hal)⟩,?_⟩
        refine for_list (xs:=(hd x).map nV) (fun i2 σ' H'=>AqI H Hh R N M x vs ps (c0 ++ ((hd x).take i2).map fun k=>putK pk (lk x) (nV k)) σ' H' ∧ σ'.getD 5 none=some (.ref d)∧H' d=some (.dK pk)) ⟨AqI.mk ws _ _ _ rfl s4 hN4 hp4 hM4 (by rw [List.take_zero,List.map_nil,List.append_nil];exact hq4),rfl,hd4⟩ ?_ ?_ ?_
        · rintro i2 σ H' _ ⟨⟨ws,x5,x6,x7,rfl,sm,_⟩,_⟩
          exact SqL.of (sm _ _ hal)
        · rintro i2 y2 σ H5 hy2 ⟨⟨ws,x5,x6,x7,rfl,s5,hN5,hp5,hM5,hq5⟩,h5d,hd5⟩
          have h5d:x5=some (.ref d):=h5d
          subst h5d
          rw [List.getElem?_map] at hy2
          cases ek:(hd x)[i2]? with
          | none=>rw [ek] at hy2;cases hy2
          | some k =>
          rw [ek] at hy2
          have e2:nV k=y2:=Option.some.inj hy2
          subst e2
          have hi2:=(List.getElem?_eq_some_iff.mp ek).1
          have hwl:=Paired.length hq5
          rw [List.length_append,List.length_map,List.length_take] at hwl
          rw [List.length_append,List.length_map] at hle
          dsimp only [gName]
          refine ⟨_,rfl,d,pk,rfl,hd5,fun e he => ?_⟩
          dsimp only [gName]
          have k6:=same_new he (.dK pk)
          have he6:=upd_same (H:=H5) (a:=e) (o := .dK pk)
          refine ⟨_,rfl,_,rfl,_,rfl,e,_,rfl,DPut.k (k:=lk x) he6 (small1000 (by have:=hdl pk hpm;omega)),?_⟩
          rw [upd_upd]
          have k7:=same_new he (.dK (putK pk (lk x) (nV k)))
          have he7:=upd_same (H:=H5) (a:=e) (o := .dK (putK pk (lk x) (nV k)))
          generalize upd H5 e (.dK (putK pk (lk x) (nV k)))=H7 at k7 he7 ⊢
          have hM7:=k7 _ _ hM5
          refine ⟨_,rfl,.inl ⟨rfl,_,SqL.of hM7⟩,_,rfl,M,_,_,rfl,rfl,hM7,small1000 (by omega),⟨AqI.mk (ws ++ [.ref e]) _ _ _ rfl ((s5.trans k7).put hM00) ?_ ?_ upd_same ?_,rfl,?_⟩⟩
          · rw [upd_ne hMN.symm];exact k7 _ _ hN5
          · exact Paired.mapP hp5 fun v p z=>DictAt.lst hM7 v p (DictAt.same k7 v p z)
          · rw [take_snoc ek,List.map_append, ← List.append_assoc]
            exact Paired.snoc (Paired.mapP hq5 fun v p z=>DictAt.lst hM7 v p (DictAt.same k7 v p z)) (DictAt.lst hM7 _ _ ⟨e,rfl,he7⟩)
          · rw [upd_ne (fun z=>by rw [z,hM5] at hd5;cases hd5)];exact k7 _ _ hd5
        · rintro σ H' ⟨h,_⟩
          rw [List.length_map,List.take_length] at h
          exact h
      · rintro σ H' h
        rw [hpl,List.take_length] at h
        exact key _ _ h
  · rintro σ H' ⟨N,vs,x3,x4,x5,x6,x7,rfl,sm,hN,hp⟩
    rw [List.length_map,List.take_length] at hp
    exact ⟨_,rfl,q N vs H' sm hN hp⟩
end

end K65
namespace K65
open PySem L2 Sw
section
variable {P:Program} {w:World} {K:PySem.W.Frag} {mg:Str→Option Value} {base:Heap} {CTW:Addr}
theorem ints_back (out:List Int) (ns:List Nat) (h:out.Perm (ns.map fun l:Nat=>(l:Int))):out=(out.map Int.toNat).map (fun l:Nat=>(l:Int))∧(out.map Int.toNat).Perm ns:=by
  refine ⟨?_,?_⟩
  · rw [List.map_map]
    conv=>lhs;rw [← List.map_id out]
    refine List.map_congr_left fun x hx => ?_
    obtain ⟨l,_,rfl⟩:=List.mem_map.mp (h.mem_iff.mp hx)
    show ((l:Nat):Int)=(((l:Nat):Int).toNat:Int)
    rw [Int.toNat_natCast]
  · have:=h.map Int.toNat
    rw [List.map_map] at this
    have e:(Int.toNat ∘ fun l:Nat=>(l:Int))=id:=by funext l;exact Int.toNat_natCast l
    rw [e,List.map_id] at this
    exact this
inductive SpOrdered (vs:List V) (H:Hp) (Q:VK):Prop
  | mk (T L Pk Nd:Addr) (us:List V) (ts:List Tm) (ls:List Nat) (pk:DK) (ns:List Nat) (z0:vs = [.ref T,.ref L,.ref Pk,.ref Nd]) (z1:H T=some (.lst us)) (z2:Tms H us ts) (z3:H L=some (.lst (ls.map nV))) (z4:PrG ts ls) (z5:H Pk=some (.dK pk)) (z6:PickOn ls ts pk (· ∈ ns)) (z7:ns.Nodup) (z8:ns.length < 64) (z9:H Nd=some (.lst (ns.map nV))) (z10:(∀ H',Same H H'→¬ RankOn ls ts pk ns→Q .non H')) (z11:∀ N rvs rs H',Same H H'→H' N=some (.lst rvs)→Paired (PairAt H') rvs rs→RowOk ts ls pk ns rs→Q (.ref N) H'):SpOrdered  vs H Q
noncomputable def spOrdered:Sp:=fun vs H Q _=>SpOrdered  vs H Q
inductive OrI (H:Hp) (T L Pk Nd N Y:Addr) (ts:List Tm) (ls:List Nat) (pk:DK) (ns:List Nat) (m:Nat) (σ : St) (H':Hp):Prop
  | mk:∀ (rs:List Rw) (rvs:List V) (lf:List Nat) (F:Addr) (x7 x8:Option V),(σ = [some (.ref T),some (.ref L),some (.ref Pk),some (.ref Nd),some (.ref N),some (.ref Y),some (.ref F),x7,x8])→(Same H H')→(H' N=some (.lst rvs))→(Paired (PairAt H') rvs rs)→(H' Y=some (.dK (dictN (rs.map (·.1)))))→(H' F=some (.lst (lf.map nV))) →
      (RwI ts ls ns rs)→(∀ r∈rs,valV pk (lk r.1)=some (nV r.2))→(lf.Nodup)→(∀ x,x∈ns↔x∈rs.map (·.1)∨x∈lf)→(∀ x∈lf,x ∉ rs.map (·.1))→(F≠N)→(lf.length=m)→OrI H T L Pk Nd N Y ts ls pk ns m σ H'
inductive OsI (H:Hp) (T L Pk Nd N Y F M:Addr) (ts:List Tm) (ls:List Nat) (pk:DK) (ns lf:List Nat) (rs0:List Rw) (i:Nat) (σ : St) (H':Hp):Prop
  | mk:∀ (rs:List Rw) (rvs:List V) (lt:List Nat) (x8:Option V),(σ = [some (.ref T),some (.ref L),some (.ref Pk),some (.ref Nd),some (.ref N),some (.ref Y),some (.ref F),some (.ref M),x8])→(Same H H')→(H' N=some (.lst rvs))→(Paired (PairAt H') rvs rs)→(H' Y=some (.dK (dictN (rs.map (·.1)))))→(H' F=some (.lst (lf.map nV)))→(H' M=some (.lst (lt.map nV))) →
      (RwI ts ls ns rs)→(∀ r∈rs,valV pk (lk r.1)=some (nV r.2))→(lt.Nodup)→(∀ x∈lt,x∈lf.take i∧x ∉ rs.map (·.1))→(∀ x∈lf.take i,x∈rs.map (·.1)∨x∈lt)→(∀ x∈rs.map (·.1),x∈rs0.map (·.1)∨x∈lf.take i)→(∀ x∈rs0.map (·.1),x∈rs.map (·.1)) →
      (∀ w∈lf.take i,(∀ b∈pkA ls ts pk w,b∈rs0.map (·.1))→w∈rs.map (·.1))→OsI H T L Pk Nd N Y F M ts ls pk ns lf rs0 i σ H'
theorem not_take {lf:List Nat} {i x:Nat} (nd:lf.Nodup) (h:lf[i]? = some x):x ∉ lf.take i:=fun z=>by
  obtain ⟨j,hj⟩:=List.getElem?_of_mem z
  rw [List.getElem?_take] at hj
  split at hj
  · rename_i hlt
    have h1:=(List.getElem?_eq_some_iff.mp hj)
    have h2:=(List.getElem?_eq_some_iff.mp h)
    obtain ⟨a1,b1⟩:=h1
    obtain ⟨a2,b2⟩:=h2
    have:=(List.pairwise_iff_getElem.mp nd) j i a1 a2 hlt
    exact this (by rw [b1,b2])
  · cases hj
theorem ok_ordered (B:Blt mg) (b_all:mg "all" = none) (b_sorted:mg "sorted" = none) (h_arm_leads:Has P w K mg base 1 "arm_leads" ["term", "leads"] (spArmLeads K)) (D:Def K mg "ordered" s_ordered ["terms", "leads", "picks", "needed"]) :
    Has P w K mg base 2 "ordered" ["terms", "leads", "picks", "needed"] spOrdered:=by
  refine D.has sc_ordered (fun vs H Q E h => ?_) (fun f cdv A outer s H vs Q E hr h => ?_)
  · obtain ⟨T,L,Pk,Nd,us,ts,ls,pk,ns,rfl,_⟩:=h;rfl
  obtain ⟨T,L,Pk,Nd,us,ts,ls,pk,ns,rfl,hT,hts,hL,pi,hPk,hpk,hnd,h64,hNd,qn,q⟩:=h
  refine ⟨_,(pss_cons (ps_set (i:=4) sc_ordered.nd rfl (Or.inl rfl) (pe_lst pa_nil))
    (pss_cons (ps_set (i:=5) sc_ordered.nd rfl (Or.inr rfl) pe_dnewK)
    (pss_cons (ps_set (i:=6) sc_ordered.nd rfl (Or.inl rfl) (pe_callB call_sortedL rfl b_sorted boot_sorted_ (pa_cons (pv 3) pa_nil)))
    (pss_cons (ps_while PassesOwn.never (pt_truth (pv 6) (fun _=>rfl))
    (pss_cons (ps_set (i:=7) sc_ordered.nd rfl (Or.inl rfl) (pe_lst pa_nil))
    (pss_cons (ps_for PassesOwn.never rfl (pi_list (pv 6)) (pg_name (i:=8) sc_ordered.nd rfl (Or.inl rfl))
    (pss_one (ps_if (pt_val (pe_callB (call_allL rfl) rfl b_all boot_all_ (pa_cons (pe_comp (te:=_) (own := ["below"]) (caps := [("placed",5)]) (comp_scope (defScope s_ordered) ["terms", "leads", "picks", "needed", "rows", "placed", "left", "later", "lead"] rfl rfl rfl (by decide +kernel)) (pi_list (pe_callH h_arm_leads hr (by omega) rfl (pa_cons (pe_ix ix_list (pv 0) (pe_dget (hu_of hr) (pv 2) (pv 8) (fun _ _=>rfl)) (fun _ _=>rfl)) (pa_cons (pv 1) pa_nil)))) rfl (fun _ _ _=>pg_name (i:=0) (show (["below", "placed"]:List Str).Nodup by decide +kernel) rfl (Or.inl rfl)) (fun _ _ _=>(pe_cmp (pc_din (hu_of hr) (pv 0) (pv 1)) (by with_unfolding_all rfl)))) pa_nil))) (pss_cons (ps_dput (hu_of hr) (pv 5) (pv 8) pe_bl rfl)
    (pss_one (ps_expr (pe_bm PySem.F.plainAttrs_list PySem.F.slot_list_append PySem.F.type_list_append mt_append (pv 4) (pa_cons (pe_tup (pa_cons (pv 8) (pa_cons (pe_dget (hu_of hr) (pv 2) (pv 8) (fun _ _=>rfl)) pa_nil))) pa_nil))))) (pss_one (ps_expr (pe_bm PySem.F.plainAttrs_list PySem.F.slot_list_append PySem.F.type_list_append mt_append (pv 7) (pa_cons (pv 8) pa_nil)))))))
    (pss_cons (ps_if (pt_cmpR op_eq (pe_callB call_len_seq rfl B.len_ PySem.boot_len (pa_cons (pv 7) pa_nil)) (pe_callB call_len_seq rfl B.len_ PySem.boot_len (pa_cons (pv 6) pa_nil)) (nomark _)) (pss_one (ps_ret pe_non)) pss_nil)
    (pss_one (ps_set (i:=6) sc_ordered.nd rfl (Or.inl rfl) (pv 7)))))))
    (pss_one (ps_ret (pv 4))))))),?_⟩
  try dsimp only [cxOf]
  have hut:=Paired.length hts
  have few:=pi.few
  refine ⟨Nat.zero_le _,fun N hN0 => ?_⟩
  dsimp only [gName]
  have s1:=same_new hN0 (.lst [])
  have hN1:=upd_same (H:=H) (a:=N) (o := .lst [])
  generalize upd H N (.lst [])=H1 at s1 hN1 ⊢
  intro Y hY0
  dsimp only [gName]
  have hY00:H Y=none:=s1.free hY0
  have hYN:Y≠N:=(ne_of_none hN1 hY0).symm
  have s2:=s1.trans (same_new hY0 (.dK []))
  have hN2:=(same_new hY0 (.dK [])) _ _ hN1
  have hY2:=upd_same (H:=H1) (a:=Y) (o := .dK [])
  generalize upd H1 Y (.dK [])=H2 at s2 hN2 hY2 ⊢
  have em:ns.map nV=(ns.map fun l:Nat=>(l:Int)).map V.int:=by rw [List.map_map];rfl
  have hNd2:=s2 _ _ hNd
  rw [em] at hNd2
  refine ⟨_,rfl,Nd,ns.map (fun l:Nat=>(l:Int)),rfl,SqL.of hNd2,(by rw [List.length_map];exact h64),fun out F0 perm _ hF0 => ?_⟩
  dsimp only [gName]
  obtain ⟨eo,po⟩:=ints_back out ns perm
  generalize out.map Int.toNat=lf0 at eo po
  subst eo
  have em2:(lf0.map fun l:Nat=>(l:Int)).map V.int=lf0.map nV:=by rw [List.map_map];rfl
  rw [em2]
  have s3:=s2.trans (same_new hF0 (.lst (lf0.map nV)))
  have hN3:=(same_new hF0 (.lst (lf0.map nV))) _ _ hN2
  have hY3:=(same_new hF0 (.lst (lf0.map nV))) _ _ hY2
  have hF3:=upd_same (H:=H2) (a:=F0) (o := .lst (lf0.map nV))
  generalize upd H2 F0 (.lst (lf0.map nV))=H3 at s3 hN3 hY3 hF3 ⊢
  refine ⟨OrI H T L Pk Nd N Y ts ls pk ns,⟨_,OrI.mk [] [] lf0 F0 none none rfl s3 hN3 .nil hY3 hF3 RwI.nil (fun r hr=>nomatch hr) (po.nodup_iff.mpr hnd) (fun x=>⟨fun h => .inr (po.mem_iff.mpr h),fun h=>h.elim (fun z=>nomatch z) fun z=>po.mem_iff.mp z⟩) (fun x _ z=>nomatch z) (ne_of_none hN2 hF0).symm rfl⟩,?_⟩
  rintro m σ H4 ⟨rs0,rv0,lf,F,x7,x8,rfl,s4,hN4,hp4,hY4,hF4,rw4,hpr4,lnd,hall4,hdis4,hFN,rfl⟩
  refine ⟨_,rfl, !(lf.map nV).isEmpty,.inl ⟨_,SqL.of hF4,rfl⟩,?_⟩
  by_cases hlf:lf = []
  · subst hlf
    exact iteF ⟨_,rfl,q N rv0 rs0 H4 s4 hN4 hp4 ⟨rw4.ch,rw4.nd,fun x=>⟨fun z=>(hall4 x).mpr (.inl z),fun z=>((hall4 x).mp z).elim id fun z=>nomatch z⟩,hpr4⟩⟩
  have hne:(!(lf.map nV).isEmpty)=true:=by cases lf with | nil=>exact absurd rfl hlf | cons a b=>rfl
  rw [hne]
  have hlsub:∀ x∈lf,x∈ns:=fun x hx=>(hall4 x).mpr (.inr hx)
  have hlen:lf.length≤ns.length:=sub_len lnd hlsub
  refine iteT ⟨fun σ' H'=>∃ m',m' < lf.length∧OrI H T L Pk Nd N Y ts ls pk ns m' σ' H',fun σ' H' h=>h,?_⟩
  refine ⟨Nat.zero_le _,fun M hM0 => ?_⟩
  dsimp only [gName]
  have hM00:H M=none:=s4.free hM0
  have hMN:M≠N:=(ne_of_none hN4 hM0).symm
  have hMY:M≠Y:=(ne_of_none hY4 hM0).symm
  have hMF:M≠F:=(ne_of_none hF4 hM0).symm
  have k5:=same_new hM0 (.lst [])
  have s5:=s4.trans k5
  have hN5:=k5 _ _ hN4
  have hY5:=k5 _ _ hY4
  have hF5:=k5 _ _ hF4
  have hp5:Paired (PairAt (upd H4 M (.lst []))) rv0 rs0:=Paired.mapP hp4 fun _ _ z=>z.keep fun b ys=>k5 _ _
  have hM5:=upd_same (H:=H4) (a:=M) (o := .lst [])
  generalize upd H4 M (.lst [])=H5 at k5 s5 hN5 hY5 hF5 hp5 hM5 ⊢
  refine rd_cut (OsI H T L Pk Nd N Y F M ts ls pk ns lf rs0 lf.length) ?_ (fun key => ?_)
  rotate_left
  · refine ⟨_,rfl,F,rfl,⟨_,SqL.of hF5⟩,?_⟩
    refine for_list (xs:=lf.map nV) (OsI H T L Pk Nd N Y F M ts ls pk ns lf rs0) (OsI.mk rs0 rv0 [] _ rfl s5 hN5 hp5 hY5 hF5 hM5 rw4 hpr4 List.nodup_nil (fun x hx=>nomatch hx) (fun x hx=>by rw [List.take_zero] at hx;cases hx) (fun x hx => .inl hx) (fun x hx=>hx) (fun w hw=>by rw [List.take_zero] at hw;cases hw)) ?_ ?_ ?_
    · rintro i σ H' _ ⟨rs,rvs,lt,x8,rfl,sm,hN',hp',hY',hF',_⟩
      exact SqL.of hF'
    · rintro i y σ H6 hy ⟨rs,rvs,lt,x8,rfl,s6,hN6,hp6,hY6,hF6,hM6,rw6,hpr6,ltn,hlt6,hcov,hin6,hup,hrk⟩
      rw [List.getElem?_map] at hy
      cases ew:lf[i]? with
      | none=>rw [ew] at hy;cases hy
      | some wx =>
      rw [ew] at hy
      have ex:nV wx=y:=Option.some.inj hy
      subst ex
      have hil:=(List.getElem?_eq_some_iff.mp ew).1
      have hwx:=List.mem_of_getElem? ew
      have hwn:=hlsub wx hwx
      have hnt:=not_take lnd ew
      have hnk:wx ∉ rs.map (·.1):=fun z=>(hin6 wx z).elim (hdis4 wx hwx) hnt
      have hnl:wx ∉ lt:=fun z=>hnt (hlt6 wx z).1
      obtain ⟨_,⟨j,t,hj,ht⟩,_⟩:=hpk wx hwn
      obtain ⟨v,hv⟩:∃ v,us[j]? = some v:=⟨_,List.getElem?_eq_getElem (by rw [hut];exact (List.getElem?_eq_some_iff.mp ht).1)⟩
      obtain ⟨t',ht',hvt⟩:=tms_at hts hv
      rw [ht] at ht'
      cases ht'
      have arm:=pi.armIn ht
      have hpa:=pkA_at (ls:=ls) hj ht
      have rl:=rw6.len
      have hpl:=Paired.length hp6
      have ltl:=sub_len ltn (R:=lf) fun x hx=>List.mem_of_mem_take (hlt6 x hx).1
      have htk:=take_snoc ew
      dsimp only [gName]
      refine ⟨_,rfl,_,rfl,_,rfl,Pk,_,rfl,dget_lk (s6 _ _ hPk) hj,T,_,_,_,rfl,rfl,SqL.of (s6 _ _ hT),atI_nat hv,_,rfl,v,t,L,ls,rfl,hvt.same s6,SqL.of (s6 _ _ hL),arm,fun Na H7 s7 _ hNa=>⟨Na,rfl,⟨_,SqL.of hNa⟩,?_⟩⟩
      rw [← hpa] at hNa
      have hbl:(pkA ls ts pk wx).length≤1000:=by rw [hpa,List.length_map];exact arm.1
      have harm:∀ b∈(armsF t).map (fun a=>ls.getD a 0),b∈pkA ls ts pk wx:=fun b hb=>by rw [hpa];exact hb
      refine comp_list (xs:=(pkA ls ts pk wx).map nV) (fun x => .bl (decide ((vI x).toNat∈rs.map (·.1)))) (SqL.of hNa) (by rw [List.length_map];exact hbl) (fun x hx H' sm' Q' q' => ?_) (fun D3 hD3 => ?_)
      · obtain ⟨b,hb,rfl⟩:=List.mem_map.mp hx
        have ev:(vI (nV b)).toNat=b:=by show ((b:Nat):Int).toNat=b;omega
        rw [ev, ← val_dictN] at q'
        exact ⟨_,rfl,_,rfl,Y,_,rfl,DGet.k (k:=lk b) ((s7.trans sm') _ _ hY6),q'⟩
      have es2:((pkA ls ts pk wx).map nV).map (fun x=>V.bl (decide ((vI x).toNat∈rs.map (·.1))))=((pkA ls ts pk wx).map fun b=>decide (b∈rs.map (·.1))).map V.bl:=by
        rw [List.map_map,List.map_map]
        refine List.map_congr_left fun b _ => ?_
        show V.bl (decide (((b:Nat):Int).toNat∈rs.map (·.1)))=V.bl (decide (b∈rs.map (·.1)))
        rw [Int.toNat_natCast]
      rw [es2]
      have k8:=s7.trans (same_new hD3 (.lst (((pkA ls ts pk wx).map fun b=>decide (b∈rs.map (·.1))).map V.bl)))
      refine ⟨D3,_,rfl,SqL.of upd_same,_,rfl,?_⟩
      generalize upd H7 D3 (.lst (((pkA ls ts pk wx).map fun b=>decide (b∈rs.map (·.1))).map V.bl))=H8 at k8 ⊢
      rw [all_dec]
      have s8:=s6.trans k8
      have hN8:=k8 _ _ hN6
      have hY8:=k8 _ _ hY6
      have hF8:=k8 _ _ hF6
      have hM8:=k8 _ _ hM6
      have hp8:Paired (PairAt H8) rvs rs:=Paired.mapP hp6 fun _ _ z=>z.keep fun b ys=>k8 _ _
      refine iteD (fun hall => ?_) (fun hno => ?_)
      · refine ⟨_,rfl,_,rfl,Y,_,rfl,DPut.k (k:=lk wx) hY8 (small1000 (by unfold dictN;rw [List.length_map,List.length_map];omega)),?_⟩
        rw [put_dictN hnk]
        have k9:∀ b ys,H8 b=some (.tup ys)→(upd H8 Y (.dK (dictN (rs.map (·.1) ++ [wx])))) b=some (.tup ys):=fun b ys e=>by rw [upd_ne (ne_of e hY8 (fun z=>nomatch z))];exact e
        have s9:=s8.put (o := .dK (dictN (rs.map (·.1) ++ [wx]))) hY00
        have hN9:(upd H8 Y (.dK (dictN (rs.map (·.1) ++ [wx])))) N=some (.lst rvs):=by rw [upd_ne hYN.symm];exact hN8
        have hF9:(upd H8 Y (.dK (dictN (rs.map (·.1) ++ [wx])))) F=some (.lst (lf.map nV)):=by rw [upd_ne (fun z=>by rw [z,hY8] at hF8;cases hF8)];exact hF8
        have hM9:(upd H8 Y (.dK (dictN (rs.map (·.1) ++ [wx])))) M=some (.lst (lt.map nV)):=by rw [upd_ne hMY];exact hM8
        have hY9:=upd_same (H:=H8) (a:=Y) (o := .dK (dictN (rs.map (·.1) ++ [wx])))
        generalize upd H8 Y (.dK (dictN (rs.map (·.1) ++ [wx])))=H9 at k9 s9 hN9 hF9 hM9 hY9 ⊢
        refine ⟨_,rfl,.inl ⟨rfl,_,SqL.of hN9⟩,_,rfl,_,rfl,_,rfl,Pk,_,rfl,dget_lk (s9 _ _ hPk) hj,(show 2≤sizeLine by decide),fun p hp => ?_⟩
        have kp:=same_new hp (.tup [nV wx,nV j])
        have hp10:=upd_same (H:=H9) (a:=p) (o := .tup [nV wx,nV j])
        generalize upd H9 p (.tup [nV wx,nV j])=H10 at kp hp10 ⊢
        have hN10:=kp _ _ hN9
        have k11:∀ b ys,H10 b=some (.tup ys)→(upd H10 N (.lst (rvs ++ [.ref p]))) b=some (.tup ys):=fun b ys e=>by rw [upd_ne (ne_of e hN10 (fun z=>nomatch z))];exact e
        have ekeys:(rs ++ [(wx,j)]).map (·.1)=rs.map (·.1) ++ [wx]:=by rw [List.map_append];rfl
        refine ⟨N,rvs,.ref p,rfl,rfl,hN10,small1000 (by omega),OsI.mk (rs ++ [(wx,j)]) (rvs ++ [.ref p]) lt _ rfl ((s9.trans kp).put hN0) upd_same ?_ ?_ ?_ ?_ (rw6.add hwn hnk ht fun b hb=>hall b (harm b hb)) ?_ ltn ?_ ?_ ?_ ?_ ?_⟩
        · exact Paired.snoc (Paired.mapP hp8 fun _ _ z=>z.keep fun b ys e=>k11 _ _ (kp _ _ (k9 _ _ e))) ⟨p,rfl,k11 _ _ hp10⟩
        · rw [upd_ne hYN,ekeys];exact kp _ _ hY9
        · rw [upd_ne hFN];exact kp _ _ hF9
        · rw [upd_ne hMN];exact kp _ _ hM9
        · intro r hr'
          rcases List.mem_append.mp hr' with z | z
          · exact hpr6 r z
          · rw [List.mem_singleton.mp z];exact hj
        · intro x hx
          rw [htk,ekeys]
          refine ⟨List.mem_append_left _ (hlt6 x hx).1,fun z => ?_⟩
          rcases List.mem_append.mp z with z | z
          · exact (hlt6 x hx).2 z
          · exact hnl (by rw [← List.mem_singleton.mp z];exact hx)
        · intro x hx
          rw [htk] at hx
          rw [ekeys]
          rcases List.mem_append.mp hx with z | z
          · exact (hcov x z).imp (fun z=>List.mem_append_left _ z) id
          · exact .inl (List.mem_append_right _ z)
        · intro x hx
          rw [ekeys] at hx
          rw [htk]
          rcases List.mem_append.mp hx with z | z
          · exact (hin6 x z).imp id fun z=>List.mem_append_left _ z
          · exact .inr (List.mem_append_right _ z)
        · intro x hx
          rw [ekeys];exact List.mem_append_left _ (hup x hx)
        · intro x hx hb
          rw [htk] at hx
          rw [ekeys]
          rcases List.mem_append.mp hx with z | z
          · exact List.mem_append_left _ (hrk x z hb)
          · exact List.mem_append_right _ z
      · refine ⟨_,rfl,.inl ⟨rfl,_,SqL.of hM8⟩,_,rfl,M,_,_,rfl,rfl,hM8,small1000 (by rw [List.length_map];omega),?_⟩
        have k9:∀ b ys,H8 b=some (.tup ys)→(upd H8 M (.lst (lt.map nV ++ [nV wx]))) b=some (.tup ys):=fun b ys e=>by rw [upd_ne (ne_of e hM8 (fun z=>nomatch z))];exact e
        refine OsI.mk rs rvs (lt ++ [wx]) _ rfl (s8.put hM00) ?_ ?_ ?_ ?_ ?_ rw6 hpr6 (nodup_snoc ltn hnl) ?_ ?_ ?_ hup ?_
        · rw [upd_ne hMN.symm];exact hN8
        · exact Paired.mapP hp8 fun _ _ z=>z.keep k9
        · rw [upd_ne hMY.symm];exact hY8
        · rw [upd_ne hMF.symm];exact hF8
        · rw [upd_same,List.map_append];rfl
        · intro x hx
          rw [htk]
          rcases List.mem_append.mp hx with z | z
          · exact ⟨List.mem_append_left _ (hlt6 x z).1,(hlt6 x z).2⟩
          · rw [List.mem_singleton.mp z];exact ⟨List.mem_append_right _ (List.mem_singleton.mpr rfl),hnk⟩
        · intro x hx
          rw [htk] at hx
          rcases List.mem_append.mp hx with z | z
          · exact (hcov x z).imp id fun z=>List.mem_append_left _ z
          · exact .inr (List.mem_append_right _ z)
        · intro x hx
          rw [htk]
          exact (hin6 x hx).imp id fun z=>List.mem_append_left _ z
        · intro x hx hb
          rw [htk] at hx
          rcases List.mem_append.mp hx with z | z
          · exact hrk x z hb
          · rw [List.mem_singleton.mp z] at hb
            exact absurd (fun b hb'=>hup b (hb b hb')) hno
    · rintro σ H' h
      rw [List.length_map] at h
      exact key _ _ h
  rintro σ' H6 ⟨rs,rvs,lt,x8,rfl,s6,hN6,hp6,hY6,hF6,hM6,rw6,hpr6,ltn,hlt6,hcov,hin6,hup,hrk⟩
  rw [List.take_length] at hlt6 hcov hin6 hrk
  have ltl:=sub_len ltn fun x hx=>(hlt6 x hx).1
  refine ⟨_,rfl,M,_,rfl,.inl (SqL.of hM6),_,rfl,F,_,rfl,.inl (SqL.of hF6),rfl,_,rfl,iteD (fun heq => ?_) (fun hneq => ?_)⟩
  · refine qn H6 s6 fun hrank => ?_
    have heq':lt.length=lf.length:=by
      have:=V.int.inj heq
      rw [List.length_map,List.length_map] at this
      omega
    obtain ⟨r,hr'⟩:=hrank
    obtain ⟨x,hx,hmin⟩:=least_rank r lf hlf
    have hxn:=hlsub x hx
    have h1:x∈rs.map (·.1):=hrk x hx fun b hb=>by
      have hbn:=(hpk x hxn).2.2 b hb
      rcases (hall4 b).mp hbn with z | z
      · exact z
      · have h1:=hmin b z
        have h2:=hr' x hxn b hb
        omega
    have h2:=sub_len ltn (R:=lf.erase x) fun y hy=>(List.mem_erase_of_ne (fun e=>(hlt6 y hy).2 (by rw [e];exact h1))).mpr (hlt6 y hy).1
    rw [List.length_erase_of_mem hx] at h2
    have:=List.length_pos_of_mem hx
    omega
  · have hlt':lt.length < lf.length:=by
      rcases Nat.lt_or_ge lt.length lf.length with z | z
      · exact z
      · exact absurd (by rw [List.length_map,List.length_map];congr 1;omega) hneq
    exact ⟨_,rfl,lt.length,hlt',OrI.mk rs rvs lt M _ _ rfl s6 hN6 hp6 hY6 hM6 rw6 hpr6 ltn (fun x=>⟨fun hx=>by
      rcases (hall4 x).mp hx with z | z
      · exact .inl (hup x z)
      · exact hcov x z,fun hx=>by
      rcases hx with z | z
      · exact rw6.sub x z
      · exact hlsub x (hlt6 x z).1⟩) (fun x hx=>(hlt6 x hx).2) hMN rfl⟩
end

end K65
namespace K65
open PySem L2 Sw
section
variable {P:Program} {w:World} {K:PySem.W.Frag} {mg:Str→Option Value} {base:Heap} {CTW:Addr}
structure TopB (K:PySem.W.Frag) (mg:Str→Option Value) (CTW:Addr):Prop where
  g_MOST_WAYS:∃ t,mg "MOST_WAYS" = some (.int 200 t)
  oTooWide:Exc K mg "TooWide" CTW
noncomputable def headsF (ts:List Tm) (ls:List Nat) (x:Nat):List Nat:=hdF ls (firstsF (ts.map (mk ls)) ts.length) x
theorem heads_ok {ts:List Tm} {ls:List Nat} (pi:PrG ts ls) (like:LikeL ts ls):HdOk ts ls (headsF ts ls):=by
  refine ⟨fun x j hj => ?_,fun k hk => ?_,fun x => ?_⟩
  · obtain ⟨h1,h2⟩:=List.mem_filter.mp hj
    exact ⟨firsts_lt h1,of_decide_eq_true h2⟩
  · have hlk:=getD_at (ls:=ls) (k:=k) (by rw [pi.len];exact hk)
    obtain ⟨g1,g2⟩:=pi.good k _ hlk
    have hx:=pi.lt k hk
    refine List.mem_filter.mpr ⟨List.mem_filter.mpr ⟨List.mem_range.mpr hx,?_⟩,decide_eq_true ?_⟩
    · have ht:ts[ls.getD k 0]? = some ts[ls.getD k 0]:=List.getElem?_eq_getElem hx
      have hm:=ms_at (ls:=ls) ht
      cases e:newAt (ts.map (mk ls)) (ls.getD k 0) with
      | true=>rfl
      | false =>
        exfalso
        obtain ⟨i,hi,hi2⟩:=(new_false hm).mp e
        rw [List.getElem?_map] at hi2
        cases ei:ts[i]? with
        | none=>rw [ei] at hi2;cases hi2
        | some u =>
          rw [ei] at hi2
          have eq:mk ls u=mk ls ts[ls.getD k 0]:=Option.some.inj hi2
          have h3:=like i _ u _ ei ht eq
          rw [g2] at h3
          have:=(pi.good i _ h3).1
          omega
    · rw [List.getD_eq_getElem?_getD,g2];rfl
  · have h1:=List.length_filter_le (fun k=>decide (ls.getD k 0=x)) (firstsF (ts.map (mk ls)) ts.length)
    exact Nat.le_trans h1 (firsts_len _ _)
theorem heads_at {H:Hp} {kvs:DK} {ts:List Tm} {ls:List Nat} (pi:PrG ts ls) (ho:HdOk ts ls (headsF ts ls)) (r:Rws H kvs (rowsF ls (firstsF (ts.map (mk ls)) ts.length))):HdAt H kvs ts ls (headsF ts ls):=fun k hk=>by
  have hne:headsF ts ls (ls.getD k 0) ≠ []:=fun z=>by have:=ho.self k hk;rw [z] at this;cases this
  have lr:=look_rows ls (firstsF (ts.map (mk ls)) ts.length) (ls.getD k 0)
  rw [if_neg (show ¬ hdF ls (firstsF (ts.map (mk ls)) ts.length) (ls.getD k 0) = [] from hne)] at lr
  rcases r.look (ls.getD k 0) with ⟨_,z⟩ | ⟨a,zs,z1,z2,z3⟩
  · rw [z] at lr;cases lr
  · rw [z2] at lr
    have e:=Option.some.inj lr
    refine ⟨a,z1,?_⟩
    rw [z3,e]
    rfl
inductive SpSharing (CTW:Addr) (vs:List V) (H:Hp) (Q:VK) (E:XK):Prop
  | mk (T L C:Addr) (us:List V) (ts:List Tm) (ls:List Nat) (cs:DK) (k:Nat) (z0:vs = [.ref T,.ref L,.ref C,nV k]) (z1:H T=some (.lst us)) (z2:Tms H us ts) (z3:H L=some (.lst (ls.map nV))) (z4:PrG ts ls) (z5:LikeL ts ls) (z6:H C=some (.dK cs)) (z7:CostOk cs) (z8:k < ts.length) (z9:(∀ fs,GInv (hdA ls ts (headsF ts ls)) (ls.getD k 0) fs []→fs.length < 64)) (z10:(∀ fs,GInv (hdA ls ts (headsF ts ls)) (ls.getD k 0) fs []→waysF (headsF ts ls) fs≤200→∀ p N rvs rs price H',Same H H'→H' p=some (.tup [.int price,.ref N])→H' N=some (.lst rvs)→Paired (PairAt H') rvs rs→ShOk ts ls cs (ls.getD k 0) (combF (headsF ts ls) fs) rs price→Q (.ref p) H')) (z11:(∀ fs,GInv (hdA ls ts (headsF ts ls)) (ls.getD k 0) fs []→¬ waysF (headsF ts ls) fs≤200→∀ H',Same H H'→E (.ref CTW) none H')):SpSharing CTW vs H Q E
noncomputable def spSharing (CTW:Addr):Sp:=fun vs H Q E=>SpSharing CTW vs H Q E
inductive BsI (H:Hp) (T L C F R:Addr) (k:Nat) (ts:List Tm) (ls:List Nat) (cs:DK) (l:Nat) (cbs:List DK) (σ : St) (H':Hp):Prop
  | non:∀ (x7 x8 x9:Option V),(σ = [some (.ref T),some (.ref L),some (.ref C),some (nV k),some (.ref F),some (.ref R),some .non,x7,x8,x9])→(Same H H')→(NoWay ts ls l cbs)→BsI H T L C F R k ts ls cs l cbs σ H'
  | one:∀ (p N:Addr) (rvs:List V) (rs:List Rw) (price:Int) (x7 x8 x9:Option V),(σ = [some (.ref T),some (.ref L),some (.ref C),some (nV k),some (.ref F),some (.ref R),some (.ref p),x7,x8,x9])→(Same H H')→(H' p=some (.tup [.int price,.ref N]))→(H' N=some (.lst rvs))→(Paired (PairAt H') rvs rs)→(ShOk ts ls cs l cbs rs price)→BsI H T L C F R k ts ls cs l cbs σ H'
theorem ok_sharing (B:Blt mg) (Z:TopB K mg CTW) (h_nodes:Has P w K mg base 2 "nodes" ["terms", "leads"] spNodes) (h_reached_leads:Has P w K mg base 2 "reached_leads" ["terms", "leads", "heads", "lead"] spReached) (h_count_ways:Has P w K mg base 1 "count_ways" ["heads", "reached"] spCount)
    (h_all_picks:Has P w K mg base 1 "all_picks" ["heads", "reached"] spAll) (h_needed_leads:Has P w K mg base 2 "needed_leads" ["terms", "leads", "picks", "lead"] spNeed) (h_ordered:Has P w K mg base 2 "ordered" ["terms", "leads", "picks", "needed"] spOrdered) (h_cost_of:Has P w K mg base 1 "cost_of" ["term", "costs"] spCostOf)
    (D:Def K mg "sharing" s_sharing ["terms", "leads", "costs", "k"]):HasE P w K mg base 3 "sharing" ["terms", "leads", "costs", "k"] (spSharing CTW):=by
  have oTooWide:=Z.oTooWide
  have g_MOST_WAYS:=Z.g_MOST_WAYS
  refine D.hasE sc_sharing (fun vs H Q E h => ?_) (fun f cdv A outer s H vs Q E hr h => ?_)
  · obtain ⟨T,L,C,us,ts,ls,cs,k,rfl,_⟩:=h;rfl
  obtain ⟨T,L,C,us,ts,ls,cs,k,rfl,hT,hts,hL,pi,like,hC,hc,hk,h64,q1,q2⟩:=h
  refine ⟨_,(pss_cons (ps_set (i:=4) sc_sharing.nd rfl (Or.inl rfl) (pe_callH h_nodes hr (by omega) rfl (pa_cons (pv 0) (pa_cons (pv 1) pa_nil))))
    (pss_cons (ps_set (i:=5) sc_sharing.nd rfl (Or.inl rfl) (pe_callH h_reached_leads hr (by omega) rfl (pa_cons (pv 0) (pa_cons (pv 1) (pa_cons (pv 4) (pa_cons (pe_ix ix_list (pv 1) (pv 3) (fun _ _=>rfl)) pa_nil))))))
    (pss_cons (ps_if (pt_cmpR op_gt (pe_callH h_count_ways hr (by omega) rfl (pa_cons (pv 4) (pa_cons (pv 5) pa_nil))) (pe_globI g_MOST_WAYS rfl) (nomark _)) (pss_one (ps_raise oTooWide rfl (fun _ _ _ _ _ _ _ I hx q=>flies I hx q) (pa_cons (pe_joined (pj_cons pe_str (pj_cons (pe_fmtI (pe_globI g_MOST_WAYS rfl)) (pj_cons pe_str pj_nil)))) pa_nil) rfl)) pss_nil)
    (pss_cons (ps_set (i:=6) sc_sharing.nd rfl (Or.inl rfl) pe_non)
    (pss_cons (ps_for PassesOwn.leaving rfl (pi_list (pe_callH h_all_picks hr (by omega) rfl (pa_cons (pv 4) (pa_cons (pv 5) pa_nil)))) (pg_name (i:=7) sc_sharing.nd rfl (Or.inl rfl))
    (pss_cons (ps_set (i:=8) sc_sharing.nd rfl (Or.inl rfl) (pe_callH h_ordered hr (by omega) rfl (pa_cons (pv 0) (pa_cons (pv 1) (pa_cons (pv 7) (pa_cons (pe_callH h_needed_leads hr (by omega) rfl (pa_cons (pv 0) (pa_cons (pv 1) (pa_cons (pv 7) (pa_cons (pe_ix ix_list (pv 1) (pv 3) (fun _ _=>rfl)) pa_nil))))) pa_nil))))))
    (pss_one (ps_if (pt_cmpR op_notN (pv 8) pe_non (nomark _)) (pss_cons (ps_set (i:=9) sc_sharing.nd rfl (Or.inl rfl) (pe_callB (call_sumL rfl) rfl B.sum_ boot_sum_ (pa_cons (pe_comp (te:=(tCall _ _ _ (tCons (tOp (rIxL K) _ (tOp (rIxT K) _ _)) (tCons _ tNil)))) (own := ["row"]) (caps := [("costs",2),("terms",0)]) (comp_scope (defScope s_sharing) ["terms", "leads", "costs", "k", "heads", "reached", "best", "picks", "choice", "price"] rfl rfl rfl (by decide +kernel)) (pi_list (pv 8)) rfl (fun _ _ _=>pg_name (i:=0) (show (["row", "costs", "terms"]:List Str).Nodup by decide +kernel) rfl (Or.inl rfl)) (fun _ _ _=>(pe_callH h_cost_of hr (by omega) rfl (pa_cons (pe_ix ix_list (pv 2) (pe_ix ix_tup (pv 0) pe_int (fun _ _=>rfl)) (fun _ _=>rfl)) (pa_cons (pv 1) pa_nil))))) pa_nil)))
    (pss_one (ps_if (PW.pt (pw_or (pt_cmpR op_isN (pv 6) pe_non (nomark _)) (pw_or1 (pt_cmpR op_lt (pv 9) (pe_ix ix_tup (pv 6) pe_int (fun _ _=>rfl)) (nomark _))))) (pss_one (ps_set (i:=6) sc_sharing.nd rfl (Or.inl rfl) (pe_tup (pa_cons (pv 9) (pa_cons (pv 8) pa_nil))))) pss_nil))) pss_nil))))
    (pss_one (ps_ret (pv 6)))))))),?_⟩
  try dsimp only [cxOf]
  have hut:=Paired.length hts
  have few:=pi.few
  have ho:=heads_ok pi like
  have hlk:=getD_at (ls:=ls) (k:=k) (by rw [pi.len];exact hk)
  have hld:IsLd ls ts.length (ls.getD k 0):=⟨k,hk,rfl⟩
  refine ⟨_,rfl,_,rfl,T,L,us,ts,ls,rfl,hT,hts,hL,⟨pi.arms,pi.len,by omega,pi.short,like⟩,fun F kvs H1 s1 hF0 hF rws _ => ?_⟩
  have hha:=heads_at pi ho rws
  generalize headsF ts ls=hd at ho hha h64 q1 q2
  dsimp only [gName]
  refine ⟨_,rfl,_,rfl,_,rfl,_,rfl,_,rfl,L,_,_,_,rfl,rfl,SqL.of (s1 _ _ hL),nV_at hlk,T,L,F,us,ts,ls,kvs,hd,ls.getD k 0,rfl,s1 _ _ hT,tms_same s1 hts,s1 _ _ hL,pi,hF,hha,ho,hld,fun R fs H2 s2 hR inv => ?_⟩
  dsimp only [gName]
  have hfl:fs.length < 64:=h64 fs inv
  have q1:=q1 fs inv
  have q2:=q2 fs inv
  have hfld:∀ x∈fs,IsLd ls ts.length x:=fun x hx=>inv.least _ hld (hdA_ld pi ho) x hx
  have s12:=s1.trans s2
  have hF2:=s2 _ _ hF
  have hha2:=hha.same s2
  refine ⟨_,rfl,_,rfl,F,R,ts,ls,kvs,hd,fs,rfl,hF2,hha2,ho,few,hfld,hR,by omega,_,_,rfl,rfl,_,rfl,iteD (fun hgt => ?_) (fun hle => ?_)⟩
  · refine ⟨by decide,_,rfl,by decide,_,rfl,by decide,_,rfl,by decide,_,rfl,by decide,fun zz=>⟨(show 1≤sizeLine by decide),q2 (fun z => ?_) H2 s12⟩⟩
    omega
  have hways:waysF hd fs≤200:=by omega
  have q:=q1 hways
  refine rd_set ?_
  refine ⟨_,rfl,_,rfl,F,R,ts,ls,kvs,hd,fs,rfl,hF2,hha2,ho,hfld,hR,by omega,hways,fun N vs' H3 s3 hN hp=>⟨N,rfl,⟨_,SqL.of hN⟩,?_⟩⟩
  have s13:=s12.trans s3
  have hpl:=Paired.length hp
  have hcl:=comb_len hd fs
  refine for_list (xs:=vs') (fun i=>BsI H3 T L C F R k ts ls cs (ls.getD k 0) ((combF hd fs).take i)) (BsI.non none none none rfl (Same.refl _) (fun pk hp=>by rw [List.take_zero] at hp;cases hp)) ?_ ?_ ?_
  · rintro i σ H' _ (⟨x7,x8,x9,rfl,sm,_⟩ | ⟨p,Nc,rvs,rs,price,x7,x8,x9,rfl,sm,_⟩)
    · exact SqL.of (sm _ _ hN)
    · exact SqL.of (sm _ _ hN)
  · rintro i y σ H4 hy hB
    obtain ⟨pk,hpk,d,rfl,hd3⟩:=paired_at hp hy
    have hpm:=List.mem_of_getElem? hpk
    have htk:=take_snoc hpk
    obtain ⟨hget,_⟩:=comb_get hd _ fs rfl pk hpm
    have pon:PickOn ls ts pk (· ∈ fs):=fun x hx=>by
      obtain ⟨j,hj,e⟩:=hget x hx
      have hjn:=(ho.mem x j hj).1
      refine ⟨ld_lt pi x (hfld x hx),⟨j,_,e,List.getElem?_eq_getElem hjn⟩,fun b hb=>inv.closed x hx b ?_⟩
      rw [pkA_at e (List.getElem?_eq_getElem hjn)] at hb
      refine List.mem_flatMap.mpr ⟨j,hj,?_⟩
      rw [List.getD_eq_getElem?_getD,List.getElem?_eq_getElem hjn]
      exact hb
    obtain ⟨bv,x7,x8,x9,rfl,s4⟩:∃ bv x7 x8 x9, σ = [some (.ref T),some (.ref L),some (.ref C),some (nV k),some (.ref F),some (.ref R),some bv,x7,x8,x9]∧Same H3 H4:=by
      rcases hB with ⟨x7,x8,x9,rfl,sm,_⟩ | ⟨p,Nc,rvs,rs,price,x7,x8,x9,rfl,sm,_⟩
      · exact ⟨_,_,_,_,rfl,sm⟩
      · exact ⟨_,_,_,_,rfl,sm⟩
    have s14:=s13.trans s4
    dsimp only [gName]
    refine ⟨_,rfl,_,rfl,_,rfl,_,rfl,_,rfl,_,rfl,_,rfl,_,rfl,L,_,_,_,rfl,rfl,SqL.of (s14 _ _ hL),nV_at hlk,T,L,d,us,ts,ls,pk,ls.getD k 0,(· ∈ fs),rfl,s14 _ _ hT,tms_same s14 hts,s14 _ _ hL,pi,s4 _ _ hd3,pon,inv.root,fun Nn ns H5 s5 hNn ginv => ?_⟩
    have hsub:∀ x∈ns,x∈fs:=ginv.least (· ∈ fs) inv.root fun x hx=>(pon x hx).2.2
    have nsl:ns.length≤fs.length:=sub_len ginv.nd hsub
    have s15:=s14.trans s5
    refine ⟨T,L,d,Nn,us,ts,ls,pk,ns,rfl,s15 _ _ hT,tms_same s15 hts,s15 _ _ hL,pi,(s4.trans s5) _ _ hd3,(fun x hx=>⟨(pon x (hsub x hx)).1,(pon x (hsub x hx)).2.1,ginv.closed x hx⟩),ginv.nd,by omega,hNn,fun H6 s6 no => ?_,fun Nc rvs rs H6 s6 hNc hpr rok => ?_⟩
    · dsimp only [gName]
      have s46:=s5.trans s6
      refine ⟨_,rfl,rfl,_,rfl,iteDN (fun z=>absurd rfl z) (fun _ => ?_)⟩
      rw [htk]
      rcases hB with ⟨y7,y8,y9,e,sm,nw⟩ | ⟨p,Nc,rvs,rs,price,y7,y8,y9,e,sm,hpp,hNp,hpp2,sh⟩
      · injection e with _ e;injection e with _ e;injection e with _ e;injection e with _ e;injection e with _ e;injection e with _ e;injection e with e _
        have e:=Option.some.inj e
        subst e
        exact BsI.non _ _ _ rfl (s4.trans s46) (nw.none ginv no)
      · injection e with _ e;injection e with _ e;injection e with _ e;injection e with _ e;injection e with _ e;injection e with _ e;injection e with e _
        have e:=Option.some.inj e
        subst e
        exact BsI.one p Nc rvs rs price _ _ _ rfl (s4.trans s46) (s46 _ _ hpp) (s46 _ _ hNp) (Paired.mapP hpp2 fun _ _ z=>z.keep fun b ys=>s46 _ _) (sh.none ginv no)
    · dsimp only [gName]
      refine ⟨_,rfl,rfl,_,rfl,iteDN (fun _ => ?_) (fun z=>nomatch z)⟩
      refine ⟨_,rfl,Nc,rfl,⟨_,SqL.of hNc⟩,?_⟩
      have s16:=s15.trans s6
      have hrl:=Paired.length hpr
      have rsl:rs.length≤ns.length:=by have:=sub_len rok.nd fun x hx=>(rok.all x).mp hx;rw [List.length_map] at this;exact this
      refine comp_listP (R:=fun _ v (n:Int)=>v = .int n) (bs:=rs.map fun r=>costK cs ts r.2) (fun Ha Hb v b kt hr=>hr) (SqL.of hNc) (by omega) (by rw [List.length_map];exact hrl.symm) (fun j x n hx hn H' sm' Q' q' => ?_) (fun D1 H7 zs hD1 s7 hD7 pr => ?_)
      · obtain ⟨⟨lr,kr⟩,hr2,b,rfl,hb⟩:=paired_at hpr hx
        rw [List.getElem?_map,hr2] at hn
        have en:costK cs ts kr=n:=Option.some.inj hn
        subst en
        have hkr:kr < ts.length:=rok.ch.num _ (List.mem_of_getElem? hr2)
        obtain ⟨v,hv⟩:∃ v,us[kr]? = some v:=⟨_,List.getElem?_eq_getElem (by rw [hut];exact hkr)⟩
        obtain ⟨t,ht,hvt⟩:=tms_at hts hv
        have et:costK cs ts kr=costF cs t:=by unfold costK;rw [List.getD_eq_getElem?_getD,ht];rfl
        have s17:=s16.trans sm'
        exact ⟨_,rfl,_,rfl,b,_,1,_,rfl,rfl,SqT.of (sm' _ _ hb),atI_nat (j:=1) rfl,T,_,_,_,rfl,rfl,SqL.of (s17 _ _ hT),atI_nat hv,_,rfl,v,t,C,cs,rfl,hvt.same s17,s17 _ _ hC,hc,q' _ _ (Same.refl _) (by rw [et])⟩
      have ez:∀ {zs:List V} {ms:List Int},Paired (fun v (n:Int)=>v = .int n) zs ms→zs=ms.map V.int:=by
        intro zs ms z
        induction z with
        | nil=>rfl
        | cons h1 _ ih=>rw [ih,h1];rfl
      rw [ez pr] at hD7
      refine ⟨D1,_,rfl,SqL.of hD7,?_⟩
      dsimp only [gName]
      have s47:=s5.trans (s6.trans s7)
      have hNc7:=s7 _ _ hNc
      have hpr7:Paired (PairAt H7) rvs rs:=Paired.mapP hpr fun _ _ z=>z.keep fun b ys=>s7 _ _
      have set:∀ (G:ShOk ts ls cs (ls.getD k 0) ((combF hd fs).take (i+1)) rs (rs.map fun r=>costK cs ts r.2).sum) (x8:Option V),∀ p,H7 p=none→BsI H3 T L C F R k ts ls cs (ls.getD k 0) ((combF hd fs).take (i+1)) [some (.ref T),some (.ref L),some (.ref C),some (nV k),some (.ref F),some (.ref R),some (.ref p),some (.ref d),x8,some (.int (rs.map fun r=>costK cs ts r.2).sum)] (upd H7 p (.tup [.int (rs.map fun r=>costK cs ts r.2).sum,.ref Nc])):=fun G x8 p hp=>by
        have k8:=same_new hp (.tup [.int (rs.map fun r=>costK cs ts r.2).sum,.ref Nc])
        exact BsI.one p Nc rvs rs _ _ _ _ rfl (s4.trans (s47.trans k8)) upd_same (k8 _ _ hNc7) (Paired.mapP hpr7 fun _ _ z=>z.keep fun b ys=>k8 _ _) G
      rcases hB with ⟨y7,y8,y9,e,sm,nw⟩ | ⟨p,Nc0,rvs0,rs0,price,y7,y8,y9,e,sm,hpp,hNp,hpp2,sh⟩
      · injection e with _ e;injection e with _ e;injection e with _ e;injection e with _ e;injection e with _ e;injection e with _ e;injection e with e _
        have e:=Option.some.inj e
        subst e
        refine ⟨_,rfl,rfl,_,rfl,iteD (fun _=>iteT ?_) (fun z=>absurd rfl z)⟩
        refine ⟨_,rfl,_,rfl,(show 2≤sizeLine by decide),fun p hp=>set ?_ _ p hp⟩
        rw [htk]
        exact rok.sh hc ginv fun q hq C h1 h2 h3 h4=>absurd h4 (nw q hq C h1 h2 h3)
      · injection e with _ e;injection e with _ e;injection e with _ e;injection e with _ e;injection e with _ e;injection e with _ e;injection e with e _
        have e:=Option.some.inj e
        subst e
        refine ⟨_,rfl,rfl,_,rfl,iteD (fun z=>nomatch z) (fun _ => ?_)⟩
        refine ⟨_,rfl,_,rfl,p,_,0,_,rfl,rfl,SqT.of (s47 _ _ hpp),atI_nat (j:=0) rfl,_,_,rfl,rfl,_,rfl,iteD (fun hlt => ?_) (fun hge => ?_)⟩
        · refine ⟨_,rfl,_,rfl,(show 2≤sizeLine by decide),fun p hp=>set ?_ _ p hp⟩
          rw [htk]
          refine rok.sh hc ginv fun q hq C h1 h2 h3 h4 => ?_
          have:=sh.min q hq C h1 h2 h3 h4
          omega
        · rw [htk]
          exact BsI.one p Nc0 rvs0 rs0 price _ _ _ rfl (s4.trans s47) (s47 _ _ hpp) (s47 _ _ hNp) (Paired.mapP hpp2 fun _ _ z=>z.keep fun b ys=>s47 _ _) (sh.keep hc rok ginv hge)
  · rintro σ H4 (⟨x7,x8,x9,rfl,sm,nw⟩ | ⟨p,Nc,rvs,rs,price,x7,x8,x9,rfl,sm,hpp,hNp,hpp2,sh⟩)
    · exfalso
      rw [hpl,List.take_length] at nw
      obtain ⟨pk,hpk,hval⟩:=comb_all hd id _ fs rfl inv.nd fun x hx=>by
        obtain ⟨kx,hkx,rfl⟩:=hfld x hx
        exact ho.self kx hkx
      have hjn:∀ x∈fs,x < ts.length:=fun x hx=>ld_lt pi x (hfld x hx)
      refine nw pk hpk fs inv.nd inv.root (fun x hx b hb => ?_) ⟨id,fun x hx b hb => ?_⟩
      · rw [pkA_at (hval x hx) (List.getElem?_eq_getElem (hjn x hx))] at hb
        refine inv.closed x hx b (List.mem_flatMap.mpr ⟨x,?_,?_⟩)
        · obtain ⟨kx,hkx,rfl⟩:=hfld x hx
          exact ho.self kx hkx
        · rw [List.getD_eq_getElem?_getD,List.getElem?_eq_getElem (hjn x hx)]
          exact hb
      · rw [pkA_at (hval x hx) (List.getElem?_eq_getElem (hjn x hx))] at hb
        obtain ⟨a,ha,rfl⟩:=List.mem_map.mp hb
        have ht:=List.getElem?_eq_getElem (l:=ts) (hjn x hx)
        generalize ts[x]'(hjn x hx)=t at ha ht
        cases t with
        | num n=>cases ha
        | name n=>cases ha
        | of z as =>
          have h1:=pi.arms x z as ht a ha
          have h2:=(pi.good a _ (getD_at (by rw [pi.len];have:=hjn x hx;omega))).1
          show ls.getD a 0 < x
          omega
    · rw [hpl,List.take_length] at sh
      exact ⟨_,rfl,q p Nc rvs rs price H4 (s13.trans sm) hpp hNp hpp2 sh⟩
end

end K65
namespace K65
open PySem L2 Sw
section
variable {P:Program} {w:World} {K:PySem.W.Frag} {mg:Str→Option Value} {base:Heap}
theorem put_mem {kvs:DK} {k:Key} {v:V}:∀ kv∈putK kvs k v,kv.2=v∨kv∈kvs:=fun kv h=>by
  unfold putK at h
  split at h
  · obtain ⟨x,hx,rfl⟩:=List.mem_map.mp h
    split
    · exact .inl rfl
    · exact .inr hx
  · rcases List.mem_append.mp h with h | h
    · exact .inr h
    · rw [List.mem_singleton.mp h];exact .inl rfl
theorem mem_of_val {kvs:DK} {k:Key} {v:V} (h:valV kvs k=some v):∃ kv∈kvs,kv.2=v:=by
  unfold valV at h
  cases e:kvs.find? fun kv=>decide (kv.1=k) with
  | none=>rw [e] at h;cases h
  | some kv =>
    rw [e] at h
    exact ⟨kv,List.mem_of_find?_eq_some e,Option.some.inj h⟩
noncomputable def CostL (cs:DK):Prop := ∀ kv∈cs,∃ n:Int,kv.2 = .int n∧1≤n
theorem CostL.ok {cs:DK} (h:CostL cs):CostOk cs:=fun key v e=>by
  obtain ⟨kv,hm,rfl⟩:=mem_of_val e
  exact h kv hm
theorem CostL.put {cs:DK} (h:CostL cs) {k:Key} {n:Int} (hn:1≤n):CostL (putK cs k (.int n)):=fun kv hm=>by
  rcases put_mem kv hm with e | e
  · exact ⟨n,e,hn⟩
  · exact h kv e
noncomputable def kdF:Tm→Str
  | .num _ => "num"
  | .name _ => "name"
  | .of _ _ => "of"
noncomputable def sdF:Tm→V
  | .num n => .int n
  | .name x => .str x
  | .of x _ => .str x
noncomputable def Hd2 (H:Hp) (t:Tm) (v:V):Prop := ∃ a vs,v = .ref a∧H a=some (.tup vs)∧vs[0]? = some (.str (kdF t))∧vs[1]? = some (sdF t)
theorem isTm_hd2 {H:Hp} {t:Tm} {v:V} (h:IsTm H t v):Hd2 H t v:=by
  cases t with
  | num n=>obtain ⟨a,rfl,h2⟩:=id h;exact ⟨a,_,rfl,h2,rfl,rfl⟩
  | name n=>obtain ⟨a,rfl,h2⟩:=id h;exact ⟨a,_,rfl,h2,rfl,rfl⟩
  | of x as=>obtain ⟨a,b,rfl,h1,h2⟩:=id h;exact ⟨a,_,rfl,h1,rfl,rfl⟩
inductive SpKey (vs:List V) (H:Hp) (Q:VK):Prop
  | mk (v:V) (t:Tm) (z0:vs = [v]) (z1:Hd2 H t v) (z2:Q (.str (keyF t)) H):SpKey  vs H Q
noncomputable def spKey:Sp:=fun vs H Q _=>SpKey  vs H Q
theorem ok_key (D:Def K mg "_law_key" s_key ["_law_term_here"]):Has P w K mg base 1 "_law_key" ["_law_term_here"] spKey:=by
  refine D.has sc_key (fun vs H Q E h => ?_) (fun f cdv A outer s H vs Q E hr h => ?_)
  · obtain ⟨v,t,rfl,_⟩:=h;rfl
  obtain ⟨v,t,rfl,⟨a,ws,rfl,h,h0,h1⟩,q⟩:=h
  refine ⟨_,(pss_cons (ps_if (pt_cmpR op_eq (pe_ix ix_tup (pv 0) pe_int (fun _ _=>rfl)) pe_str (nomark _)) (pss_one (ps_ret pe_str)) pss_nil)
    (pss_cons (ps_if (pt_cmpR op_eq (pe_ix ix_tup (pv 0) pe_int (fun _ _=>rfl)) pe_str (nomark _)) (pss_one (ps_ret pe_str)) pss_nil)
    (pss_one (ps_ret (pe_ix ix_tup (pv 0) pe_int (fun _ _=>rfl)))))),?_⟩
  try dsimp only [cxOf]
  cases t with
  | num n=>exact ⟨_,rfl,a,_,0,_,rfl,rfl,SqT.of h,atI_nat (j:=0) h0,rfl,_,rfl,iteD (fun _=>q) (fun z=>absurd rfl z)⟩
  | name n =>
    refine ⟨_,rfl,a,_,0,_,rfl,rfl,SqT.of h,atI_nat (j:=0) h0,rfl,_,rfl,iteD (fun z=>absurd (V.str.inj z) (show ¬ ("name" : Str) = "num" by decide)) (fun _ => ?_)⟩
    exact ⟨_,rfl,a,_,0,_,rfl,rfl,SqT.of h,atI_nat (j:=0) h0,rfl,_,rfl,iteD (fun _=>q) (fun z=>absurd rfl z)⟩
  | of x as =>
    refine ⟨_,rfl,a,_,0,_,rfl,rfl,SqT.of h,atI_nat (j:=0) h0,rfl,_,rfl,iteD (fun z=>absurd (V.str.inj z) (show ¬ ("of" : Str) = "num" by decide)) (fun _ => ?_)⟩
    refine ⟨_,rfl,a,_,0,_,rfl,rfl,SqT.of h,atI_nat (j:=0) h0,rfl,_,rfl,iteD (fun z=>absurd (V.str.inj z) (show ¬ ("of" : Str) = "name" by decide)) (fun _ => ?_)⟩
    exact ⟨_,rfl,a,_,1,_,rfl,rfl,SqT.of h,atI_nat (j:=1) h1,q⟩
inductive SpCosts (K:PySem.W.Frag) (vs:List V) (H:Hp) (Q:VK):Prop
  | mk (a T:Addr) (ns:List Int) (us:List V) (ts:List Tm) (z0:vs = [.ref a,.ref T]) (z1:SqL K H a (ns.map V.int)) (z2:H T=some (.lst us)) (z3:Tms H us ts) (z4:ts.length≤24) (z5:(ns.length=0→ts.length=0)) (z6:∀ C cs H',Same H H'→H C=none→H' C=some (.dK cs)→CostL cs→cs.length≤48→Q (.ref C) H'):SpCosts K vs H Q
noncomputable def spCosts (K:PySem.W.Frag):Sp:=fun vs H Q _=>SpCosts K vs H Q
theorem ok_costs (B:Blt mg) (h_key:Has P w K mg base 1 "_law_key" ["_law_term_here"] spKey) (D:Def K mg "_law_costs" s_costs ["_law_script", "_law_terms"]):Has P w K mg base 2 "_law_costs" ["_law_script", "_law_terms"] (spCosts K):=by
  refine D.has sc_costs (fun vs H Q E h => ?_) (fun f cdv A outer s H vs Q E hr h => ?_)
  · obtain ⟨a,T,ns,us,ts,rfl,_⟩:=h;rfl
  obtain ⟨a,T,ns,us,ts,rfl,hS,hT,hts,few,hz,q⟩:=h
  refine ⟨_,(pss_cons (ps_set (i:=2) sc_costs.nd rfl (Or.inl rfl) pe_dnewK)
    (pss_cons (ps_for PassesOwn.never rfl (pi_range1 rfl B.range_ (pa_cons (pe_callB call_len_seq rfl B.len_ PySem.boot_len (pa_cons (pv 1) pa_nil)) pa_nil)) (pg_name (i:=3) sc_costs.nd rfl (Or.inl rfl))
    (pss_cons (ps_set (i:=4) sc_costs.nd rfl (Or.inl rfl) (pe_ix ix_list (pv 0) (pe_op op_mod (pv 3) (pe_callB call_len_seq rfl B.len_ PySem.boot_len (pa_cons (pv 0) pa_nil))) (fun _ _=>rfl)))
    (pss_cons (ps_set (i:=5) sc_costs.nd rfl (Or.inl rfl) (pe_op op_mod (pe_op op_mul (pv 4) pe_int) pe_int))
    (pss_cons (ps_if (pt_cmpR op_eq (pe_op op_mod (pv 5) pe_int) pe_int (nomark _)) (pss_one (ps_dput (hu_of hr) (pv 2) (pe_callH h_key hr (by omega) rfl (pa_cons (pe_ix ix_list (pv 1) (pv 3) (fun _ _=>rfl)) pa_nil)) (pe_op op_add pe_int (pe_op op_mod (pe_op op_fdiv (pv 5) pe_int) pe_int)) rfl)) pss_nil)
    (pss_one (ps_if (pt_cmpR op_eq (pe_op op_mod (pv 5) pe_int) pe_int (nomark _)) (pss_one (ps_dput (hu_of hr) (pv 2) (pe_callH h_key hr (by omega) rfl (pa_cons (pe_ix ix_list (pv 1) (pv 3) (fun _ _=>rfl)) pa_nil)) (pe_op op_add pe_int (pe_op op_mod (pe_op op_mul (pv 4) pe_int) (pe_op op_pow pe_int pe_int))) rfl)) pss_nil))))))
    (pss_one (ps_ret (pv 2))))),?_⟩
  try dsimp only [cxOf]
  have hut:=Paired.length hts
  have hnl:(ns.map V.int).length=ns.length:=List.length_map ..
  intro C hC0
  dsimp only [gName]
  have s0:=same_new hC0 (.dK [])
  have hC1:=upd_same (H:=H) (a:=C) (o := .dK [])
  generalize upd H C (.dK [])=H1 at s0 hC1 ⊢
  refine ⟨_,rfl,T,us,rfl,.inl (SqL.of (s0 _ _ hT)),_,rfl,by omega,by omega,?_⟩
  rw [Int.toNat_natCast]
  refine for_range (lo:=0) (fun i σ H'=>∃ (cs:DK) (x3 x4 x5:Option V), σ = [some (.ref a),some (.ref T),some (.ref C),x3,x4,x5]∧Same H H'∧H' C=some (.dK cs)∧CostL cs∧cs.length≤2 * i) ⟨[],none,none,none,rfl,s0,hC1,(fun kv h=>nomatch h),Nat.zero_le _⟩ ?_ ?_
  · rintro i σ H' hi ⟨cs,x3,x4,x5,rfl,sm,hC,hc,hcl⟩
    obtain ⟨v,hv⟩:∃ v,us[i]? = some v:=⟨_,List.getElem?_eq_getElem hi⟩
    obtain ⟨t,ht,hvt⟩:=tms_at hts hv
    have hi':i < ts.length:=(List.getElem?_eq_some_iff.mp ht).1
    have hn0:0 < ns.length:=by omega
    have ei:(0:Int)+(i:Int)=((i:Nat):Int):=by omega
    rw [ei]
    have b0:0≤((i:Nat):Int) % ((ns.length:Nat):Int):=Int.emod_nonneg _ (by omega)
    have b1:((i:Nat):Int) % ((ns.length:Nat):Int) < ((ns.length:Nat):Int):=Int.emod_lt_of_pos _ (by omega)
    obtain ⟨y,hy,hym⟩:=atI_ex (xs:=ns.map V.int) b0 (by rw [hnl];exact b1)
    obtain ⟨c,_,rfl⟩:=List.mem_map.mp hym
    refine ⟨_,rfl,_,rfl,_,rfl,a,_,rfl,.inl (sm.seq hS),_,_,rfl,rfl,(by rw [hnl];omega),a,_,_,_,rfl,rfl,sm.seq hS,(by rw [hnl];exact hy),?_⟩
    dsimp only [gName]
    refine ⟨_,rfl,_,_,rfl,rfl,.inr ⟨by decide,by decide⟩,_,_,rfl,rfl,pos',?_⟩
    dsimp only [gName]
    generalize c * 22695479 % 4294967279=m
    refine rd_cut (fun σ' H2=>∃ (cs:DK), σ' = [some (.ref a),some (.ref T),some (.ref C),some (nV i),some (.int c),some (.int m)]∧Same H H2∧H2 C=some (.dK cs)∧CostL cs∧cs.length≤2 * i+1) ?_ (fun key => ?_)
    rotate_left
    · refine ⟨_,rfl,_,_,rfl,rfl,pos',rfl,_,rfl,iteD (fun _ => ?_) (fun _ => ?_)⟩
      · have d0:0≤m / 3 % 9:=Int.emod_nonneg _ (by decide)
        refine ⟨_,rfl,_,_,rfl,rfl,div',_,_,rfl,rfl,pos',_,_,rfl,rfl,?_⟩
        refine ⟨_,rfl,_,rfl,_,rfl,T,_,_,_,rfl,rfl,SqL.of (sm _ _ hT),atI_nat hv,v,t,rfl,isTm_hd2 (hvt.same sm),C,_,rfl,DPut.k (k:=Sum.inr (keyF t)) hC (small1000 (by omega)),?_⟩
        refine key _ _ ⟨_,rfl,sm.put hC0,upd_same,hc.put (by omega),?_⟩
        have:=length_putK cs (Sum.inr (keyF t)) (.int (1+m / 3 % 9))
        show (putK cs (Sum.inr (keyF t)) (V.int (1+m / 3 % 9))).length≤2 * i+1
        omega
      · exact key _ _ ⟨cs,rfl,sm,hC,hc,by omega⟩
    rintro σ' H2 ⟨cs,rfl,sm,hC,hc,hcl⟩
    refine ⟨_,rfl,_,_,rfl,rfl,pos',rfl,_,rfl,iteD (fun _ => ?_) (fun _ => ?_)⟩
    · have d0:0≤c * 2654435761 % 10 ^ (12:Int).toNat:=Int.emod_nonneg _ (by decide)
      refine ⟨_,rfl,_,_,rfl,rfl,.inr ⟨by decide,by decide⟩,10,12,rfl,rfl,⟨by decide,by decide,by decide⟩,_,_,rfl,rfl,(by show (0:Int) < 10 ^ 12;decide),_,_,rfl,rfl,?_⟩
      refine ⟨_,rfl,_,rfl,_,rfl,T,_,_,_,rfl,rfl,SqL.of (sm _ _ hT),atI_nat hv,v,t,rfl,isTm_hd2 (hvt.same sm),C,_,rfl,DPut.k (k:=Sum.inr (keyF t)) hC (small1000 (by omega)),?_⟩
      refine ⟨_,_,_,_,rfl,sm.put hC0,upd_same,hc.put (by omega),?_⟩
      have:=length_putK cs (Sum.inr (keyF t)) (.int (1+c * 2654435761 % 10 ^ (12:Int).toNat))
      show (putK cs (Sum.inr (keyF t)) (V.int (1+c * 2654435761 % 10 ^ (12:Int).toNat))).length≤2 * (i+1)
      omega
    · exact ⟨cs,_,_,_,rfl,sm,hC,hc,by omega⟩
  · rintro σ H' ⟨cs,x3,x4,x5,rfl,sm,hC,hc,hcl⟩
    exact ⟨_,rfl,q C cs H' sm hC0 hC hc (by omega)⟩
inductive SpCostH (vs:List V) (H:Hp) (Q:VK):Prop
  | mk (v:V) (t:Tm) (C:Addr) (cs:DK) (z0:vs = [v,.ref C]) (z1:Hd2 H t v) (z2:H C=some (.dK cs)) (z3:CostOk cs) (z4:Q (.int (costF cs t)) H):SpCostH  vs H Q
noncomputable def spCostH:Sp:=fun vs H Q _=>SpCostH  vs H Q
theorem ok_costL (B:Blt mg) (h_key:Has P w K mg base 1 "_law_key" ["_law_term_here"] spKey) (D:Def K mg "_law_cost" s_cost ["_law_term_here", "_law_costs_here"]):Has P w K mg base 2 "_law_cost" ["_law_term_here", "_law_costs_here"] spCostH:=by
  refine D.has sc_cost (fun vs H Q E h => ?_) (fun f cdv A outer s H vs Q E hr h => ?_)
  · obtain ⟨v,t,C,cs,rfl,_⟩:=h;rfl
  obtain ⟨v,t,C,cs,rfl,hT,hC,hc,q⟩:=h
  refine ⟨_,(pss_cons (ps_if (pt_cmp (pc_din (hu_of hr) (pe_callH h_key hr (by omega) rfl (pa_cons (pv 0) pa_nil)) (pv 1)) (by with_unfolding_all rfl)) (pss_one (ps_ret (pe_dget (hu_of hr) (pv 1) (pe_callH h_key hr (by omega) rfl (pa_cons (pv 0) pa_nil)) (fun _ _=>rfl)))) pss_nil)
    (pss_one (ps_ret pe_int))),?_⟩
  try dsimp only [cxOf]
  rw [← cost_get hc t] at q
  refine ⟨_,rfl,v,t,rfl,hT,_,rfl,C,_,rfl,DGet.k (k:=Sum.inr (keyF t)) hC,_,rfl,?_⟩
  cases e:valV cs (Sum.inr (keyF t)) with
  | none =>
    rw [e] at q
    exact iteF q
  | some y =>
    rw [e] at q
    refine iteT ⟨_,rfl,_,rfl,v,t,rfl,hT,C,_,rfl,?_,q⟩
    have:=DGet.k (k:=Sum.inr (keyF t)) hC
    rw [e] at this
    exact this
inductive SpArmsL (vs:List V) (H:Hp) (Q:VK):Prop
  | mk (v:V) (t:Tm) (z0:vs = [v]) (z1:IsTm H t v) (z2:∀ N H',Same H H'→H N=none→H' N=some (.lst ((armsF t).map nV))→Q (.ref N) H'):SpArmsL  vs H Q
noncomputable def spArmsL:Sp:=fun vs H Q _=>SpArmsL  vs H Q
theorem ok_armsL (B:Blt mg) (D:Def K mg "_law_arms" s_arms ["_law_term_here"]):Has P w K mg base 1 "_law_arms" ["_law_term_here"] spArmsL:=by
  refine D.has sc_arms (fun vs H Q E h => ?_) (fun f cdv A outer s H vs Q E hr h => ?_)
  · obtain ⟨v,t,rfl,_⟩:=h;rfl
  obtain ⟨v,t,rfl,hT,q⟩:=h
  refine ⟨_,(pss_cons (ps_if (pt_cmpR op_eq (pe_ix ix_tup (pv 0) pe_int (fun _ _=>rfl)) pe_str (nomark _)) (pss_one (ps_ret (pe_callTy call_list_of rfl B.list_ boot_list_ (pa_cons (pe_ix ix_tup (pv 0) pe_int (fun _ _=>rfl)) pa_nil)))) pss_nil)
    (pss_one (ps_ret (pe_lst pa_nil)))),?_⟩
  try dsimp only [cxOf]
  cases t with
  | num n =>
    obtain ⟨a,rfl,h⟩:=id hT
    exact ⟨_,rfl,a,_,0,_,rfl,rfl,SqT.of h,atI_nat (j:=0) rfl,rfl,_,rfl,iteD (fun z=>absurd (V.str.inj z) (by decide)) (fun _=>⟨Nat.zero_le _,fun p hp=>q p _ (same_new hp _) hp upd_same⟩)⟩
  | name n =>
    obtain ⟨a,rfl,h⟩:=id hT
    exact ⟨_,rfl,a,_,0,_,rfl,rfl,SqT.of h,atI_nat (j:=0) rfl,rfl,_,rfl,iteD (fun z=>absurd (V.str.inj z) (by decide)) (fun _=>⟨Nat.zero_le _,fun p hp=>q p _ (same_new hp _) hp upd_same⟩)⟩
  | of x as =>
    obtain ⟨a,b,rfl,h,h2⟩:=id hT
    refine ⟨_,rfl,a,_,0,_,rfl,rfl,SqT.of h,atI_nat (j:=0) rfl,rfl,_,rfl,iteD (fun _ => ?_) (fun z=>absurd rfl z)⟩
    exact ⟨_,rfl,a,_,2,_,rfl,rfl,SqT.of h,atI_nat (j:=2) rfl,b,_,rfl,.inr (SqT.of h2),fun p hp=>q p _ (same_new hp _) hp upd_same⟩
end

end K65
namespace K65
open PySem L2 Sw
section
variable {P:Program} {w:World} {K:PySem.W.Frag} {mg:Str→Option Value} {base:Heap}
noncomputable def sdD:Tm→L2.D
  | .num n => .int n
  | .name x => .str x
  | .of x _ => .str x
noncomputable def ptD (p:Tm):L2.D := .tup [.tup [.str (kdF p),sdD p],.lst ((armsF p).map fun n:Nat=>L2.D.int (n:Int))]
theorem pt_inj {p q:Tm} (h:ptD p=ptD q):p=q:=by
  unfold ptD at h
  have h1:=L2.D.tup.inj h
  have h3:=L2.D.tup.inj (List.cons.inj h1).1
  have hk:kdF p=kdF q:=L2.D.str.inj (List.cons.inj h3).1
  have hs:sdD p=sdD q:=(List.cons.inj (List.cons.inj h3).2).1
  have ha:armsF p=armsF q:=(List.map_inj_right fun x y z=>by have:=L2.D.int.inj z;omega).mp (L2.D.lst.inj (List.cons.inj (List.cons.inj h1).2).1)
  cases p with
  | num n =>
    cases q with
    | num m=>rw [show n=m from L2.D.int.inj hs]
    | name m=>exact absurd hk (show ¬ ("num" : Str) = "name" by decide)
    | of y bs=>exact absurd hk (show ¬ ("num" : Str) = "of" by decide)
  | name n =>
    cases q with
    | num m=>exact absurd hk (show ¬ ("name" : Str) = "num" by decide)
    | name m=>rw [show n=m from L2.D.str.inj hs]
    | of y bs=>exact absurd hk (show ¬ ("name" : Str) = "of" by decide)
  | of x as =>
    cases q with
    | num m=>exact absurd hk (show ¬ ("of" : Str) = "num" by decide)
    | name m=>exact absurd hk (show ¬ ("of" : Str) = "name" by decide)
    | of y bs=>rw [show x=y from L2.D.str.inj hs,show as=bs from ha]
theorem pt_mem {p:Tm} {ks:List Tm}:ptD p∈ks.map ptD↔p∈ks:=by
  constructor
  · intro h
    obtain ⟨q,hq,e⟩:=List.mem_map.mp h
    rw [← pt_inj e];exact hq
  · exact fun h=>List.mem_map.mpr ⟨p,h,rfl⟩
theorem pt_deep (p:Tm):(ptD p).deep≤2:=by
  unfold ptD
  rw [L2.D.deep,L2.D.deeps,L2.D.deeps,L2.D.deeps,L2.D.deep,L2.D.deep,ints_deep,L2.D.deeps,L2.D.deeps,L2.D.deeps,L2.D.deep]
  have:(sdD p).deep=0:=by
    cases p with
    | num n=>rw [sdD,L2.D.deep]
    | name n=>rw [sdD,L2.D.deep]
    | of x as=>rw [sdD,L2.D.deep]
  rw [this]
  decide
theorem pts_deep (ks:List Tm):L2.D.deeps (ks.map ptD)≤2:=deeps_of fun d hd=>by obtain ⟨p,_,rfl⟩:=List.mem_map.mp hd;exact pt_deep p
noncomputable def PtAt (H:Hp) (N:Addr) (v:V) (p:Tm):Prop := ∃ a h l,v = .ref a∧H a=some (.tup [.ref h,.ref l])∧H h=some (.tup [.str (kdF p),sdF p])∧H l=some (.lst ((armsF p).map nV))∧l≠N
theorem PtAt.den {H:Hp} {N:Addr} {v:V} {p:Tm} (h:PtAt H N v p):Den H (ptD p) v:=by
  obtain ⟨a,h,l,rfl,h1,h2,h3,_⟩:=h
  have hs:Den H (sdD p) (sdF p):=by
    cases p with
    | num n=>rw [sdD,Den];exact .inl rfl
    | name n=>rw [sdD,Den];rfl
    | of x as=>rw [sdD,Den];rfl
  unfold ptD
  rw [Den]
  exact ⟨a,_,rfl,h1,dens_cons (by rw [Den];exact ⟨h,_,rfl,h2,dens_cons (by rw [Den]) (dens_cons hs dens_nil)⟩) (dens_cons (den_leads h3) dens_nil)⟩
theorem pts_den {H:Hp} {N:Addr}:∀ {vs:List V} {ks:List Tm},Paired (PtAt H N) vs ks→Dens H (ks.map ptD) vs
  | _,_,.nil=>dens_nil
  | _,_,.cons h t=>by rw [List.map_cons];exact dens_cons h.den (pts_den t)
noncomputable def But (N:Addr) (H H':Hp):Prop := ∀ a o,a≠N→H a=some o→H' a=some o
theorem But.of {N:Addr} {H H1:Hp} (h:Same H H1):But N H H1:=fun a o _ e=>h a o e
theorem But.upd {N:Addr} {H:Hp} {o:HO}:But N H (upd H N o):=fun a u n e=>by rw [upd_ne n];exact e
theorem PtAt.but {H H':Hp} {N:Addr} {v:V} {p:Tm} {xs:List V} (b:But N H H') (hN:H N=some (.lst xs)) (h:PtAt H N v p):PtAt H' N v p:=by
  obtain ⟨a,h,l,rfl,h1,h2,h3,h4⟩:=h
  exact ⟨a,h,l,rfl,b _ _ (ne_of h1 hN fun z=>nomatch z) h1,b _ _ (ne_of h2 hN fun z=>nomatch z) h2,b _ _ h4 h3,h4⟩
end

end K65
namespace K65
open PySem L2 Sw
section
variable {P:Program} {w:World} {K:PySem.W.Frag} {mg:Str→Option Value} {base:Heap}
noncomputable def RowAt (pk:DK) (H:Hp) (r:V) (m:Nat):Prop := ∃ (b:Addr) (j:Nat),r = .ref b∧H b=some (.tup [nV m,nV j])∧valV pk (lk m)=some (nV j)
structure ChO (ls:List Nat) (ts:List Tm) (pk:DK) (l:Nat) (ns:List Nat):Prop where
  nd:ns.Nodup
  sml:ns.length≤60
  arms:∀ (i m:Nat) (t:Tm),ns[i]? = some m→Pick ts pk m t→∀ a∈armsF t,ls.getD a 0∈ns.take i
  want:∀ (i m:Nat),ns[i]? = some m→m=l∨∃ (i' m':Nat) (t:Tm),i < i'∧ns[i']? = some m'∧Pick ts pk m' t∧∃ a∈armsF t,ls.getD a 0=m
  last:∃ ns',ns=ns' ++ [l]
  pick:∀ m∈ns,∀ j,valV pk (lk m)=some (nV j)→∃ t,ts[j]? = some t∧ls.getD j 0=m
inductive SpRow (K:PySem.W.Frag) (vs:List V) (H:Hp) (Q:VK):Prop
  | mk (b T L S:Addr) (us:List V) (ts:List Tm) (ls ss:List Nat) (m j:Nat) (t:Tm) (z0:vs = [.ref b,.ref T,.ref L,.ref S]) (z1:H b=some (.tup [nV m,nV j])) (z2:H T=some (.lst us)) (z3:Tms H us ts) (z4:H L=some (.lst (ls.map nV))) (z5:PrG ts ls) (z6:H S=some (.lst (ss.map nV))) (z7:ts[j]? = some t) (z8:ls.getD j 0=m) (z9:m ∉ ss) (z10:(∀ a∈armsF t,ls.getD a 0∈ss)) (z11:∀ H',Same H H'→Q (.bl true) H'):SpRow K vs H Q
noncomputable def spRow (K:PySem.W.Frag):Sp:=fun vs H Q _=>SpRow K vs H Q
theorem ok_row (B:Blt mg) (b_all:mg "all" = none) (h_whole:Has P w K mg base 1 "_law_whole" ["_law_found"] spWhole) (h_arms:Has P w K mg base 1 "_law_arms" ["_law_term_here"] spArmsL)
    (D:Def K mg "_law_row_fine" s_row_fine ["_law_row", "_law_terms", "_law_leads", "_law_seen"]):Has P w K mg base 2 "_law_row_fine" ["_law_row", "_law_terms", "_law_leads", "_law_seen"] (spRow K):=by
  refine D.has sc_row_fine (fun vs H Q E h => ?_) (fun f cdv A outer s H vs Q E hr h => ?_)
  · obtain ⟨b,T,L,S,us,ts,ls,ss,m,j,t,rfl,_⟩:=h;rfl
  obtain ⟨b,T,L,S,us,ts,ls,ss,m,j,t,rfl,hb,hT,hts,hL,pi,hS,ht,hl,hm,har,q⟩:=h
  refine ⟨_,(pss_cons (ps_if (PW.pt (pw_or (pt_not (pt_val (pe_callB call_isT rfl B.isinstance_ boot_isinstance_ (pa_cons (pv 0) (pa_cons (pe_bltn (v := .ty "tuple") rfl B.tuple_ boot_tuple_ rfl) pa_nil))))) (pw_or (pt_cmpR op_ne (pe_callB call_len_seq rfl B.len_ PySem.boot_len (pa_cons (pv 0) pa_nil)) pe_int (nomark _)) (pw_or (pt_not (pt_val (pe_callH h_whole hr (by omega) rfl (pa_cons (pe_ix ix_tup (pv 0) pe_int (fun _ _=>rfl)) pa_nil)))) (pw_or1 (pt_not (pt_val (pe_callH h_whole hr (by omega) rfl (pa_cons (pe_ix ix_tup (pv 0) pe_int (fun _ _=>rfl)) pa_nil))))))))) (pss_one (ps_ret pe_bl)) pss_nil)
    (pss_cons (ps_if (PW.pt (pw_or (pt_cmpR op_lt (pe_ix ix_tup (pv 0) pe_int (fun _ _=>rfl)) pe_int (nomark _)) (pw_or (pt_cmpR op_ge (pe_ix ix_tup (pv 0) pe_int (fun _ _=>rfl)) (pe_callB call_len_seq rfl B.len_ PySem.boot_len (pa_cons (pv 1) pa_nil)) (nomark _)) (pw_or (pt_cmpR op_ne (pe_ix ix_list (pv 2) (pe_ix ix_tup (pv 0) pe_int (fun _ _=>rfl)) (fun _ _=>rfl)) (pe_ix ix_tup (pv 0) pe_int (fun _ _=>rfl)) (nomark _)) (pw_or1 (pt_cmpR op_in_seq (pe_ix ix_tup (pv 0) pe_int (fun _ _=>rfl)) (pv 3) (by with_unfolding_all rfl))))))) (pss_one (ps_ret pe_bl)) pss_nil)
    (pss_one (ps_ret (pe_callB (call_allL rfl) rfl b_all boot_all_ (pa_cons (pe_comp (te:=(tOp (rIn K false) (tOp (rIxL K) _ _) _)) (own := ["_law_arm"]) (caps := [("_law_seen",3),("_law_leads",2)]) (comp_scope (defScope s_row_fine) ["_law_row", "_law_terms", "_law_leads", "_law_seen"] rfl rfl rfl (by decide +kernel)) (pi_list (pe_callH h_arms hr (by omega) rfl (pa_cons (pe_ix ix_list (pv 1) (pe_ix ix_tup (pv 0) pe_int (fun _ _=>rfl)) (fun _ _=>rfl)) pa_nil))) rfl (fun _ _ _=>pg_name (i:=0) (show (["_law_arm", "_law_seen", "_law_leads"]:List Str).Nodup by decide +kernel) rfl (Or.inl rfl)) (fun _ _ _=>(pe_cmpR op_in_seq (pe_ix ix_list (pv 2) (pv 0) (fun _ _=>rfl)) (pv 1) (by with_unfolding_all rfl)))) pa_nil)))))),?_⟩
  try dsimp only [cxOf]
  have hj:j < ts.length:=(List.getElem?_eq_some_iff.mp ht).1
  have hut:=Paired.length hts
  obtain ⟨v,hv⟩:∃ v,us[j]? = some v:=⟨_,List.getElem?_eq_getElem (by rw [hut];exact hj)⟩
  obtain ⟨t',ht',hvt⟩:=tms_at hts hv
  rw [ht] at ht'
  cases ht'
  have hlj:=getD_at (ls:=ls) (k:=j) (by rw [pi.len];exact hj)
  have r0:atI [nV m,nV j] (0:Int)=some (nV m):=atI_nat (j:=0) rfl
  have r1:atI [nV m,nV j] (1:Int)=some (nV j):=atI_nat (j:=1) rfl
  refine ⟨_,rfl,.ref b, "tuple",.type "tuple",true,rfl,.tup hb,kit_tt,_,rfl,iteF ?_⟩
  refine ⟨_,rfl,b,_,rfl,.inr (SqT.of hb),rfl,_,rfl,iteDN (fun z=>absurd rfl z) (fun _ => ?_)⟩
  refine ⟨_,rfl,b,_,_,_,rfl,rfl,SqT.of hb,r0,_,rfl,_,rfl,iteF ?_⟩
  refine ⟨_,rfl,b,_,_,_,rfl,rfl,SqT.of hb,r1,_,rfl,_,rfl,iteF ?_⟩
  refine ⟨_,rfl,b,_,_,_,rfl,rfl,SqT.of hb,r1,_,_,rfl,rfl,_,rfl,iteD (fun z=>absurd z (by omega)) (fun _ => ?_)⟩
  refine ⟨_,rfl,b,_,_,_,rfl,rfl,SqT.of hb,r1,_,rfl,T,us,rfl,.inl (SqL.of hT),_,_,rfl,rfl,_,rfl,iteD (fun z=>absurd z (by omega)) (fun _ => ?_)⟩
  refine ⟨_,rfl,_,rfl,b,_,_,_,rfl,rfl,SqT.of hb,r1,L,_,_,_,rfl,rfl,SqL.of hL,nV_at hlj,_,rfl,b,_,_,_,rfl,rfl,SqT.of hb,r0,rfl,_,rfl,iteDN (fun z=>absurd (by rw [hl]) z) (fun _ => ?_)⟩
  refine ⟨_,rfl,b,_,_,_,rfl,rfl,SqT.of hb,r0,_,rfl,S,_,rfl,.inl (SqL.of hS),rfl,flat_nats ss,_,rfl,?_⟩
  have e0:(if false=true then !inV (nV m) (ss.map nV) else inV (nV m) (ss.map nV))=false:=by rw [if_neg (by decide),in_nats];exact decide_eq_false hm
  rw [e0]
  refine iteF ?_
  refine ⟨_,rfl,_,rfl,b,_,_,_,rfl,rfl,SqT.of hb,r1,T,_,_,_,rfl,rfl,SqL.of hT,atI_nat hv,v,t,rfl,hvt,fun Na H2 s2 _ hNa=>⟨Na,rfl,⟨_,SqL.of hNa⟩,?_⟩⟩
  have arm:=pi.armIn ht
  refine comp_list (xs:=(armsF t).map nV) (fun _ => .bl true) (SqL.of hNa) (by rw [List.length_map];exact arm.1) (fun x hx H' sm' Q' q' => ?_) (fun D2 hD2 => ?_)
  · obtain ⟨a,ha,rfl⟩:=List.mem_map.mp hx
    have e1:(if false=true then !inV (nV (ls.getD a 0)) (ss.map nV) else inV (nV (ls.getD a 0)) (ss.map nV))=true:=by rw [if_neg (by decide),in_nats];exact decide_eq_true (har a ha)
    rw [← e1] at q'
    exact ⟨_,rfl,_,rfl,L,_,_,_,rfl,rfl,SqL.of ((s2.trans sm') _ _ hL),nV_at (getD_at (arm.2 a ha)),_,rfl,S,_,rfl,.inl (SqL.of ((s2.trans sm') _ _ hS)),rfl,flat_nats ss,q'⟩
  rw [all_bl]
  have s3:=s2.trans (same_new hD2 (.lst ((List.replicate ((armsF t).map nV).length true).map V.bl)))
  refine ⟨D2,_,rfl,SqL.of upd_same,?_⟩
  rw [all_true]
  exact q _ s3
inductive SpChoice (K:PySem.W.Frag) (vs:List V) (H:Hp) (Q:VK):Prop
  | mk (N T L:Addr) (rs us:List V) (ts:List Tm) (ls ns:List Nat) (pk:DK) (l:Nat) (z0:vs = [.ref N,.ref T,.ref L,nV l]) (z1:H N=some (.lst rs)) (z2:Paired (RowAt pk H) rs ns) (z3:ChO ls ts pk l ns) (z4:H T=some (.lst us)) (z5:Tms H us ts) (z6:H L=some (.lst (ls.map nV))) (z7:PrG ts ls) (z8:∀ H',Same H H'→Q (.bl true) H'):SpChoice K vs H Q
noncomputable def spChoice (K:PySem.W.Frag):Sp:=fun vs H Q _=>SpChoice K vs H Q
theorem ok_choice (B:Blt mg) (b_reversed:mg "reversed" = none) (h_row_fine:Has P w K mg base 2 "_law_row_fine" ["_law_row", "_law_terms", "_law_leads", "_law_seen"] (spRow K)) (h_arms:Has P w K mg base 1 "_law_arms" ["_law_term_here"] spArmsL)
    (D:Def K mg "_law_choice_fine" s_choice_fine ["_law_choice", "_law_terms", "_law_leads", "_law_lead"]):Has P w K mg base 3 "_law_choice_fine" ["_law_choice", "_law_terms", "_law_leads", "_law_lead"] (spChoice K):=by
  refine D.has sc_choice_fine (fun vs H Q E h => ?_) (fun f cdv A outer s H vs Q E hr h => ?_)
  · obtain ⟨N,T,L,rs,us,ts,ls,ns,pk,l,rfl,_⟩:=h;rfl
  obtain ⟨N,T,L,rs,us,ts,ls,ns,pk,l,rfl,hN,hrs,ch,hT,hts,hL,pi,q⟩:=h
  refine ⟨_,(pss_cons (ps_if (PW.pt (pw_or (pt_not (pt_val (pe_callB call_isT rfl B.isinstance_ boot_isinstance_ (pa_cons (pv 0) (pa_cons (pe_bltn (v := .ty "list") rfl B.list_ boot_list_ rfl) pa_nil))))) (pw_or1 (pt_cmpR op_eq (pe_callB call_len_seq rfl B.len_ PySem.boot_len (pa_cons (pv 0) pa_nil)) pe_int (nomark _))))) (pss_one (ps_ret pe_bl)) pss_nil)
    (pss_cons (ps_set (i:=4) sc_choice_fine.nd rfl (Or.inl rfl) (pe_lst pa_nil))
    (pss_cons (ps_for PassesOwn.never rfl (pi_list (pv 0)) (pg_name (i:=5) sc_choice_fine.nd rfl (Or.inl rfl))
    (pss_cons (ps_if (pt_not (pt_val (pe_callH h_row_fine hr (by omega) rfl (pa_cons (pv 5) (pa_cons (pv 1) (pa_cons (pv 2) (pa_cons (pv 4) pa_nil))))))) (pss_one (ps_ret pe_bl)) pss_nil)
    (pss_one (ps_expr (pe_bm PySem.F.plainAttrs_list PySem.F.slot_list_append PySem.F.type_list_append mt_append (pv 4) (pa_cons (pe_ix ix_tup (pv 5) pe_int (fun _ _=>rfl)) pa_nil))))))
    (pss_cons (ps_set (i:=6) sc_choice_fine.nd rfl (Or.inl rfl) (pe_lst (pa_cons (pv 3) pa_nil)))
    (pss_cons (ps_for PassesOwn.never rfl (pi_rev rfl b_reversed (pv 0)) (pg_name (i:=5) sc_choice_fine.nd rfl (Or.inl rfl))
    (pss_cons (ps_if (pt_cmpR op_notIn_seq (pe_ix ix_tup (pv 5) pe_int (fun _ _=>rfl)) (pv 6) (by with_unfolding_all rfl)) (pss_one (ps_ret pe_bl)) pss_nil)
    (pss_one (ps_set (i:=6) sc_choice_fine.nd rfl (Or.inl rfl) (pe_op op_cat (pv 6) (pe_comp (te:=(tOp (rIxL K) _ _)) (own := ["_law_arm"]) (caps := [("_law_leads",2)]) (comp_scope (defScope s_choice_fine) ["_law_choice", "_law_terms", "_law_leads", "_law_lead", "_law_seen", "_law_row", "_law_wanted"] rfl rfl rfl (by decide +kernel)) (pi_list (pe_callH h_arms hr (by omega) rfl (pa_cons (pe_ix ix_list (pv 1) (pe_ix ix_tup (pv 5) pe_int (fun _ _=>rfl)) (fun _ _=>rfl)) pa_nil))) rfl (fun _ _ _=>pg_name (i:=0) (show (["_law_arm", "_law_leads"]:List Str).Nodup by decide +kernel) rfl (Or.inl rfl)) (fun _ _ _=>(pe_ix ix_list (pv 1) (pv 0) (fun _ _=>rfl)))))))))
    (pss_one (ps_ret (pe_cmpR op_eq (pe_ix ix_list (pv 4) (pe_un un_neg pe_int) (fun _ _=>rfl)) (pv 3) (nomark _))))))))),?_⟩
  try dsimp only [cxOf]
  have hrn:=Paired.length hrs
  have hut:=Paired.length hts
  obtain ⟨ns0,ens⟩:=ch.last
  have hpos:0 < rs.length:=by rw [hrn,ens,List.length_append];show 0 < _+1;omega
  have sml:=ch.sml
  refine ⟨_,rfl,.ref N, "list",.type "list",true,rfl,.lst hN,kit_ll,_,rfl,iteF ?_⟩
  refine ⟨_,rfl,N,rs,rfl,.inl (SqL.of hN),rfl,_,rfl,iteD (fun z=>absurd (V.int.inj z) (by omega)) (fun _ => ?_)⟩
  refine ⟨Nat.zero_le _,fun S hS0 => ?_⟩
  dsimp only [gName]
  have s1:=same_new hS0 (.lst [])
  have hS1:=upd_same (H:=H) (a:=S) (o := .lst [])
  generalize upd H S (.lst [])=H1 at s1 hS1 ⊢
  have pickAt:∀ {m j:Nat},m∈ns→valV pk (lk m)=some (nV j)→∃ t v,ts[j]? = some t∧ls.getD j 0=m∧Pick ts pk m t∧us[j]? = some v∧IsTm H t v:=fun {m j} hmn e=>by
    obtain ⟨t,e1,e2⟩:=ch.pick m hmn j e
    obtain ⟨v,hv⟩:∃ v,us[j]? = some v:=⟨_,List.getElem?_eq_getElem (by rw [hut];exact (List.getElem?_eq_some_iff.mp e1).1)⟩
    obtain ⟨t',ht',hvt⟩:=tms_at hts hv
    rw [e1] at ht'
    cases ht'
    exact ⟨t,v,e1,e2,⟨j,e,e1⟩,hv,hvt⟩
  refine rd_cut (fun σ' H'=>∃ x5:Option V, σ' = [some (.ref N),some (.ref T),some (.ref L),some (nV l),some (.ref S),x5,none]∧Same H H'∧H' S=some (.lst (ns.map nV))) ?_ (fun key => ?_)
  rotate_left
  · refine ⟨_,rfl,N,rfl,⟨_,SqL.of (s1 _ _ hN)⟩,?_⟩
    refine for_list (xs:=rs) (fun i σ H'=>∃ x5:Option V, σ = [some (.ref N),some (.ref T),some (.ref L),some (nV l),some (.ref S),x5,none]∧Same H H'∧H' S=some (.lst ((ns.take i).map nV))) ⟨none,rfl,s1,by rw [List.take_zero];exact hS1⟩ ?_ ?_ ?_
    · rintro i σ H' _ ⟨x5,rfl,sm,_⟩
      exact SqL.of (sm _ _ hN)
    · rintro i r σ H' hr' ⟨x5,rfl,sm,hS⟩
      obtain ⟨m,hm,b,j,rfl,hb,hpk⟩:=paired_at hrs hr'
      obtain ⟨t,v,e1,e2,hp,hv,hvt⟩:=pickAt (List.mem_of_getElem? hm) hpk
      dsimp only [gName]
      have hnin:m ∉ ns.take i:=fun z=>by
        obtain ⟨i',hi'⟩:=List.getElem?_of_mem z
        have hlt:i' < i:=by
          have:=(List.getElem?_eq_some_iff.mp hi').1
          rw [List.length_take] at this
          omega
        rw [List.getElem?_take_of_lt hlt] at hi'
        have:=(List.getElem?_inj (List.getElem?_eq_some_iff.mp hi').1 ch.nd).mp (hi'.trans hm.symm)
        omega
      refine ⟨_,rfl,_,rfl,_,rfl,_,rfl,b,T,L,S,us,ts,ls,ns.take i,m,j,t,rfl,sm _ _ hb,sm _ _ hT,tms_same sm hts,sm _ _ hL,pi,hS,e1,e2,hnin,ch.arms i m t hm hp,fun H2 s2 => ?_⟩
      refine ⟨_,rfl,iteF ?_⟩
      have r0:atI [nV m,nV j] (0:Int)=some (nV m):=atI_nat (j:=0) rfl
      have hS2:=s2 _ _ hS
      refine ⟨_,rfl,.inl ⟨rfl,_,SqL.of hS2⟩,_,rfl,b,_,_,_,rfl,rfl,SqT.of ((sm.trans s2) _ _ hb),r0,S,_,_,rfl,rfl,hS2,(by rw [List.length_map,List.length_take];exact small1000 (by omega)),?_⟩
      refine ⟨_,rfl,(sm.trans s2).put hS0,?_⟩
      rw [upd_same,List.take_add_one,hm,List.map_append]
      rfl
    · rintro σ H' ⟨x5,rfl,sm,hS⟩
      rw [hrn,List.take_length] at hS
      exact key _ _ ⟨x5,rfl,sm,hS⟩
  rintro σ' H2 ⟨x5,rfl,s2,hS2⟩
  refine ⟨_,rfl,(show 1≤sizeLine by decide),fun W hW0 => ?_⟩
  dsimp only [gName]
  have s3:=s2.trans (same_new hW0 (.lst [nV l]))
  have hS3:=(same_new hW0 (.lst [nV l])) _ _ hS2
  have hW3:=upd_same (H:=H2) (a:=W) (o := .lst [nV l])
  generalize upd H2 W (.lst [nV l])=H3 at s3 hS3 hW3 ⊢
  refine rd_cut (fun σ' H'=>∃ x5 x6:Option V, σ' = [some (.ref N),some (.ref T),some (.ref L),some (nV l),some (.ref S),x5,x6]∧Same H H'∧H' S=some (.lst (ns.map nV))) ?_ (fun key => ?_)
  rotate_left
  · refine ⟨_,rfl,N,rs,rfl,s3 _ _ hN,?_⟩
    refine for_rev (xs:=rs) (fun i σ H'=>∃ (x5:Option V) (W:Addr) (wl:List Nat), σ = [some (.ref N),some (.ref T),some (.ref L),some (nV l),some (.ref S),x5,some (.ref W)]∧Same H H'∧H' S=some (.lst (ns.map nV))∧H' W=some (.lst (wl.map nV))∧l∈wl∧wl.length≤1+1000 * i ∧
        (∀ (i' m':Nat) (t:Tm),rs.length - i≤i'→ns[i']? = some m'→Pick ts pk m' t→∀ a∈armsF t,ls.getD a 0∈wl))
      ⟨_,W, [l],rfl,s3,hS3,hW3,List.mem_singleton.mpr rfl,Nat.le_refl _,(fun i' m' t hi' hm'=>by have:=(List.getElem?_eq_some_iff.mp hm').1;omega)⟩ ?_ ?_ ?_
    · rintro i σ H' _ ⟨x5,W,wl,rfl,sm,_⟩
      exact sm _ _ hN
    · rintro i r σ H' hi hr' ⟨x5,W,wl,rfl,sm,hS,hW,hlw,hwl,hall⟩
      obtain ⟨m,hm,b,j,rfl,hb,hpk⟩:=paired_at hrs hr'
      obtain ⟨t,v,e1,e2,hp,hv,hvt⟩:=pickAt (List.mem_of_getElem? hm) hpk
      dsimp only [gName]
      have r0:atI [nV m,nV j] (0:Int)=some (nV m):=atI_nat (j:=0) rfl
      have r1:atI [nV m,nV j] (1:Int)=some (nV j):=atI_nat (j:=1) rfl
      have hmw:m∈wl:=by
        rcases ch.want _ m hm with z | ⟨i',m',t',hlt,hi',hp',a,ha,ea⟩
        · rw [z];exact hlw
        · rw [← ea];exact hall i' m' t' (by omega) hi' hp' a ha
      refine ⟨_,rfl,b,_,_,_,rfl,rfl,SqT.of (sm _ _ hb),r0,_,rfl,W,_,rfl,.inl (SqL.of hW),rfl,flat_nats wl,_,rfl,?_⟩
      have e0:(if true=true then !inV (nV m) (wl.map nV) else inV (nV m) (wl.map nV))=false:=by rw [if_pos rfl,in_nats,decide_eq_true hmw];rfl
      rw [e0]
      refine iteF ?_
      refine ⟨_,rfl,_,rfl,_,rfl,b,_,_,_,rfl,rfl,SqT.of (sm _ _ hb),r1,T,_,_,_,rfl,rfl,SqL.of (sm _ _ hT),atI_nat hv,v,t,rfl,hvt.same sm,fun Na H4 s4 _ hNa=>⟨Na,rfl,⟨_,SqL.of hNa⟩,?_⟩⟩
      have arm:=pi.armIn e1
      refine comp_list (xs:=(armsF t).map nV) (fun x=>nV (ls.getD (vI x).toNat 0)) (SqL.of hNa) (by rw [List.length_map];exact arm.1) (fun x hx H' sm' Q' q' => ?_) (fun D2 hD2 => ?_)
      · obtain ⟨a,ha,rfl⟩:=List.mem_map.mp hx
        have ev:(vI (nV a)).toNat=a:=by show ((a:Nat):Int).toNat=a;omega
        rw [ev] at q'
        exact ⟨_,rfl,_,rfl,L,_,_,_,rfl,rfl,SqL.of ((sm.trans (s4.trans sm')) _ _ hL),nV_at (getD_at (arm.2 a ha)),q'⟩
      have es:((armsF t).map nV).map (fun x=>nV (ls.getD (vI x).toNat 0))=((armsF t).map fun a=>ls.getD a 0).map nV:=by
        rw [List.map_map,List.map_map]
        refine List.map_congr_left fun a _ => ?_
        show nV (ls.getD ((a:Nat):Int).toNat 0)=nV (ls.getD a 0)
        rw [Int.toNat_natCast]
      rw [es]
      have s5:=s4.trans (same_new hD2 (.lst (((armsF t).map fun a=>ls.getD a 0).map nV)))
      have hD5:=upd_same (H:=H4) (a:=D2) (o := .lst (((armsF t).map fun a=>ls.getD a 0).map nV))
      generalize upd H4 D2 (.lst (((armsF t).map fun a=>ls.getD a 0).map nV))=H5 at s5 hD5 ⊢
      refine ⟨W,D2,_,_,rfl,rfl,s5 _ _ hW,hD5,(by rw [List.length_map,List.length_map,List.length_map];have:=arm.1;exact Nat.le_trans (show wl.length+(armsF t).length≤100000 by omega) (by decide)),fun W2 hW2 => ?_⟩
      dsimp only [gName]
      rw [← List.map_append]
      have s6:=s5.trans (same_new hW2 (.lst ((wl ++ (armsF t).map fun a=>ls.getD a 0).map nV)))
      refine ⟨_,W2,wl ++ (armsF t).map fun a=>ls.getD a 0,rfl,sm.trans s6,s6 _ _ hS,upd_same,List.mem_append_left _ hlw,?_,fun i' m' t' hi' hm' hp' a ha => ?_⟩
      · rw [List.length_append,List.length_map];have:=arm.1;omega
      · by_cases e:rs.length - 1 - i=i'
        · subst e
          rw [hm] at hm'
          cases hm'
          rw [hp'.one hp] at ha
          exact List.mem_append_right _ (List.mem_map.mpr ⟨a,ha,rfl⟩)
        · exact List.mem_append_left _ (hall i' m' t' (by omega) hm' hp' a ha)
    · rintro σ H' ⟨x5,W,wl,rfl,sm,hS,_⟩
      exact key _ _ ⟨_,_,rfl,sm,hS⟩
  rintro σ' H4 ⟨x5,x6,rfl,s4,hS4⟩
  have ea:atI (ns.map nV) (-1)=some (nV l):=by rw [ens,List.map_append];exact at_last _ _
  refine ⟨_,rfl,1,rfl,S,_,_,_,rfl,rfl,SqL.of hS4,ea,_,rfl,rfl,?_⟩
  have e1:decide (nV l=nV l)=true:=decide_eq_true rfl
  rw [e1]
  exact q _ s4
end

end K65
namespace K65
open PySem L2 Sw
section
variable {P:Program} {w:World} {K:PySem.W.Frag} {mg:Str→Option Value} {base:Heap}
theorem rd_ifR {c:TT} {t u:TS} {D:Ends} {σ : St} {H:Hp} (R:Bool→Hp→Prop) (hc:∀ Q:Bool→Hp→Prop,(∀ b H',R b H'→Q b H')→c σ H Q) (h1:∀ H',R true H'→t D σ H') (h2:∀ H',R false H'→u D σ H'):tIfS c t u D σ H:=by
  refine hc _ (fun b H' r => ?_)
  cases b with
  | true=>exact iteT (h1 H' r)
  | false=>exact iteF (h2 H' r)
theorem rd_head {v:V} {t:Tm} {H:Hp} {Q:VK} (h:IsTm H t v) (q:∀ b H',Same H H'→H' b=some (.tup [.str (kdF t),sdF t])→Q (.ref b) H'):J_rSlTW K v none (some 2) H Q:=by
  cases t with
  | num n=>obtain ⟨a,rfl,h2⟩:=id h;exact .all a _ rfl (SqT.of h2) ⟨rfl,rfl⟩ (q a H (Same.refl _) h2)
  | name n=>obtain ⟨a,rfl,h2⟩:=id h;exact .all a _ rfl (SqT.of h2) ⟨rfl,rfl⟩ (q a H (Same.refl _) h2)
  | of x as =>
    obtain ⟨a,b,rfl,h1,h2⟩:=id h
    refine .part (J_rSlT.mk a _ rfl (SqT.of h1) (fun z=>absurd (show (2:Nat)=3 from z.2) (by decide)) fun p hp => ?_)
    have ec:cutV [V.str "of",V.str x,V.ref b] none (some 2) = [V.str "of",V.str x]:=rfl
    rw [ec]
    exact q p _ (same_new hp _) upd_same
noncomputable def markP (ts:List Tm) (ls:List Nat) (j:Nat):Tm:=mk ls (ts.getD j (.num 0))
theorem mk_kd (ls:List Nat) (t:Tm):kdF (mk ls t)=kdF t∧sdF (mk ls t)=sdF t:=by cases t <;> exact ⟨rfl,rfl⟩
theorem mk_arms (ls:List Nat) (t:Tm):armsF (mk ls t)=stepL ls t:=by cases t <;> rfl
noncomputable def ksN (ts:List Tm) (ls:List Nat) (l n:Nat):List Tm:=(hdF ls (firstsF (ts.map (mk ls)) n) l).map (markP ts ls)
theorem ks_succ {ts:List Tm} {ls:List Nat} {l n:Nat}:ksN ts ls l (n+1)=ksN ts ls l n ++ (if newAt (ts.map (mk ls)) n=true∧ls.getD n 0=l then [markP ts ls n] else []):=by
  unfold ksN
  rw [firsts_succ]
  unfold hdF
  rw [List.filter_append,List.map_append]
  congr 1
  by_cases h1:newAt (ts.map (mk ls)) n=true
  · rw [h1,if_pos rfl]
    by_cases h2:ls.getD n 0=l
    · rw [if_pos ⟨rfl,h2⟩,List.filter_cons_of_pos (p:=fun k=>decide (ls.getD k 0=l)) (decide_eq_true h2)];rfl
    · rw [if_neg (fun z=>h2 z.2),List.filter_cons_of_neg (p:=fun k=>decide (ls.getD k 0=l)) (by rw [decide_eq_false h2];decide)];rfl
  · rw [if_neg h1,if_neg (fun z=>h1 z.1)];rfl
theorem mark_at {ts:List Tm} {ls:List Nat} {n:Nat} {t:Tm} (ht:ts[n]? = some t):markP ts ls n=mk ls t:=by
  unfold markP
  rw [List.getD_eq_getElem?_getD,ht];rfl
theorem ks_mem {ts:List Tm} {ls:List Nat} (like:LikeL ts ls) {l n:Nat} {t:Tm} (ht:ts[n]? = some t) (hl:ls.getD n 0=l):mk ls t∈ksN ts ls l n↔newAt (ts.map (mk ls)) n=false:=by
  constructor
  · intro h
    obtain ⟨j,hj,e⟩:=List.mem_map.mp h
    have hj1:=(List.mem_filter.mp (List.mem_filter.mp hj).1).1
    have hjn:=List.mem_range.mp hj1
    have hjl:j < ts.length:=Nat.lt_trans hjn (List.getElem?_eq_some_iff.mp ht).1
    rw [mark_at (List.getElem?_eq_getElem hjl)] at e
    refine (new_false (ms_at (ls:=ls) ht)).mpr ⟨j,hjn,?_⟩
    rw [List.getElem?_map,List.getElem?_eq_getElem hjl]
    exact congrArg some e
  · intro h
    have key:∀ (m k:Nat),k < m→∀ u,ts[k]? = some u→mk ls u=mk ls t→k < n→mk ls t∈ksN ts ls l n:=by
      intro m
      induction m with
      | zero=>intro k hk;exact absurd hk (Nat.not_lt_zero _)
      | succ m ih =>
        intro k hk u hu eu hkn
        cases e:newAt (ts.map (mk ls)) k with
        | true =>
          refine List.mem_map.mpr ⟨k,List.mem_filter.mpr ⟨List.mem_filter.mpr ⟨List.mem_range.mpr hkn,e⟩,decide_eq_true ?_⟩,by rw [mark_at hu];exact eu⟩
          have h3:=like k n u t hu ht eu
          rw [List.getD_eq_getElem?_getD,h3, ← List.getD_eq_getElem?_getD];exact hl
        | false =>
          obtain ⟨i,hi,hi2⟩:=(new_false (ms_at (ls:=ls) hu)).mp e
          rw [List.getElem?_map] at hi2
          cases ei:ts[i]? with
          | none=>rw [ei] at hi2;cases hi2
          | some v =>
            rw [ei] at hi2
            exact ih i (by omega) v ei ((Option.some.inj hi2).trans eu) (by omega)
    obtain ⟨i,hi,hi2⟩:=(new_false (ms_at (ls:=ls) ht)).mp h
    rw [List.getElem?_map] at hi2
    cases ei:ts[i]? with
    | none=>rw [ei] at hi2;cases hi2
    | some v =>
      rw [ei] at hi2
      exact key (i+1) i (Nat.lt_succ_self i) v ei (Option.some.inj hi2) hi
inductive SpLnodes (vs:List V) (H:Hp) (Q:VK):Prop
  | mk (T L:Addr) (us:List V) (ts:List Tm) (ls:List Nat) (l:Nat) (z0:vs = [.ref T,.ref L,nV l]) (z1:H T=some (.lst us)) (z2:Tms H us ts) (z3:H L=some (.lst (ls.map nV))) (z4:PrG ts ls) (z5:LikeL ts ls)
    (z6:∀ N pvs H',Same H H'→H N=none→H' N=some (.lst pvs)→Paired (PtAt H' N) pvs ((headsF ts ls l).map (markP ts ls))→Q (.ref N) H'):SpLnodes vs H Q
noncomputable def spLnodes:Sp:=fun vs H Q _=>SpLnodes vs H Q
inductive LnI (H:Hp) (T L N:Addr) (ts:List Tm) (ls:List Nat) (l i:Nat) (σ : St) (H':Hp):Prop
  | mk (pvs:List V) (x4 x5:Option V):(σ = [some (.ref T),some (.ref L),some (nV l),some (.ref N),x4,x5])→Same H H'→H' N=some (.lst pvs)→Paired (PtAt H' N) pvs (ksN ts ls l i)→LnI H T L N ts ls l i σ H'
theorem ok_lnodes (B:Blt mg) (h_arms:Has P w K mg base 1 "_law_arms" ["_law_term_here"] spArmsL) (D:Def K mg "_law_nodes" s_lnodes ["_law_terms", "_law_leads", "_law_lead"]):Has P w K mg base 2 "_law_nodes" ["_law_terms", "_law_leads", "_law_lead"] spLnodes:=by
  refine D.has sc_lnodes (fun vs H Q E h => ?_) (fun f cdv A outer s H vs Q E hr h => ?_)
  · obtain ⟨T,L,us,ts,ls,l,rfl,_⟩:=h;rfl
  obtain ⟨T,L,us,ts,ls,l,rfl,hT,hts,hL,pi,like,q⟩:=h
  refine ⟨_,(pss_cons (ps_set (i:=3) sc_lnodes.nd rfl (Or.inl rfl) (pe_lst pa_nil))
    (pss_cons (ps_for PassesOwn.never rfl (pi_range1 rfl B.range_ (pa_cons (pe_callB call_len_seq rfl B.len_ PySem.boot_len (pa_cons (pv 0) pa_nil)) pa_nil)) (pg_name (i:=4) sc_lnodes.nd rfl (Or.inl rfl))
    (pss_cons (ps_set (i:=5) sc_lnodes.nd rfl (Or.inl rfl) (pe_tup (pa_cons (pe_slice sl_tupW (pe_ix ix_list (pv 0) (pv 4) (fun _ _=>rfl)) po_none (po_some pe_int)) (pa_cons (pe_comp (te:=(tOp (rIxL K) _ _)) (own := ["_law_arm"]) (caps := [("_law_leads",1)]) (comp_scope (defScope s_lnodes) ["_law_terms", "_law_leads", "_law_lead", "_law_unlike", "_law_k", "_law_sort"] rfl rfl rfl (by decide +kernel)) (pi_list (pe_callH h_arms hr (by omega) rfl (pa_cons (pe_ix ix_list (pv 0) (pv 4) (fun _ _=>rfl)) pa_nil))) rfl (fun _ _ _=>pg_name (i:=0) (show (["_law_arm", "_law_leads"]:List Str).Nodup by decide +kernel) rfl (Or.inl rfl)) (fun _ _ _=>(pe_ix ix_list (pv 1) (pv 0) (fun _ _=>rfl)))) pa_nil))))
    (pss_one (ps_if (PW.pt (pw_and (pt_cmpR op_eq (pe_ix ix_list (pv 1) (pv 4) (fun _ _=>rfl)) (pv 2) (nomark _)) (pw_and1 (pt_cmpR (op_notInD (un101 hr)) (pv 5) (pv 3) (by with_unfolding_all rfl))))) (pss_one (ps_expr (pe_bm PySem.F.plainAttrs_list PySem.F.slot_list_append PySem.F.type_list_append mt_append (pv 3) (pa_cons (pv 5) pa_nil)))) pss_nil))))
    (pss_one (ps_ret (pv 3))))),?_⟩
  try dsimp only [cxOf]
  have hut:=Paired.length hts
  have few:=pi.few
  refine ⟨Nat.zero_le _,fun N hN0 => ?_⟩
  dsimp only [gName]
  have s1:=same_new hN0 (.lst [])
  have hN1:=upd_same (H:=H) (a:=N) (o := .lst [])
  generalize upd H N (.lst [])=H1 at s1 hN1 ⊢
  refine ⟨_,rfl,T,us,rfl,.inl (SqL.of (s1 _ _ hT)),_,rfl,by omega,by omega,?_⟩
  rw [Int.toNat_natCast]
  refine for_range (lo:=0) (LnI H T L N ts ls l) ⟨[],none,none,rfl,s1,hN1,.nil⟩ ?_ ?_
  · rintro i σ H2 hi ⟨pvs,x4,x5,rfl,s2,hN2,hp2⟩
    have ei:(0:Int)+(i:Int)=((i:Nat):Int):=by omega
    rw [ei]
    dsimp only [gName]
    have hi':i < ts.length:=by omega
    obtain ⟨v,hv⟩:∃ v,us[i]? = some v:=⟨_,List.getElem?_eq_getElem hi⟩
    obtain ⟨t,ht,hvt⟩:=tms_at hts hv
    have arm:=pi.armIn ht
    -- its first two
    refine ⟨_,rfl,_,rfl,T,_,_,_,rfl,rfl,SqL.of (s2 _ _ hT),atI_nat hv,_,rfl,?_⟩
    refine rd_head (hvt.same s2) fun hb H3 s3 hhb => ?_
    have s23:=s2.trans s3
    -- its arms' leads
    refine ⟨_,rfl,_,rfl,T,_,_,_,rfl,rfl,SqL.of (s23 _ _ hT),atI_nat hv,v,t,rfl,hvt.same s23,fun Na H4 s4 _ hNa=>⟨Na,rfl,⟨_,SqL.of hNa⟩,?_⟩⟩
    have s24:=s23.trans s4
    refine comp_list (xs:=(armsF t).map nV) (fun x=>nV (ls.getD (vI x).toNat 0)) (SqL.of hNa) (by rw [List.length_map];exact arm.1) (fun x hx H' sm' Q' q' => ?_) (fun D2 hD2 => ?_)
    · obtain ⟨a,ha,rfl⟩:=List.mem_map.mp hx
      have ev:(vI (nV a)).toNat=a:=by show ((a:Nat):Int).toNat=a;omega
      rw [ev] at q'
      exact ⟨_,rfl,_,rfl,L,_,_,_,rfl,rfl,SqL.of ((s24.trans sm') _ _ hL),nV_at (getD_at (arm.2 a ha)),q'⟩
    have es:((armsF t).map nV).map (fun x=>nV (ls.getD (vI x).toNat 0))=(armsF (mk ls t)).map nV:=by
      rw [mk_arms,stepL,List.map_map,List.map_map]
      refine List.map_congr_left fun a _ => ?_
      show nV (ls.getD ((a:Nat):Int).toNat 0)=nV (ls.getD a 0)
      rw [Int.toNat_natCast]
    rw [es]
    have hN4:=(s3.trans s4) _ _ hN2
    have hD2N:D2≠N:=(ne_of_none hN4 hD2).symm
    have s5:=s24.trans (same_new hD2 (.lst ((armsF (mk ls t)).map nV)))
    have w5:=(s3.trans s4).trans (same_new hD2 (.lst ((armsF (mk ls t)).map nV)))
    have hhb5:=(s4.trans (same_new hD2 (.lst ((armsF (mk ls t)).map nV)))) _ _ hhb
    have hD5:=upd_same (H:=H4) (a:=D2) (o := .lst ((armsF (mk ls t)).map nV))
    generalize upd H4 D2 (.lst ((armsF (mk ls t)).map nV))=H5 at s5 w5 hhb5 hD5 ⊢
    refine ⟨(show 2≤sizeLine by decide),fun pa hpa => ?_⟩
    dsimp only [gName]
    have s6:=s5.trans (same_new hpa (.tup [.ref hb,.ref D2]))
    have w6:=w5.trans (same_new hpa (.tup [.ref hb,.ref D2]))
    have hpa6:=upd_same (H:=H5) (a:=pa) (o := .tup [.ref hb,.ref D2])
    have hhb6:=same_new hpa (.tup [.ref hb,.ref D2]) _ _ hhb5
    have hD6:=same_new hpa (.tup [.ref hb,.ref D2]) _ _ hD5
    generalize upd H5 pa (.tup [.ref hb,.ref D2])=H6 at s6 w6 hpa6 hhb6 hD6 ⊢
    rw [← (mk_kd ls t).1, ← (mk_kd ls t).2] at hhb6
    have pt:PtAt H6 N (.ref pa) (mk ls t):=⟨pa,hb,D2,rfl,hpa6,hhb6,hD6,hD2N⟩
    have hN6:=w6 _ _ hN2
    have hp6:Paired (PtAt H6 N) pvs (ksN ts ls l i):=Paired.mapP hp2 fun _ _ z=>z.but (But.of w6) hN2
    have hli:ls[i]? = some (ls.getD i 0):=getD_at (by rw [pi.len];exact hi')
    refine rd_ifR (fun c Hc=>Hc=H6∧(c=true↔(newAt (ts.map (mk ls)) i=true∧ls.getD i 0=l))) (fun Qc qc => ?_) ?_ ?_
    · refine ⟨_,rfl,_,rfl,L,_,_,_,rfl,rfl,SqL.of (s6 _ _ hL),nV_at hli,_,rfl,rfl,_,rfl,iteD (fun e => ?_) (fun ne => ?_)⟩
      · have hl:ls.getD i 0=l:=by have:=V.int.inj e;omega
        refine ⟨_,rfl,_,rfl,ptD (mk ls t),(ksN ts ls l i).map ptD,pt.den,.inl (by rw [Den];exact ⟨N,_,rfl,hN6,pts_den hp6⟩),Nat.le_trans (pts_deep _) (by decide),_,rfl,qc _ _ ⟨rfl,?_⟩⟩
        have:=ks_mem like ht hl
        cases hn:newAt (ts.map (mk ls)) i with
        | true =>
          have hm:¬ ptD (mk ls t)∈(ksN ts ls l i).map ptD:=fun z=>by
            have:=this.mp (pt_mem.mp z)
            rw [hn] at this;cases this
          rw [decide_eq_false hm]
          exact ⟨fun _=>⟨rfl,hl⟩,fun _=>rfl⟩
        | false =>
          have hm:ptD (mk ls t)∈(ksN ts ls l i).map ptD:=pt_mem.mpr (this.mpr hn)
          rw [decide_eq_true hm]
          exact ⟨(fun z=>nomatch z),fun z=>nomatch z.1⟩
      · exact qc _ _ ⟨rfl,⟨(fun z=>nomatch z),(fun z=>absurd (by rw [z.2]) ne)⟩⟩
    · rintro Hc ⟨rfl,hc⟩
      have hc:=hc.mp rfl
      have lk2:(ksN ts ls l i).length≤500:=by
        unfold ksN
        rw [List.length_map]
        exact Nat.le_trans (List.length_filter_le ..) (Nat.le_trans (firsts_len _ _) (by omega))
      refine ⟨_,rfl,.inl ⟨rfl,_,SqL.of hN6⟩,_,rfl,N,_,_,rfl,rfl,hN6,small1000 (by rw [Paired.length hp6];omega),?_⟩
      have b1:But N Hc (upd Hc N (.lst (pvs ++ [.ref pa]))):=But.upd
      refine ⟨pvs ++ [.ref pa],_,_,rfl,s6.put hN0,upd_same,?_⟩
      rw [ks_succ,if_pos hc,mark_at ht]
      exact Paired.snoc (Paired.mapP hp6 fun _ _ z=>z.but b1 hN6) (pt.but b1 hN6)
    · rintro Hc ⟨rfl,hc⟩
      refine ⟨pvs,_,_,rfl,s6,hN6,?_⟩
      rw [ks_succ,if_neg (fun z=>by have:=hc.mpr z;cases this),List.append_nil]
      exact hp6
  · rintro σ H2 ⟨pvs,x4,x5,rfl,s2,hN2,hp2⟩
    rw [hut] at hp2
    exact ⟨_,rfl,q N pvs H2 s2 hN0 hN2 hp2⟩
end

end K65
namespace K65
open PySem L2 Sw
section
variable {P:Program} {w:World} {K:PySem.W.Frag} {mg:Str→Option Value} {base:Heap}
noncomputable def newL (fs ms:List Nat):List Nat:=ms.filter fun b=>decide (b ∉ fs)
theorem newL_mem {fs ms:List Nat} {b:Nat}:b∈newL fs ms↔b∈ms∧b ∉ fs:=by
  unfold newL
  rw [List.mem_filter,decide_eq_true_iff]
theorem GStep.more {A:Nat→List Nat} {l here:Nat} {fs ws bs ms:List Nat} (h:GStep A l here fs ws bs) (nd:ms.Nodup) (hm:∀ b∈ms,b∈A here):GStep A l here (fs ++ newL fs ms) (ws ++ newL fs ms) (bs ++ ms):=by
  have up:∀ m∈fs,m∈fs ++ newL fs ms:=fun m hm=>List.mem_append_left _ hm
  refine ⟨?_,fun m hm => ?_,up _ h.root,fun m hm => ?_,fun C h1 h2 m hm' => ?_,fun c hc => ?_,up _ h.hr⟩
  · rw [List.nodup_append]
    exact ⟨h.nd,List.Pairwise.filter _ nd,fun x hx y hy e=>(newL_mem.mp hy).2 (by rw [← e];exact hx)⟩
  · rcases List.mem_append.mp hm with z | z
    · exact up _ (h.sub m z)
    · exact List.mem_append_right _ z
  · rcases List.mem_append.mp hm with z | z
    · rcases h.shut m z with q | q | q
      · exact .inl (List.mem_append_left _ q)
      · exact .inr (.inl q)
      · exact .inr (.inr fun c hc=>up _ (q c hc))
    · exact .inl (List.mem_append_right _ z)
  · rcases List.mem_append.mp hm' with z | z
    · exact h.least C h1 h2 m z
    · exact h2 here (h.least C h1 h2 here h.hr) m (hm m (newL_mem.mp z).1)
  · rcases List.mem_append.mp hc with z | z
    · exact up _ (h.has c z)
    · by_cases q:c∈fs
      · exact up _ q
      · exact List.mem_append_right _ (newL_mem.mpr ⟨z,q⟩)
theorem ways_fold (hd:Nat→List Nat):∀ (fs:List Nat) (n:Nat),fs.foldl (fun n x=>n * (hd x).length) n=n * waysF hd fs
  | [],n=>(Nat.mul_one n).symm
  | x :: fs,n=>by
    unfold waysF
    rw [List.foldl_cons,List.foldl_cons,ways_fold hd fs,ways_fold hd fs (1 * (hd x).length),Nat.one_mul,Nat.mul_assoc]
theorem ways_perm (hd:Nat→List Nat) {fs gs:List Nat} (h:fs.Perm gs):waysF hd fs=waysF hd gs:=by
  have cons:∀ x (l:List Nat),waysF hd (x :: l)=(hd x).length * waysF hd l:=fun x l=>by
    unfold waysF
    rw [List.foldl_cons,ways_fold hd l,Nat.one_mul]
    rfl
  induction h with
  | nil=>rfl
  | cons x _ ih=>rw [cons,cons,ih]
  | swap x y l=>rw [cons,cons,cons,cons,Nat.mul_left_comm]
  | trans _ _ ih1 ih2=>exact ih1.trans ih2
theorem ginv_ways {hd:Nat→List Nat} {A:Nat→List Nat} {l:Nat} {fs gs:List Nat} (h:GInv A l fs []) (g:GInv A l gs []):waysF hd fs=waysF hd gs :=
  ways_perm hd ((List.perm_ext_iff_of_nodup h.nd g.nd).mpr fun x=>⟨fun hx=>h.least (· ∈ gs) g.root (fun y hy b hb=>g.closed y hy b hb) x hx,fun hx=>g.least (· ∈ fs) h.root (fun y hy b hb=>h.closed y hy b hb) x hx⟩)
structure FewOk (ts:List Tm):Prop where
  few:ts.length≤16
  four:∀ (i:Nat) (t:Tm),ts[i]? = some t→(armsF t).length≤4
inductive SpWays (vs:List V) (H:Hp) (Q:VK):Prop
  | mk (T L:Addr) (us:List V) (ts:List Tm) (ls:List Nat) (l:Nat) (z0:vs = [.ref T,.ref L,nV l]) (z1:H T=some (.lst us)) (z2:Tms H us ts) (z3:H L=some (.lst (ls.map nV))) (z4:PrG ts ls) (z5:LikeL ts ls) (z6:FewOk ts) (z7:IsLd ls ts.length l)
    (z8:∀ fs H',Same H H'→GInv (hdA ls ts (headsF ts ls)) l fs []→Q (nV (waysF (headsF ts ls) fs)) H'):SpWays vs H Q
noncomputable def spWays:Sp:=fun vs H Q _=>SpWays vs H Q
inductive WaI (H:Hp) (T L:Addr) (ts:List Tm) (ls:List Nat) (l:Nat) (m:Nat) (σ : St) (H':Hp):Prop
  | mk (W:Addr) (wl:List Nat) (at_:Nat) (x6 x7:Option V):(σ = [some (.ref T),some (.ref L),some (nV l),some (.ref W),some (nV (waysF (headsF ts ls) (wl.take at_))),some (nV at_),x6,x7])→Same H H'→H' W=some (.lst (wl.map nV))→GInv (hdA ls ts (headsF ts ls)) l wl (wl.drop at_)→at_≤wl.length→m=ts.length - at_→WaI H T L ts ls l m σ H'
inductive WbI (H3:Hp) (T L N:Addr) (ts:List Tm) (ls:List Nat) (l here at_:Nat) (w0:List Nat) (pvs:List V) (many i:Nat) (σ : St) (H':Hp):Prop
  | mk (W:Addr) (wl bs:List Nat) (x7:Option V):(σ = [some (.ref T),some (.ref L),some (nV l),some (.ref W),some (nV many),some (nV at_),some (.ref N),x7])→Same H3 H'→H' W=some (.lst (wl.map nV))→GStep (hdA ls ts (headsF ts ls)) l here wl (wl.drop (at_+1)) bs→wl.take (at_+1)=w0.take (at_+1)→w0.length≤wl.length→(∀ (j:Nat) (p:Tm),j < i→((headsF ts ls here).map (markP ts ls))[j]? = some p→∀ b∈armsF p,b∈bs)→WbI H3 T L N ts ls l here at_ w0 pvs many i σ H'
theorem filt_new (wl:List Nat):∀ ms:List Nat,(ms.map nV).filterMap (fun x=>if (vI x).toNat∈wl then none else some x)=(newL wl ms).map nV
  | []=>rfl
  | b :: ms=>by
    have ev:(vI (nV b)).toNat=b:=by show ((b:Nat):Int).toNat=b;omega
    unfold newL
    by_cases h:b∈wl
    · rw [List.map_cons,List.filterMap_cons_none (by rw [ev,if_pos h]),List.filter_cons_of_neg (p:=fun b=>decide (b ∉ wl)) (by rw [decide_eq_false (fun z=>z h)];decide)]
      exact filt_new wl ms
    · rw [List.map_cons,List.filterMap_cons_some (b:=nV b) (by rw [ev,if_neg h]),List.filter_cons_of_pos (p:=fun b=>decide (b ∉ wl)) (decide_eq_true h),List.map_cons]
      exact congrArg _ (filt_new wl ms)
theorem ok_ways (B:Blt mg) (b_set:mg "set" = none) (b_sorted:mg "sorted" = none) (h_lnodes:Has P w K mg base 2 "_law_nodes" ["_law_terms", "_law_leads", "_law_lead"] spLnodes) (D:Def K mg "_law_ways" s_ways ["_law_terms", "_law_leads", "_law_lead"]):Has P w K mg base 3 "_law_ways" ["_law_terms", "_law_leads", "_law_lead"] spWays:=by
  refine D.has sc_ways (fun vs H Q E h => ?_) (fun f cdv A outer s H vs Q E hr h => ?_)
  · obtain ⟨T,L,us,ts,ls,l,rfl,_⟩:=h;rfl
  obtain ⟨T,L,us,ts,ls,l,rfl,hT,hts,hL,pi,like,fo,hld,q⟩:=h
  refine ⟨_,(pss_cons (ps_set (i:=3) sc_ways.nd rfl (Or.inr rfl) (pe_lst (pa_cons (pv 2) pa_nil)))
    (pss_cons (ps_set (i:=4) sc_ways.nd rfl (Or.inl rfl) pe_int)
    (pss_cons (ps_set (i:=5) sc_ways.nd rfl (Or.inl rfl) pe_int)
    (pss_cons (ps_while PassesOwn.never (pt_cmpR op_lt (pv 5) (pe_callB call_len_seq rfl B.len_ PySem.boot_len (pa_cons (pv 3) pa_nil)) (nomark _))
    (pss_cons (ps_set (i:=6) sc_ways.nd rfl (Or.inl rfl) (pe_callH h_lnodes hr (by omega) rfl (pa_cons (pv 0) (pa_cons (pv 1) (pa_cons (pe_ix ix_list (pv 3) (pv 5) (fun _ _=>rfl)) pa_nil)))))
    (pss_cons (ps_set (i:=4) sc_ways.nd rfl (Or.inl rfl) (pe_op op_mulB (pv 4) (pe_callB call_len_seq rfl B.len_ PySem.boot_len (pa_cons (pv 6) pa_nil))))
    (pss_cons (ps_for PassesOwn.never rfl (pi_list (pv 6)) (pg_name (i:=7) sc_ways.nd rfl (Or.inl rfl))
    (pss_one (ps_set (i:=3) sc_ways.nd rfl (Or.inr rfl) (pe_op op_cat (pv 3) (pe_compI (te:=_) (ct:=(tTest (tOp (rIn K true) _ _))) (own := ["_law_one"]) (caps := [("_law_wanted",3)]) (comp_scope (defScope s_ways) ["_law_terms", "_law_leads", "_law_lead", "_law_wanted", "_law_many", "_law_at", "_law_unlike", "_law_sort"] rfl rfl rfl (by decide +kernel)) (pi_list (pe_callB (call_sortedSet rfl) rfl b_sorted boot_sorted_ (pa_cons (pe_callTy (call_setOf rfl) rfl b_set boot_set_ (pa_cons (pe_ix ix_tup (pv 7) pe_int (fun _ _=>rfl)) pa_nil)) pa_nil))) rfl (fun _ _ _=>pg_name (i:=0) (show (["_law_one", "_law_wanted"]:List Str).Nodup by decide +kernel) rfl (Or.inl rfl)) (fun _ _ _=>(pt_cmpR op_notIn_seq (pv 0) (pv 1) (by with_unfolding_all rfl))) (fun _ _ _=>(pv 0)))))))
    (pss_one (ps_aug (i:=5) sc_ways.nd rfl (Or.inl rfl) pe_int ip_add))))))
    (pss_one (ps_ret (pv 4))))))),?_⟩
  try dsimp only [cxOf]
  have few:=fo.few
  have ho:=heads_ok pi like
  have hcl:=hdA_ld pi ho
  have hlt:=ld_lt pi
  refine ⟨_,rfl,(show 1≤sizeLine by decide),fun W0 hW0 => ?_⟩
  dsimp only [gName]
  have s1:=same_new hW0 (.lst ([l].map nV))
  have hW1:=upd_same (H:=H) (a:=W0) (o := .lst ([l].map nV))
  show tSeq _ _ _ _ (upd H W0 (.lst ([l].map nV)))
  generalize upd H W0 (.lst ([l].map nV))=H1 at s1 hW1 ⊢
  refine rd_set ?_
  refine rd_set ?_
  refine ⟨WaI H T L ts ls l,⟨_,W0, [l],0,none,none,rfl,s1,hW1,ginv_start,Nat.zero_le _,rfl⟩,?_⟩
  rintro m σ H2 ⟨W,wl,at_,x6,x7,rfl,s2,hW2,inv,hat,rfl⟩
  have wlen:=inv.len (n:=ts.length) (IsLd ls ts.length) hld hcl hlt
  refine ⟨_,rfl,_,rfl,W,_,rfl,.inl (SqL.of hW2),_,_,rfl,rfl,_,rfl,iteD (fun lt => ?_) (fun ge => ?_)⟩
  rotate_left
  · rw [List.length_map] at ge
    have e:at_=wl.length:=by omega
    subst e
    rw [List.drop_length] at inv
    rw [List.take_length]
    exact ⟨_,rfl,q wl H2 s2 inv⟩
  rw [List.length_map] at lt
  have lt:at_ < wl.length:=by omega
  refine ⟨fun σ' H'=>∃ m',m' < ts.length - at_∧WaI H T L ts ls l m' σ' H',fun σ' H' h=>h,?_⟩
  obtain ⟨here,hh⟩:∃ x,wl[at_]? = some x:=⟨_,List.getElem?_eq_getElem lt⟩
  have hdr:wl.drop at_=here :: wl.drop (at_+1):=by
    rw [List.drop_eq_getElem_cons lt]
    rw [List.getElem?_eq_getElem lt] at hh
    rw [Option.some.inj hh]
  have mv:∀ x,x∈wl.drop at_↔x∈wl.drop (at_+1) ++ [here]:=fun x=>by
    rw [hdr,List.mem_cons,List.mem_append,List.mem_singleton]
    exact Or.comm
  have inv2:GInv (hdA ls ts (headsF ts ls)) l wl (wl.drop (at_+1) ++ [here]):=⟨inv.nd,fun x hx=>inv.sub x ((mv x).mpr hx),inv.root,fun x hx=>(inv.shut x hx).imp (mv x).mp id,inv.least⟩
  have hst:=inv2.pop
  have hhm:=List.mem_of_getElem? hh
  -- its nodes
  refine ⟨_,rfl,_,rfl,_,rfl,_,rfl,W,_,_,_,rfl,rfl,SqL.of hW2,nV_at hh,T,L,us,ts,ls,here,rfl,s2 _ _ hT,tms_same s2 hts,s2 _ _ hL,pi,like,fun N pvs H3 s3 hN0 hN3 hp3 => ?_⟩
  dsimp only [gName]
  have hf9:∀ x,(headsF ts ls x).length < 2 ^ 9:=fun x=>Nat.lt_of_le_of_lt (Nat.le_trans (ho.few x) few) (by decide)
  have hw:=ways_lt (headsF ts ls) hf9 at_ (wl.take at_) (by rw [List.length_take];omega)
  have hpl:pvs.length=(headsF ts ls here).length:=by rw [Paired.length hp3,List.length_map]
  refine ⟨_,rfl,_,rfl,N,_,rfl,.inl (SqL.of hN3),_,_,rfl,rfl,mulB_of (m:=9 * at_+1) (n:=9) (by show ((waysF (headsF ts ls) (wl.take at_):Nat):Int).natAbs < _;rw [Int.natAbs_natCast];exact hw) (by rw [hpl,Int.natAbs_natCast];exact hf9 here) (by omega),?_⟩
  dsimp only [gName]
  have em:V.int (((waysF (headsF ts ls) (wl.take at_):Nat):Int) * ((pvs.length:Nat):Int))=nV (waysF (headsF ts ls) (wl.take (at_+1))):=by
    rw [take_snoc hh,ways_snoc,hpl]
    show _=V.int ((_ * _:Nat):Int)
    rw [Int.natCast_mul]
  rw [em]
  have hW3:=s3 _ _ hW2
  refine rd_cut (fun σ' H'=>∃ (W':Addr) (wl':List Nat) (x7:Option V), σ' = [some (.ref T),some (.ref L),some (nV l),some (.ref W'),some (nV (waysF (headsF ts ls) (wl.take (at_+1)))),some (nV at_),some (.ref N),x7]∧Same H3 H'∧H' W'=some (.lst (wl'.map nV))∧GInv (hdA ls ts (headsF ts ls)) l wl' (wl'.drop (at_+1))∧wl'.take (at_+1)=wl.take (at_+1)∧wl.length≤wl'.length) ?_ (fun key => ?_)
  rotate_left
  · refine ⟨_,rfl,N,rfl,⟨_,SqL.of hN3⟩,?_⟩
    refine for_list (xs:=pvs) (WbI H3 T L N ts ls l here at_ wl pvs (waysF (headsF ts ls) (wl.take (at_+1)))) ⟨W,wl, [],x7,rfl,fun c u e=>e,hW3,hst,rfl,Nat.le_refl _,fun j p hj=>absurd hj (Nat.not_lt_zero _)⟩ ?_ ?_ ?_
    · rintro i σ H' _ ⟨W',wl',bs,x7',rfl,sm,_⟩
      exact SqL.of (sm _ _ hN3)
    · rintro i v σ H4 hv ⟨W',wl',bs,x7',rfl,s4,hW4,g4,tk4,le4,all4⟩
      obtain ⟨p,hp,a,hb,l0,rfl,h1,_,h3,_⟩:=Paired.at hp3 hv
      have hp0:=hp
      rw [List.getElem?_map] at hp
      obtain ⟨j,hj,rfl⟩:=Option.map_eq_some_iff.mp hp
      have hjm:=List.mem_of_getElem? hj
      have hjn:=(ho.mem here j hjm).1
      have htj:=List.getElem?_eq_getElem (l:=ts) hjn
      generalize ts[j]'hjn=t at htj
      have em2:markP ts ls j=mk ls t:=mark_at htj
      rw [em2] at h3 hp0
      have ea:armsF (mk ls t)=stepL ls t:=mk_arms ls t
      have egt:ts.getD j (.num 0)=t:=by rw [List.getD_eq_getElem?_getD,htj];rfl
      have inA:∀ b∈armsF (mk ls t),b∈hdA ls ts (headsF ts ls) here:=fun b hb=>List.mem_flatMap.mpr ⟨j,hjm,by rw [egt, ← ea];exact hb⟩
      have h4:(armsF (mk ls t)).length≤4:=by rw [ea,stepL,List.length_map];exact fo.four j t htj
      have h16:∀ b∈armsF (mk ls t),b < 16:=fun b hb=>Nat.lt_of_lt_of_le (hlt b (hcl here (inv.least _ hld hcl here hhm) b (inA b hb))) few
      generalize hea:armsF (mk ls t)=as at h3 inA h4 h16
      dsimp only [gName]
      refine ⟨_,rfl,_,rfl,a,_,1,_,rfl,rfl,SqT.of (s4 _ _ h1),atI_nat (j:=1) rfl,l0,as,rfl,SqL.of (s4 _ _ h3),h4,h16,fun S hS0=>⟨S,ddN as,rfl,upd_same,Nat.le_trans (ddN_len as) h4,fun ms D hso hme hD0=>⟨D,rfl,⟨_,SqL.of upd_same⟩,?_⟩⟩⟩
      have w1:=same_new hS0 (.ext (SetPhi w S (ddN as)))
      have w2:=w1.trans (same_new hD0 (.lst (ms.map nV)))
      have hD:=upd_same (H:=upd H4 S (.ext (SetPhi w S (ddN as)))) (a:=D) (o := .lst (ms.map nV))
      have hme:∀ k,k∈ms↔k∈as:=fun k=>(hme k).trans ddN_mem
      have mnd:ms.Nodup:=hso.imp fun {x y} h=>Nat.ne_of_lt h
      have mln:ms.length≤16:=nodup_len _ _ mnd fun x hx=>h16 x ((hme x).mp hx)
      show CompBodyI _ _ _ _ _ (upd (upd H4 S (.ext (SetPhi w S (ddN as)))) D (.lst (ms.map nV))) _
      generalize upd (upd H4 S (.ext (SetPhi w S (ddN as)))) D (.lst (ms.map nV))=H5 at w2 hD ⊢
      have hW5:=w2 _ _ hW4
      refine compI_listS (xs:=ms.map nV) (fun x=>if (vI x).toNat∈wl' then none else some x) (SqL.of hD) (by rw [List.length_map];omega) (fun x hx H' sm R r => ?_) (fun x v hx e H' sm Q' q' => ?_) (fun D2 H6 hD20 s6 hD2 => ?_)
      · obtain ⟨b,_,rfl⟩:=List.mem_map.mp hx
        have ev:(vI (nV b)).toNat=b:=by show ((b:Nat):Int).toNat=b;omega
        rw [ev] at r
        refine ⟨_,rfl,_,rfl,W',_,rfl,.inl (SqL.of (sm _ _ hW5)),rfl,flat_nats wl',_,rfl,?_⟩
        by_cases hb':b∈wl'
        · have e0:(if true=true then !inV (nV b) (wl'.map nV) else inV (nV b) (wl'.map nV))=false:=by rw [if_pos rfl,in_nats,decide_eq_true hb'];rfl
          rw [e0]
          rw [if_pos hb'] at r
          exact r H' (Same.refl _)
        · have e0:(if true=true then !inV (nV b) (wl'.map nV) else inV (nV b) (wl'.map nV))=true:=by rw [if_pos rfl,in_nats,decide_eq_false hb'];rfl
          rw [e0]
          rw [if_neg hb'] at r
          exact r H' (Same.refl _)
      · split at e
        · cases e
        · cases e
          exact ⟨_,rfl,q' H' (Same.refl _)⟩
      rw [filt_new] at hD2
      have le5:wl'.length≤16:=Nat.le_trans (g4.len (n:=ts.length) (IsLd ls ts.length) hld hcl hlt) few
      have le6:(newL wl' ms).length≤16:=Nat.le_trans (List.length_filter_le ..) mln
      refine ⟨W',D2,_,_,rfl,rfl,s6 _ _ hW5,hD2,(by rw [List.length_map,List.length_map];exact Nat.le_trans (show wl'.length+(newL wl' ms).length≤100000 by omega) (by decide)),fun W2 hW20 => ?_⟩
      dsimp only [gName]
      rw [← List.map_append]
      have s7:=same_new hW20 (.lst ((wl' ++ newL wl' ms).map nV))
      have la:at_+1≤wl'.length:=by omega
      refine ⟨W2,wl' ++ newL wl' ms,bs ++ ms,_,rfl,s4.trans (w2.trans (s6.trans s7)),upd_same,?_,?_,by rw [List.length_append];omega,fun j' p hj' hp' b hb' => ?_⟩
      · rw [List.drop_append_of_le_length la]
        exact GStep.more g4 mnd fun b hb'=>inA b ((hme b).mp hb')
      · rw [List.take_append_of_le_length la];exact tk4
      · by_cases e:j'=i
        · subst e
          rw [hp0] at hp'
          have e9:=Option.some.inj hp'
          rw [← e9,hea] at hb'
          exact List.mem_append_right _ ((hme b).mpr hb')
        · exact List.mem_append_left _ (all4 j' p (by omega) hp' b hb')
    · rintro σ H4 ⟨W',wl',bs,x7',rfl,s4,hW4,g4,tk4,le4,all4⟩
      refine key _ _ ⟨W',wl',_,rfl,s4,hW4,g4.done fun b hb => ?_,tk4,le4⟩
      obtain ⟨j,hj,hb⟩:=List.mem_flatMap.mp hb
      obtain ⟨i,hi⟩:=List.getElem?_of_mem hj
      refine all4 i (markP ts ls j) (by rw [hpl];exact (List.getElem?_eq_some_iff.mp hi).1) (by rw [List.getElem?_map,hi];rfl) b ?_
      unfold markP
      rw [mk_arms];exact hb
  rintro σ' H5 ⟨W',wl',x7',rfl,s5,hW5,inv5,tk5,le5⟩
  refine ⟨_,rfl,_,_,rfl,rfl,ts.length - (at_+1),by omega,W',wl',at_+1,some (.ref N),x7',?_,s2.trans (s3.trans s5),hW5,inv5,by omega,rfl⟩
  rw [tk5]
  rfl
end

end K65
namespace K65
open PySem L2 Sw
section
variable {P:Program} {w:World} {K:PySem.W.Frag} {mg:Str→Option Value} {base:Heap}
inductive SpAsked (K:PySem.W.Frag) (vs:List V) (H:Hp) (Q:VK):Prop
  | mk (a T:Addr) (ns:List Int) (us:List V) (z0:vs = [.ref a,.ref T]) (z1:SqL K H a (ns.map V.int)) (z2:H T=some (.lst us)) (z3:us.length≤900) (z4:(ns.length=0→us.length=0)) (z5:∀ N (ks:List Nat) H',Same H H'→H' N=some (.lst (ks.map nV))→(∀ k∈ks,k < us.length)→Q (.ref N) H'):SpAsked K vs H Q
noncomputable def spAsked (K:PySem.W.Frag):Sp:=fun vs H Q _=>SpAsked K vs H Q
theorem ok_asked (B:Blt mg) (D:Def K mg "_law_asked" s_asked ["_law_script", "_law_terms"]):Has P w K mg base 1 "_law_asked" ["_law_script", "_law_terms"] (spAsked K):=by
  refine D.has sc_asked (fun vs H Q E h => ?_) (fun f cdv A outer s H vs Q E hr h => ?_)
  · obtain ⟨a,T,ns,us,rfl,_⟩:=h;rfl
  obtain ⟨a,T,ns,us,rfl,hS,hT,few,hz,q⟩:=h
  refine ⟨_,(pss_cons (ps_if (pt_cmpR op_eq (pe_callB call_len_seq rfl B.len_ PySem.boot_len (pa_cons (pv 1) pa_nil)) pe_int (nomark _)) (pss_one (ps_ret (pe_lst pa_nil))) pss_nil)
    (pss_one (ps_ret (pe_lst (pa_cons (pe_op op_sub (pe_callB call_len_seq rfl B.len_ PySem.boot_len (pa_cons (pv 1) pa_nil)) pe_int) (pa_cons (pe_op op_mod (pe_op op_mod (pe_op op_mul (pe_ix ix_list (pv 0) pe_int (fun _ _=>rfl)) pe_int) pe_int) (pe_callB call_len_seq rfl B.len_ PySem.boot_len (pa_cons (pv 1) pa_nil))) pa_nil)))))),?_⟩
  try dsimp only [cxOf]
  refine ⟨_,rfl,T,us,rfl,.inl (SqL.of hT),rfl,_,rfl,iteD (fun _=>⟨Nat.zero_le _,fun N hN=>q N [] _ (same_new hN _) upd_same (fun k hk=>nomatch hk)⟩) (fun hne => ?_)⟩
  have hpos:0 < us.length:=by
    rcases Nat.eq_zero_or_pos us.length with z | z
    · exact absurd (by rw [z];rfl) hne
    · exact z
  have hn0:0 < ns.length:=by
    rcases Nat.eq_zero_or_pos ns.length with z | z
    · have:=hz z;omega
    · exact z
  obtain ⟨y,hy,hym⟩:=atI_ex (xs:=ns.map V.int) (i:=0) (Int.le_refl _) (by rw [List.length_map];omega)
  obtain ⟨c,_,rfl⟩:=List.mem_map.mp hym
  refine ⟨_,rfl,T,us,rfl,.inl (SqL.of hT),_,_,rfl,rfl,_,rfl,a,_,_,_,rfl,rfl,hS,hy,_,_,rfl,rfl,.inr ⟨by decide,by decide⟩,_,_,rfl,rfl,pos',_,rfl,T,us,rfl,.inl (SqL.of hT),_,_,rfl,rfl,(by omega),(show 2≤sizeLine by decide),fun N hN => ?_⟩
  have c0:0≤c * 16807 % 2147483629 % ((us.length:Nat):Int):=Int.emod_nonneg _ (by omega)
  have c1:c * 16807 % 2147483629 % ((us.length:Nat):Int) < ((us.length:Nat):Int):=Int.emod_lt_of_pos _ (by omega)
  have e : [V.int (((us.length:Nat):Int) - 1),V.int (c * 16807 % 2147483629 % ((us.length:Nat):Int))] = [us.length - 1,(c * 16807 % 2147483629 % ((us.length:Nat):Int)).toNat].map nV:=by
    show _ = [V.int ((us.length - 1:Nat):Int),V.int (((c * 16807 % 2147483629 % ((us.length:Nat):Int)).toNat:Nat):Int)]
    rw [Int.toNat_of_nonneg c0,show (((us.length - 1:Nat)):Int)=((us.length:Nat):Int) - 1 by omega]
  rw [e]
  refine q N _ _ (same_new hN _) upd_same fun k hk => ?_
  rcases List.mem_cons.mp hk with rfl | hk
  · omega
  · rw [List.mem_singleton.mp hk];omega
theorem sh_ch {ts:List Tm} {ls:List Nat} {cs:DK} {l:Nat} {fs:List Nat} {rs:List Rw} {price:Int} (pi:PrG ts ls) (like:LikeL ts ls) (few:ts.length≤16) (hld:IsLd ls ts.length l) (g:GInv (hdA ls ts (headsF ts ls)) l fs []) (sh:ShOk ts ls cs l (combF (headsF ts ls) fs) rs price) :
    ∃ pk,ChO ls ts pk l (rs.map (·.1))∧∀ r∈rs,valV pk (lk r.1)=some (nV r.2):=by
  have ho:=heads_ok pi like
  have hcl:=hdA_ld pi ho
  have hlt:=ld_lt pi
  obtain ⟨pk,hpk,hval,hshut,hleast⟩:=sh.from_
  have hget:=(comb_get (headsF ts ls) fs.length fs rfl pk hpk).1
  have infs:∀ m∈rs.map (·.1),m∈fs:=hleast (· ∈ fs) g.root fun x hx b hb=>by
    obtain ⟨j,hj,e⟩:=hget x hx
    have hjn:=(ho.mem x j hj).1
    rw [pkA_at e (List.getElem?_eq_getElem hjn)] at hb
    refine g.closed x hx b (List.mem_flatMap.mpr ⟨j,hj,?_⟩)
    rw [List.getD_eq_getElem?_getD,List.getElem?_eq_getElem hjn]
    exact hb
  have pick:∀ m∈rs.map (·.1),∀ j,valV pk (lk m)=some (nV j)→∃ t,ts[j]? = some t∧ls.getD j 0=m:=fun m hm j e=>by
    obtain ⟨j',hj',e'⟩:=hget m (infs m hm)
    rw [e] at e'
    have:=V.int.inj (Option.some.inj e')
    have ej:j=j':=by omega
    subst ej
    obtain ⟨h1,h2⟩:=ho.mem m j hj'
    exact ⟨_,List.getElem?_eq_getElem h1,h2⟩
  have arms:∀ (i m:Nat) (t:Tm),(rs.map (·.1))[i]? = some m→Pick ts pk m t→∀ a∈armsF t,ls.getD a 0∈(rs.map (·.1)).take i:=fun i m t hi hp a ha=>by
    rw [List.getElem?_map] at hi
    obtain ⟨r,hr,rfl⟩:=Option.map_eq_some_iff.mp hi
    obtain ⟨j,e1,e2⟩:=hp
    have e3:=hval r (List.mem_of_getElem? hr)
    rw [e1] at e3
    have:=V.int.inj (Option.some.inj e3)
    have ej:r.2=j:=by omega
    rw [← List.map_take]
    refine sh.ch.arms i r hr _ ?_
    unfold mtF
    rw [mk_arms,ej,List.getD_eq_getElem?_getD,e2]
    exact List.mem_map.mpr ⟨a,ha,rfl⟩
  have want:∀ (i m:Nat),(rs.map (·.1))[i]? = some m→m=l∨∃ (i' m':Nat) (t:Tm),i < i'∧(rs.map (·.1))[i']? = some m'∧Pick ts pk m' t∧∃ a∈armsF t,ls.getD a 0=m:=fun i m hi=>by
    have hw:=hleast (fun x=>x∈rs.map (·.1)∧(x=l∨∃ m'∈rs.map (·.1),x∈pkA ls ts pk m')) ⟨sh.root,.inl rfl⟩ (fun x hx b hb=>⟨hshut x hx.1 b hb,.inr ⟨x,hx.1,hb⟩⟩) m (List.mem_of_getElem? hi)
    rcases hw.2 with z | ⟨m',hm',hb⟩
    · exact .inl z
    · obtain ⟨i',hi'⟩:=List.getElem?_of_mem hm'
      obtain ⟨r,hr,er⟩:=List.mem_map.mp hm'
      have e3:=hval r hr
      rw [er] at e3
      obtain ⟨t,ht,_⟩:=pick m' hm' r.2 e3
      have hp:Pick ts pk m' t:=⟨r.2,e3,ht⟩
      rw [pkA_at e3 ht] at hb
      obtain ⟨a,ha,ea⟩:=List.mem_map.mp hb
      refine .inr ⟨i',m',t,?_,hi',hp,a,ha,ea⟩
      have hin:=arms i' m' t hi' hp a ha
      rw [ea] at hin
      obtain ⟨i2,hi2⟩:=List.getElem?_of_mem hin
      have lt2:i2 < i':=by
        have:=(List.getElem?_eq_some_iff.mp hi2).1
        rw [List.length_take] at this
        omega
      rw [List.getElem?_take_of_lt lt2] at hi2
      have:=(List.getElem?_inj (List.getElem?_eq_some_iff.mp hi2).1 sh.nd).mp (hi2.trans hi.symm)
      omega
  refine ⟨pk,⟨sh.nd,?_,arms,want,?_,pick⟩,hval⟩
  · have:(rs.map (·.1)).length≤ts.length:=nodup_len _ _ sh.nd fun x hx=>hlt x (g.least _ hld hcl x (infs x hx))
    omega
  · rcases List.eq_nil_or_concat (rs.map (·.1)) with e | ⟨ns',x,e⟩
    · have:=sh.root
      rw [e] at this
      cases this
    · rw [List.concat_eq_append] at e
      rw [e] at want ⊢
      rcases want ns'.length x (by simp) with z | ⟨i',m',t,hl',hi',_⟩
      · exact ⟨ns',by rw [z]⟩
      · have:=(List.getElem?_eq_some_iff.mp hi').1
        rw [List.length_append] at this
        have e1 : [x].length=1:=rfl
        omega
inductive SpRight (vs:List V) (H:Hp) (Q:VK):Prop
  | mk (p N T L C:Addr) (rvs us:List V) (rs:List Rw) (ts:List Tm) (ls:List Nat) (cs pk:DK) (k:Nat) (price:Int) (z0:vs = [.ref p,.ref T,.ref L,.ref C,nV k]) (z1:H p=some (.tup [.int price,.ref N])) (z2:H N=some (.lst rvs)) (z3:Paired (PairAt H) rvs rs) (z4:ChO ls ts pk (ls.getD k 0) (rs.map (·.1))) (z5:∀ r∈rs,valV pk (lk r.1)=some (nV r.2)) (z6:∀ r∈rs,r.2 < ts.length) (z7:price=(rs.map fun r=>costK cs ts r.2).sum)
    (z8:H T=some (.lst us)) (z9:Tms H us ts) (z10:H L=some (.lst (ls.map nV))) (z11:PrG ts ls) (z12:H C=some (.dK cs)) (z13:CostOk cs) (z14:k < ts.length) (z15:∀ H',Same H H'→Q (.bl true) H'):SpRight vs H Q
noncomputable def spRight:Sp:=fun vs H Q _=>SpRight vs H Q
theorem rows_at {H:Hp} {pk:DK}:∀ {rvs:List V} {rs:List Rw},Paired (PairAt H) rvs rs→(∀ r∈rs,valV pk (lk r.1)=some (nV r.2))→Paired (RowAt pk H) rvs (rs.map (·.1))
  | _,_,.nil,_ => .nil
  | _,_,.cons h t,hv=>by
    obtain ⟨b,e,hb⟩:=h
    exact .cons ⟨b,_,e,hb,hv _ List.mem_cons_self⟩ (rows_at t fun r hr=>hv r (List.mem_cons_of_mem _ hr))
theorem ok_right (B:Blt mg) (h_whole:Has P w K mg base 1 "_law_whole" ["_law_found"] spWhole) (h_choice_fine:Has P w K mg base 3 "_law_choice_fine" ["_law_choice", "_law_terms", "_law_leads", "_law_lead"] (spChoice K)) (h_cost:Has P w K mg base 2 "_law_cost" ["_law_term_here", "_law_costs_here"] spCostH)
    (D:Def K mg "_law_right" s_right ["_law_found", "_law_terms", "_law_leads", "_law_costs_here", "_law_k"]):Has P w K mg base 4 "_law_right" ["_law_found", "_law_terms", "_law_leads", "_law_costs_here", "_law_k"] spRight:=by
  refine D.has sc_right (fun vs H Q E h => ?_) (fun f cdv A outer s H vs Q E hr h => ?_)
  · obtain ⟨p,N,T,L,C,rvs,us,rs,ts,ls,cs,pk,k,price,rfl,_⟩:=h;rfl
  obtain ⟨p,N,T,L,C,rvs,us,rs,ts,ls,cs,pk,k,price,rfl,hp,hN,hpr,ch,hval,hnum,hprice,hT,hts,hL,pi,hC,hc,hk,q⟩:=h
  refine ⟨_,(pss_cons (ps_if (PW.pt (pw_or (pt_not (pt_val (pe_callB call_isT rfl B.isinstance_ boot_isinstance_ (pa_cons (pv 0) (pa_cons (pe_bltn (v := .ty "tuple") rfl B.tuple_ boot_tuple_ rfl) pa_nil))))) (pw_or (pt_cmpR op_ne (pe_callB call_len_seq rfl B.len_ PySem.boot_len (pa_cons (pv 0) pa_nil)) pe_int (nomark _)) (pw_or1 (pt_not (pt_val (pe_callH h_whole hr (by omega) rfl (pa_cons (pe_ix ix_tup (pv 0) pe_int (fun _ _=>rfl)) pa_nil)))))))) (pss_one (ps_ret pe_bl)) pss_nil)
    (pss_cons (ps_if (pt_not (pt_val (pe_callH h_choice_fine hr (by omega) rfl (pa_cons (pe_ix ix_tup (pv 0) pe_int (fun _ _=>rfl)) (pa_cons (pv 1) (pa_cons (pv 2) (pa_cons (pe_ix ix_list (pv 2) (pv 4) (fun _ _=>rfl)) pa_nil))))))) (pss_one (ps_ret pe_bl)) pss_nil)
    (pss_one (ps_ret (pe_cmpR op_eq (pe_ix ix_tup (pv 0) pe_int (fun _ _=>rfl)) (pe_callB (call_sumL rfl) rfl B.sum_ boot_sum_ (pa_cons (pe_comp (te:=(tCall _ _ _ (tCons (tOp (rIxL K) _ (tOp (rIxT K) _ _)) (tCons _ tNil)))) (own := ["_law_row"]) (caps := [("_law_costs_here",3),("_law_terms",1)]) (comp_scope (defScope s_right) ["_law_found", "_law_terms", "_law_leads", "_law_costs_here", "_law_k"] rfl rfl rfl (by decide +kernel)) (pi_list (pe_ix ix_tup (pv 0) pe_int (fun _ _=>rfl))) rfl (fun _ _ _=>pg_name (i:=0) (show (["_law_row", "_law_costs_here", "_law_terms"]:List Str).Nodup by decide +kernel) rfl (Or.inl rfl)) (fun _ _ _=>(pe_callH h_cost hr (by omega) rfl (pa_cons (pe_ix ix_list (pv 2) (pe_ix ix_tup (pv 0) pe_int (fun _ _=>rfl)) (fun _ _=>rfl)) (pa_cons (pv 1) pa_nil))))) pa_nil)) (nomark _)))))),?_⟩
  try dsimp only [cxOf]
  have hut:=Paired.length hts
  have hrl:=Paired.length hpr
  have sml:=ch.sml
  rw [List.length_map] at sml
  have r0:atI [V.int price,V.ref N] (0:Int)=some (.int price):=atI_nat (j:=0) rfl
  have r1:atI [V.int price,V.ref N] (1:Int)=some (.ref N):=atI_nat (j:=1) rfl
  have hlk:=getD_at (ls:=ls) (k:=k) (by rw [pi.len];exact hk)
  refine ⟨_,rfl,.ref p, "tuple",.type "tuple",true,rfl,.tup hp,kit_tt,_,rfl,iteF ?_⟩
  refine ⟨_,rfl,p,_,rfl,.inr (SqT.of hp),rfl,_,rfl,iteDN (fun z=>absurd rfl z) (fun _ => ?_)⟩
  refine ⟨_,rfl,p,_,_,_,rfl,rfl,SqT.of hp,r0,_,rfl,_,rfl,iteF ?_⟩
  dsimp only [tNext]
  refine ⟨_,rfl,p,_,_,_,rfl,rfl,SqT.of hp,r1,_,rfl,_,rfl,_,rfl,_,rfl,L,_,_,_,rfl,rfl,SqL.of hL,nV_at hlk,N,T,L,rvs,us,ts,ls,rs.map (·.1),pk,ls.getD k 0,rfl,hN,rows_at hpr hval,ch,hT,hts,hL,pi,fun H2 s2=>⟨_,rfl,iteF ?_⟩⟩
  dsimp only [tNext]
  refine ⟨_,rfl,p,_,_,_,rfl,rfl,SqT.of (s2 _ _ hp),r0,_,rfl,p,_,_,_,rfl,rfl,SqT.of (s2 _ _ hp),r1,N,rfl,⟨_,SqL.of (s2 _ _ hN)⟩,?_⟩
  refine comp_listP (R:=fun _ v (n:Int)=>v = .int n) (bs:=rs.map fun r=>costK cs ts r.2) (fun Ha Hb v b kt hr=>hr) (SqL.of (s2 _ _ hN)) (by omega) (by rw [List.length_map];exact hrl.symm) (fun j x n hx hn H' sm' Q' q' => ?_) (fun D1 H7 zs hD1 s7 hD7 pr => ?_)
  · obtain ⟨r,hr',b,rfl,hb⟩:=Paired.at hpr hx
    rw [List.getElem?_map,hr'] at hn
    have hn:=(Option.some.inj hn).symm
    subst hn
    have hjn:=hnum r (List.mem_of_getElem? hr')
    obtain ⟨v,hv⟩:∃ v,us[r.2]? = some v:=⟨_,List.getElem?_eq_getElem (by rw [hut];exact hjn)⟩
    obtain ⟨t,ht,hvt⟩:=tms_at hts hv
    have et:costK cs ts r.2=costF cs t:=by unfold costK;rw [List.getD_eq_getElem?_getD,ht];rfl
    have s17:=s2.trans sm'
    exact ⟨_,rfl,_,rfl,b,_,1,_,rfl,rfl,SqT.of (s17 _ _ hb),atI_nat (j:=1) rfl,T,_,_,_,rfl,rfl,SqL.of (s17 _ _ hT),atI_nat hv,_,rfl,v,t,C,cs,rfl,isTm_hd2 (hvt.same s17),s17 _ _ hC,hc,q' _ _ (Same.refl _) (by show V.int (costF cs t)=V.int (costK cs ts r.2);rw [et])⟩
  have ez:∀ {zs:List V} {ms:List Int},Paired (fun v (n:Int)=>v = .int n) zs ms→zs=ms.map V.int:=by
    intro zs ms z
    induction z with
    | nil=>rfl
    | cons h1 _ ih=>rw [ih,h1];rfl
  rw [ez pr] at hD7
  refine ⟨D1,_,rfl,SqL.of hD7,rfl,?_⟩
  rw [decide_eq_true (congrArg V.int hprice)]
  exact q _ (s2.trans s7)
end

end K65
namespace K65
open PySem L2 Sw
section
variable {P:Program} {w:World} {K:PySem.W.Frag} {mg:Str→Option Value} {base:Heap}
inductive SpLaw (K:PySem.W.Frag) (vs:List V) (H:Hp) (Q:VK):Prop
  | mk (a:Addr) (ns:List Int) (z0:vs = [.ref a]) (z1:SqL K H a (ns.map V.int)) (z2:ns.length≤63) (z3:(∀ c∈ns,Builtin.Int.intBits c≤1048576)) (z4:∀ H',Q (.bl true) H'):SpLaw K vs H Q
noncomputable def spLaw (K:PySem.W.Frag):Sp:=fun vs H Q _=>SpLaw K vs H Q
inductive FoI (H:Hp) (a T E L C Hd:Addr) (x9:Option V) (ts:List Tm) (ls:List Nat) (cs:DK) (k:Nat) (σ : St) (H':Hp):Prop
  | no:∀ fs,(σ = [some (.ref a),some (.ref T),some (.ref E),some (.ref L),some (.ref C),some (.ref Hd),some (nV k),some .non,some (.bl true),x9])→(Same H H')→GInv (hdA ls ts (headsF ts ls)) (ls.getD k 0) fs []→¬ waysF (headsF ts ls) fs≤200→FoI H a T E L C Hd x9 ts ls cs k σ H'
  | yes:∀ fs (p N:Addr) (rvs:List V) (rs:List Rw) (price:Int),(σ = [some (.ref a),some (.ref T),some (.ref E),some (.ref L),some (.ref C),some (.ref Hd),some (nV k),some (.ref p),some (.bl false),x9])→(Same H H')→GInv (hdA ls ts (headsF ts ls)) (ls.getD k 0) fs []→waysF (headsF ts ls) fs≤200→(H' p=some (.tup [.int price,.ref N]))→H' N=some (.lst rvs)→Paired (PairAt H') rvs rs→ShOk ts ls cs (ls.getD k 0) (combF (headsF ts ls) fs) rs price→FoI H a T E L C Hd x9 ts ls cs k σ H'
inductive LaI (H:Hp) (a T E L C Hd:Addr) (σ : St) (H':Hp):Prop
  | mk:∀ (x6 x7 x8 x9:Option V),(σ = [some (.ref a),some (.ref T),some (.ref E),some (.ref L),some (.ref C),some (.ref Hd),x6,x7,x8,x9])→(Same H H')→LaI H a T E L C Hd σ H'
theorem ok_law {c_TooWide:Addr} (B:Blt mg) (b_dict:mg "dict" = none) (oTooWide:Exc K mg "TooWide" c_TooWide) (m_TooWide:PySem.W.exmOne K (.ref c_TooWide) (.ref c_TooWide)=some true) (h_made:Has P w K mg base 4 "_law_made" ["_law_script"] (spMade K)) (h_closed:Has P w K mg base 3 "closed" ["terms", "edges"] (spClosed K))
    (h_costs:Has P w K mg base 2 "_law_costs" ["_law_script", "_law_terms"] (spCosts K)) (h_asked:Has P w K mg base 1 "_law_asked" ["_law_script", "_law_terms"] (spAsked K)) (h_sharing:HasE P w K mg base 3 "sharing" ["terms", "leads", "costs", "k"] (spSharing c_TooWide)) (h_ways:Has P w K mg base 3 "_law_ways" ["_law_terms", "_law_leads", "_law_lead"] spWays)
    (h_right:Has P w K mg base 4 "_law_right" ["_law_found", "_law_terms", "_law_leads", "_law_costs_here", "_law_k"] spRight)
    {f:Addr} {fd:FuncData} (F:Fun K "law" "law" s_law f fd):FnOk P w K mg base CX0 6 f fd ["_law_script"] (spLaw K):=by
  have e_TooWide:=oTooWide.glob
  refine F.ok sc_law (fun vs H Q E h => ?_) (fun cdv A outer s H vs Q E hr h => ?_)
  · obtain ⟨a,ns,rfl,_⟩:=h;rfl
  obtain ⟨a,ns,rfl,hS,h63,hbits,q⟩:=h
  refine ⟨_,(pss_cons (ps_asg (pe_callH h_made hr (by omega) rfl (pa_cons (pv 0) pa_nil)) (pg_tup rfl (pgs_cons (pg_name (i:=1) sc_law.nd rfl (Or.inl rfl)) (pgs_cons (pg_name (i:=2) sc_law.nd rfl (Or.inl rfl)) pgs_nil))))
    (pss_cons (ps_set (i:=3) sc_law.nd rfl (Or.inl rfl) (pe_callH h_closed hr (by omega) rfl (pa_cons (pe_callTy call_list_of rfl B.list_ boot_list_ (pa_cons (pv 1) pa_nil)) (pa_cons (pe_callTy call_list_of rfl B.list_ boot_list_ (pa_cons (pv 2) pa_nil)) pa_nil))))
    (pss_cons (ps_set (i:=4) sc_law.nd rfl (Or.inl rfl) (pe_callH h_costs hr (by omega) rfl (pa_cons (pv 0) (pa_cons (pv 1) pa_nil))))
    (pss_cons (ps_set (i:=5) sc_law.nd rfl (Or.inl rfl) (pe_lst (pa_cons (pe_callTy call_list_of rfl B.list_ boot_list_ (pa_cons (pv 1) pa_nil)) (pa_cons (pe_callTy call_list_of rfl B.list_ boot_list_ (pa_cons (pv 3) pa_nil)) (pa_cons (pe_callTy call_dictK rfl b_dict boot_dict_ (pa_cons (pv 4) pa_nil)) pa_nil)))))
    (pss_cons (ps_for PassesOwn.never rfl (pi_list (pe_callH h_asked hr (by omega) rfl (pa_cons (pv 0) (pa_cons (pv 1) pa_nil)))) (pg_name (i:=6) sc_law.nd rfl (Or.inl rfl))
    (pss_cons (ps_set (i:=7) sc_law.nd rfl (Or.inl rfl) pe_non)
    (pss_cons (ps_set (i:=8) sc_law.nd rfl (Or.inl rfl) pe_bl)
    (pss_cons (ps_tryU ⟨rfl,rfl⟩ rfl e_TooWide (pst_set (i:=7) sc_law.nd rfl (Or.inl rfl) (pet_callE h_sharing hr (by omega) rfl (pa_cons (pe_ix ix_list (pv 5) pe_int (fun _ _=>rfl)) (pa_cons (pe_ix ix_list (pv 5) pe_int (fun _ _=>rfl)) (pa_cons (pe_ix ix_list (pv 5) pe_int (fun _ _=>rfl)) (pa_cons (pv 6) pa_nil)))))) (fun ea=>(pss_one (ps_set (i:=8) sc_law.nd rfl (Or.inl rfl) pe_bl))))
    (pss_cons (ps_set (i:=9) sc_law.nd rfl (Or.inl rfl) (pe_cmpR op_gt (pe_callH h_ways hr (by omega) rfl (pa_cons (pv 1) (pa_cons (pv 3) (pa_cons (pe_ix ix_list (pv 3) (pv 6) (fun _ _=>rfl)) pa_nil)))) pe_int (nomark _)))
    (pss_one (ps_if (PW.pt (pw_or (pt_cmpR op_ne (pv 8) (pv 9) (nomark _)) (pw_or1 (PW.pt (pw_and (pt_not (pt_val (pv 9))) (pw_and1 (pt_not (pt_val (pe_callH h_right hr (by omega) rfl (pa_cons (pv 7) (pa_cons (pv 1) (pa_cons (pv 3) (pa_cons (pv 4) (pa_cons (pv 6) pa_nil)))))))))))))) (pss_one (ps_ret pe_bl)) pss_nil)))))))
    (pss_one (ps_ret (pe_cmpR (op_eqM (un101 hr)) (pv 5) (pe_lst (pa_cons (pv 1) (pa_cons (pv 3) (pa_cons (pv 4) pa_nil)))) (nomark _))))))))),?_⟩
  try dsimp only [cxOf]
  refine ⟨_,rfl,a,ns,rfl,hS,h63,(fun c hc=>Nat.le_trans (hbits c hc) (by decide)),fun p T E us evs ts es H1 mo hp hz hel => ?_⟩
  refine ⟨p,_,rfl,SqT.of hp,rfl,_,_,rfl,_,_,rfl,rfl,?_⟩
  obtain ⟨har,hal,hnd⟩:=mo.ok
  have hut:=Paired.length mo.tms
  have few:=mo.few
  refine ⟨_,rfl,T,us,rfl,.inl (SqL.of mo.hT),fun A1 hA1 => ?_⟩
  have s2:=same_new hA1 (.lst us)
  have hA:=upd_same (H:=H1) (a:=A1) (o := .lst us)
  generalize upd H1 A1 (.lst us)=H2 at s2 hA ⊢
  refine ⟨_,rfl,E,evs,rfl,.inl (SqL.of (s2 _ _ mo.hE)),fun A2 hA2 => ?_⟩
  have s3:=same_new hA2 (.lst evs)
  have hA3:=upd_same (H:=H2) (a:=A2) (o := .lst evs)
  generalize upd H2 A2 (.lst evs)=H3 at s3 hA3 ⊢
  have s23:=s2.trans s3
  have short:∀ (i:Nat) x as,ts[i]? = some (.of x as)→as.length≤1000:=fun i x as e=>Nat.le_trans (hal i x as e).1 (by decide)
  refine ⟨A1,A2,us,evs,ts,es,rfl,s3 _ _ hA,tms_same s23 mo.tms,SqL.of hA3,edges_keep (fun b ys=>s23 _ _) mo.eds,har,by omega,short,mo.lt,fun L ls H4 s4 hL0 hL hc => ?_⟩
  dsimp only [gName]
  have g4:Same H1 H4:=s23.trans s4
  have hT4:=g4 _ _ mo.hT
  have hts4:=tms_same g4 mo.tms
  have pi:PrG ts ls:=⟨har,hc.1,by omega,short,hc.2.1⟩
  have like:=like_of har hc
  have ho:=heads_ok pi like
  refine ⟨_,rfl,_,rfl,a,T,ns,us,ts,rfl,(mo.same.trans g4).seq hS,hT4,hts4,(by omega),hz,fun C cs H5 s5 hC0 hC hcl hcn => ?_⟩
  dsimp only [gName]
  have hT5:=s5 _ _ hT4
  have hL5:=s5 _ _ hL
  have hts5:=tms_same s5 hts4
  have hS5:=((mo.same.trans g4).trans s5).seq hS
  have hok:=hcl.ok
  have fo:FewOk ts:=⟨few,fun i t ht=>by
    cases t with
    | num n=>exact Nat.zero_le _
    | name n=>exact Nat.zero_le _
    | of x as=>exact (hal i x as ht).1⟩
  -- handed
  refine ⟨_,rfl,T,us,rfl,.inl (SqL.of hT5),fun G1 hG1 => ?_⟩
  have w1:=same_new hG1 (.lst us)
  have hG1a:=upd_same (H:=H5) (a:=G1) (o := .lst us)
  generalize upd H5 G1 (.lst us)=H6 at w1 hG1a ⊢
  refine ⟨_,rfl,L,_,rfl,.inl (SqL.of (w1 _ _ hL5)),fun G2 hG2 => ?_⟩
  have w2:=same_new hG2 (.lst (ls.map nV))
  have hG2a:=upd_same (H:=H6) (a:=G2) (o := .lst (ls.map nV))
  generalize upd H6 G2 (.lst (ls.map nV))=H7 at w2 hG2a ⊢
  refine ⟨_,rfl,C,cs,rfl,(w1.trans w2) _ _ hC,fun G3 hG3 => ?_⟩
  have w3:=same_new hG3 (.dK cs)
  have hG3a:=upd_same (H:=H7) (a:=G3) (o := .dK cs)
  generalize upd H7 G3 (.dK cs)=H8 at w3 hG3a ⊢
  refine ⟨(show 3≤sizeLine by decide),fun Hd hHd => ?_⟩
  dsimp only [gName]
  have w4:=same_new hHd (.lst [.ref G1,.ref G2,.ref G3])
  have hHd9:=upd_same (H:=H8) (a:=Hd) (o := .lst [.ref G1,.ref G2,.ref G3])
  generalize upd H8 Hd (.lst [.ref G1,.ref G2,.ref G3])=H9 at w4 hHd9 ⊢
  have s59:Same H5 H9:=w1.trans (w2.trans (w3.trans w4))
  have hG19:=(w2.trans (w3.trans w4)) _ _ hG1a
  have hG29:=(w3.trans w4) _ _ hG2a
  have hG39:=w4 _ _ hG3a
  have hT9:=s59 _ _ hT5
  have hL9:=s59 _ _ hL5
  have hC9:=s59 _ _ hC
  have hts9:=tms_same s59 hts5
  have hS9:=s59.seq hS5
  refine rd_cut (LaI H9 a T E L C Hd) ?_ (fun key => ?_)
  rotate_left
  · refine ⟨_,rfl,_,rfl,a,T,ns,us,rfl,hS9,hT9,(by omega),(fun z=>by rw [hut];exact hz z),fun N ks H6 s6 hN hks=>⟨N,rfl,⟨_,SqL.of hN⟩,?_⟩⟩
    refine for_list (xs:=ks.map nV) (fun i=>LaI H6 a T E L C Hd) (LaI.mk none none none none rfl (Same.refl _)) ?_ ?_ ?_
    · rintro i σ H' _ ⟨x6,x7,x8,x9,rfl,sm⟩
      exact SqL.of (sm _ _ hN)
    · rintro i y σ H7 hy ⟨x6,x7,x8,x9,rfl,s7⟩
      obtain ⟨k,hk,rfl⟩:=List.mem_map.mp (List.mem_of_getElem? hy)
      have hkn:k < ts.length:=by rw [← hut];exact hks k hk
      have hld:IsLd ls ts.length (ls.getD k 0):=⟨k,hkn,rfl⟩
      have g7:=s6.trans s7
      have hT7:=g7 _ _ hT9
      have hL7:=g7 _ _ hL9
      have hC7:=g7 _ _ hC9
      have hHd7:=g7 _ _ hHd9
      have hts7:=tms_same g7 hts9
      dsimp only [gName]
      refine rd_set ?_
      refine rd_set ?_
      refine rd_cut (FoI H7 a T E L C Hd x9 ts ls cs k) ?_ (fun key => ?_)
      rotate_left
      · refine ⟨_,rfl,Hd,_,0,_,rfl,rfl,SqL.of hHd7,atI_nat (j:=0) rfl,_,rfl,Hd,_,1,_,rfl,rfl,SqL.of hHd7,atI_nat (j:=1) rfl,_,rfl,Hd,_,2,_,rfl,rfl,SqL.of hHd7,atI_nat (j:=2) rfl,_,rfl,G1,G2,G3,us,ts,ls,cs,k,rfl,g7 _ _ hG19,hts7,g7 _ _ hG29,pi,like,g7 _ _ hG39,hok,hkn,fun fs g => ?_,fun fs g h200 p N rvs rs price H' sm hp hN hpr sh => ?_,fun fs g h200 H' s'=>⟨c_TooWide,rfl,m_TooWide,fun ea hea => ?_⟩⟩
        · exact Nat.lt_of_le_of_lt (g.len (IsLd ls ts.length) hld (hdA_ld pi ho) (ld_lt pi)) (by omega)
        · exact key _ _ (FoI.yes fs p N rvs rs price rfl sm g h200 hp hN hpr sh)
        · exact key _ _ (FoI.no fs rfl (s'.trans (same_new hea (XO ea c_TooWide))) g h200)
      have hlk:=getD_at (ls:=ls) (k:=k) (by rw [pi.len];exact hkn)
      rintro σ' H8 (⟨fs,rfl,s8,g,h200⟩ | ⟨fs,p,N',rvs,rs,price,rfl,s8,g,h200,hp8,hN8,hpr8,sh⟩)
      · refine ⟨_,rfl,_,rfl,_,rfl,_,rfl,L,_,_,_,rfl,rfl,SqL.of (s8 _ _ hL7),nV_at hlk,T,L,us,ts,ls,ls.getD k 0,rfl,s8 _ _ hT7,tms_same s8 hts7,s8 _ _ hL7,pi,like,fo,hld,fun fs' H9 s9 g'=>⟨_,_,rfl,rfl,?_⟩⟩
        have e200:decide (((waysF (headsF ts ls) fs':Nat):Int) > 200)=true:=decide_eq_true (by rw [ginv_ways g' g];omega)
        rw [e200]
        dsimp only [gName]
        refine rd_ifR (fun c Hc=>Hc=H9∧c=false) (fun Qc qc => ?_) (fun Hc z => ?_) (fun Hc z => ?_)
        · refine ⟨_,rfl,_,rfl,rfl,_,rfl,iteDN (fun z=>absurd rfl z) (fun _ => ?_)⟩
          exact ⟨_,rfl,_,rfl,iteF (qc _ _ ⟨rfl,rfl⟩)⟩
        · cases z.2
        · obtain ⟨rfl,_⟩:=z
          exact LaI.mk _ _ _ _ rfl (s7.trans (s8.trans s9))
      · refine ⟨_,rfl,_,rfl,_,rfl,_,rfl,L,_,_,_,rfl,rfl,SqL.of (s8 _ _ hL7),nV_at hlk,T,L,us,ts,ls,ls.getD k 0,rfl,s8 _ _ hT7,tms_same s8 hts7,s8 _ _ hL7,pi,like,fo,hld,fun fs' H9 s9 g'=>⟨_,_,rfl,rfl,?_⟩⟩
        have e200:decide (((waysF (headsF ts ls) fs':Nat):Int) > 200)=false:=decide_eq_false (by rw [ginv_ways g' g];omega)
        rw [e200]
        dsimp only [gName]
        obtain ⟨pk,ch,hval⟩:=sh_ch pi like few hld g sh
        have s79:=s8.trans s9
        refine rd_ifR (fun c Hc=>Same H9 Hc∧c=false) (fun Qc qc => ?_) (fun Hc z => ?_) (fun Hc z => ?_)
        · refine ⟨_,rfl,_,rfl,rfl,_,rfl,iteDN (fun z=>absurd rfl z) (fun _ => ?_)⟩
          refine ⟨_,rfl,_,rfl,iteT ?_⟩
          exact ⟨_,rfl,_,rfl,_,rfl,_,rfl,_,rfl,p,N',T,L,C,rvs,us,rs,ts,ls,cs,pk,k,price,rfl,s9 _ _ hp8,s9 _ _ hN8,Paired.mapP hpr8 (fun _ _ z=>z.keep fun b ys=>s9 _ _),ch,hval,sh.ch.num,sh.cost,s79 _ _ hT7,tms_same s79 hts7,s79 _ _ hL7,pi,s79 _ _ hC7,hok,hkn,fun H10 s10=>⟨_,rfl,qc _ _ ⟨s10,rfl⟩⟩⟩
        · cases z.2
        · exact LaI.mk _ _ _ _ rfl (s7.trans (s79.trans z.1))
    · rintro σ H7 ⟨x6,x7,x8,x9,rfl,s7⟩
      exact key _ _ (LaI.mk _ _ _ _ rfl (s6.trans s7))
  rintro σ' H13 ⟨x6,x7,x8,x9,rfl,s13⟩
  refine ⟨_,rfl,_,rfl,_,rfl,_,rfl,(show 3≤sizeLine by decide),fun Z hZ => ?_⟩
  have sz:=s13.trans (same_new hZ (.lst [.ref T,.ref L,.ref C]))
  have htz:=tms_same sz hts9
  refine ⟨Hd,Z,_,_,rfl,rfl,sz _ _ hHd9,upd_same,.cons (.inl ⟨.lst (ts.map tmD),?_,?_,?_⟩) (.cons (.inl ⟨.lst (ls.map fun n:Nat=>L2.D.int (n:Int)),?_,?_,?_⟩) (.cons (.inr ⟨G3,C,cs,rfl,rfl,sz _ _ hG39,sz _ _ hC9,fun kv hm => ?_⟩) .nil)),q _⟩
  · rw [L2.D.deep];have:=tms_deep ts;omega
  · rw [Den];exact ⟨G1,us,rfl,sz _ _ hG19,tms_den htz⟩
  · rw [Den];exact ⟨T,us,rfl,sz _ _ hT9,tms_den htz⟩
  · rw [L2.D.deep,ints_deep];decide
  · exact den_leads (sz _ _ hG29)
  · exact den_leads (sz _ _ hL9)
  · obtain ⟨n,e,_⟩:=hcl kv hm;exact ⟨n,e⟩
end

end K65
namespace K65
open PySem L2
theorem len_s {n:Nat} {us:List Value} (h:us.length=n+1):∃ v vs,us=v :: vs∧vs.length=n:=by cases us with | nil=>cases h | cons v vs=>exact ⟨v,vs,rfl,Nat.succ.inj h⟩
theorem len1_ {fd:FuncData} {ps:List Str} (h:∀ v0:Value,bindArgs fd ⟨[v0], []⟩=pure (ps.zip [v0])):∀ us:List Value,us.length=1→bindArgs fd ⟨us, []⟩=pure (ps.zip us):=fun us h0=>by obtain ⟨v0,us,rfl,h1⟩:=len_s h0;obtain rfl:=List.eq_nil_of_length_eq_zero h1;exact h v0
open PySem L2 Sw
theorem len2_ {fd:FuncData} {ps:List Str} (h:∀ v0 v1:Value,bindArgs fd ⟨[v0,v1], []⟩=pure (ps.zip [v0,v1])):∀ us:List Value,us.length=2→bindArgs fd ⟨us, []⟩=pure (ps.zip us):=fun us h0=>by obtain ⟨v0,us,rfl,h1⟩:=len_s h0;obtain ⟨v1,us,rfl,h2⟩:=len_s h1;obtain rfl:=List.eq_nil_of_length_eq_zero h2;exact h v0 v1
open PySem L2 Sw
theorem len3_ {fd:FuncData} {ps:List Str} (h:∀ v0 v1 v2:Value,bindArgs fd ⟨[v0,v1,v2], []⟩=pure (ps.zip [v0,v1,v2])):∀ us:List Value,us.length=3→bindArgs fd ⟨us, []⟩=pure (ps.zip us):=fun us h0=>by obtain ⟨v0,us,rfl,h1⟩:=len_s h0;obtain ⟨v1,us,rfl,h2⟩:=len_s h1;obtain ⟨v2,us,rfl,h3⟩:=len_s h2;obtain rfl:=List.eq_nil_of_length_eq_zero h3;exact h v0 v1 v2
open PySem L2 Sw
theorem len4_ {fd:FuncData} {ps:List Str} (h:∀ v0 v1 v2 v3:Value,bindArgs fd ⟨[v0,v1,v2,v3], []⟩=pure (ps.zip [v0,v1,v2,v3])):∀ us:List Value,us.length=4→bindArgs fd ⟨us, []⟩=pure (ps.zip us):=fun us h0=>by obtain ⟨v0,us,rfl,h1⟩:=len_s h0;obtain ⟨v1,us,rfl,h2⟩:=len_s h1;obtain ⟨v2,us,rfl,h3⟩:=len_s h2;obtain ⟨v3,us,rfl,h4⟩:=len_s h3;obtain rfl:=List.eq_nil_of_length_eq_zero h4;exact h v0 v1 v2 v3
open PySem L2 Sw
theorem len5_ {fd:FuncData} {ps:List Str} (h:∀ v0 v1 v2 v3 v4:Value,bindArgs fd ⟨[v0,v1,v2,v3,v4], []⟩=pure (ps.zip [v0,v1,v2,v3,v4])):∀ us:List Value,us.length=5→bindArgs fd ⟨us, []⟩=pure (ps.zip us):=fun us h0=>by obtain ⟨v0,us,rfl,h1⟩:=len_s h0;obtain ⟨v1,us,rfl,h2⟩:=len_s h1;obtain ⟨v2,us,rfl,h3⟩:=len_s h2;obtain ⟨v3,us,rfl,h4⟩:=len_s h3;obtain ⟨v4,us,rfl,h5⟩:=len_s h4;obtain rfl:=List.eq_nil_of_length_eq_zero h5;exact h v0 v1 v2 v3 v4
open PySem L2 Sw
theorem all_mk {l:PySem.W.OpenLaw} {w:World} {K:PySem.W.Frag} {h:Heap} {mg:Str→Option Value} {fa f0 f1 f2 f3 f4 f5 f6 f7 f8 f9 f10 f11 f12 f13 f14 f15 f16 f17 f18 f19 f20 f21 f22 f23 f24 f25 f26 f27 f28 f29 c_TooWide:Addr} {t_MOST_WAYS:Tok} (X:K.In h) (G:h.Ns mainGlobals mg) (hfa:mg "law" = some (.ref fa))
    {od0 an0 od1 an1 od2 an2 od3 an3 od4 an4 od5 an5 od6 an6 od7 an7 od8 an8 od9 an9 od10 an10 od11 an11 od12 an12 od13 an13 od14 an14 od15 an15 od16 an16 od17 an17 od18 an18 od19 an19 od20 an20 od21 an21 od22 an22 od23 an23 od24 an24 od25 an25 od26 an26 od27 an27 od28 an28 od29 an29:Option Addr} {sl0 sl1 sl2 sl3 sl4 sl5 sl6 sl7 sl8 sl9 sl10 sl11 sl12 sl13 sl14 sl15 sl16 sl17 sl18 sl19 sl20 sl21 sl22 sl23 sl24 sl25 sl26 sl27 sl28 sl29:Array (Option Value)} {oc0 kV0 dc0 pm0 cd0 ct0 oc1 kV1 dc1 pm1 cd1 ct1 oc2 kV2 dc2 pm2 cd2 ct2 oc3 kV3 dc3 pm3 cd3 ct3 oc4 kV4 dc4 pm4 cd4 ct4 oc5 kV5 dc5 pm5 cd5 ct5 oc6 kV6 dc6 pm6 cd6 ct6 oc7 kV7 dc7 pm7 cd7 ct7 oc8 kV8 dc8 pm8 cd8 ct8 oc9 kV9 dc9 pm9 cd9 ct9 oc10 kV10 dc10 pm10 cd10 ct10 oc11 kV11 dc11 pm11 cd11 ct11 oc12 kV12 dc12 pm12 cd12 ct12 oc13 kV13 dc13 pm13 cd13 ct13 oc14 kV14 dc14 pm14 cd14 ct14 oc15 kV15 dc15 pm15 cd15 ct15 oc16 kV16 dc16 pm16 cd16 ct16 oc17 kV17 dc17 pm17 cd17 ct17 oc18 kV18 dc18 pm18 cd18 ct18 oc19 kV19 dc19 pm19 cd19 ct19 oc20 kV20 dc20 pm20 cd20 ct20 oc21 kV21 dc21 pm21 cd21 ct21 oc22 kV22 dc22 pm22 cd22 ct22 oc23 kV23 dc23 pm23 cd23 ct23 oc24 kV24 dc24 pm24 cd24 ct24 oc25 kV25 dc25 pm25 cd25 ct25 oc26 kV26 dc26 pm26 cd26 ct26 oc27 kV27 dc27 pm27 cd27 ct27 oc28 kV28 dc28 pm28 cd28 ct28 oc29 kV29 dc29 pm29 cd29 ct29:Value}
    (a0:PySem.W.nsIn K mainGlobals "mark" = some (some (.ref f0)))
    (l0:K.lookup f0=some ⟨oc0,od0,.func (PySem.W.fnOf "mark" "mark" (defArgs s_mark) (defBody s_mark) (defScope s_mark) .none kV0 dc0 pm0 an0 cd0 ct0),sl0⟩)
    (c0:PySem.W.codeIn K cd0 "mark" = true)
    (k0:PySem.W.keepIn K (.ref f0)=true)
    (a1:PySem.W.nsIn K mainGlobals "join_classes" = some (some (.ref f1)))
    (l1:K.lookup f1=some ⟨oc1,od1,.func (PySem.W.fnOf "join_classes" "join_classes" (defArgs s_join_classes) (defBody s_join_classes) (defScope s_join_classes) .none kV1 dc1 pm1 an1 cd1 ct1),sl1⟩)
    (c1:PySem.W.codeIn K cd1 "join_classes" = true)
    (k1:PySem.W.keepIn K (.ref f1)=true)
    (a2:PySem.W.nsIn K mainGlobals "join_like" = some (some (.ref f2)))
    (l2:K.lookup f2=some ⟨oc2,od2,.func (PySem.W.fnOf "join_like" "join_like" (defArgs s_join_like) (defBody s_join_like) (defScope s_join_like) .none kV2 dc2 pm2 an2 cd2 ct2),sl2⟩)
    (c2:PySem.W.codeIn K cd2 "join_like" = true)
    (k2:PySem.W.keepIn K (.ref f2)=true)
    (a3:PySem.W.nsIn K mainGlobals "closed" = some (some (.ref f3)))
    (l3:K.lookup f3=some ⟨oc3,od3,.func (PySem.W.fnOf "closed" "closed" (defArgs s_closed) (defBody s_closed) (defScope s_closed) .none kV3 dc3 pm3 an3 cd3 ct3),sl3⟩)
    (c3:PySem.W.codeIn K cd3 "closed" = true)
    (k3:PySem.W.keepIn K (.ref f3)=true)
    (a4:PySem.W.nsIn K mainGlobals "nodes" = some (some (.ref f4)))
    (l4:K.lookup f4=some ⟨oc4,od4,.func (PySem.W.fnOf "nodes" "nodes" (defArgs s_nodes) (defBody s_nodes) (defScope s_nodes) .none kV4 dc4 pm4 an4 cd4 ct4),sl4⟩)
    (c4:PySem.W.codeIn K cd4 "nodes" = true)
    (k4:PySem.W.keepIn K (.ref f4)=true)
    (a5:PySem.W.nsIn K mainGlobals "cost_of" = some (some (.ref f5)))
    (l5:K.lookup f5=some ⟨oc5,od5,.func (PySem.W.fnOf "cost_of" "cost_of" (defArgs s_cost_of) (defBody s_cost_of) (defScope s_cost_of) .none kV5 dc5 pm5 an5 cd5 ct5),sl5⟩)
    (c5:PySem.W.codeIn K cd5 "cost_of" = true)
    (k5:PySem.W.keepIn K (.ref f5)=true)
    (a6:PySem.W.nsIn K mainGlobals "arm_leads" = some (some (.ref f6)))
    (l6:K.lookup f6=some ⟨oc6,od6,.func (PySem.W.fnOf "arm_leads" "arm_leads" (defArgs s_arm_leads) (defBody s_arm_leads) (defScope s_arm_leads) .none kV6 dc6 pm6 an6 cd6 ct6),sl6⟩)
    (c6:PySem.W.codeIn K cd6 "arm_leads" = true)
    (k6:PySem.W.keepIn K (.ref f6)=true)
    (a7:PySem.W.nsIn K mainGlobals "needed_leads" = some (some (.ref f7)))
    (l7:K.lookup f7=some ⟨oc7,od7,.func (PySem.W.fnOf "needed_leads" "needed_leads" (defArgs s_needed_leads) (defBody s_needed_leads) (defScope s_needed_leads) .none kV7 dc7 pm7 an7 cd7 ct7),sl7⟩)
    (c7:PySem.W.codeIn K cd7 "needed_leads" = true)
    (k7:PySem.W.keepIn K (.ref f7)=true)
    (a8:PySem.W.nsIn K mainGlobals "reached_leads" = some (some (.ref f8)))
    (l8:K.lookup f8=some ⟨oc8,od8,.func (PySem.W.fnOf "reached_leads" "reached_leads" (defArgs s_reached_leads) (defBody s_reached_leads) (defScope s_reached_leads) .none kV8 dc8 pm8 an8 cd8 ct8),sl8⟩)
    (c8:PySem.W.codeIn K cd8 "reached_leads" = true)
    (k8:PySem.W.keepIn K (.ref f8)=true)
    (a9:PySem.W.nsIn K mainGlobals "count_ways" = some (some (.ref f9)))
    (l9:K.lookup f9=some ⟨oc9,od9,.func (PySem.W.fnOf "count_ways" "count_ways" (defArgs s_count_ways) (defBody s_count_ways) (defScope s_count_ways) .none kV9 dc9 pm9 an9 cd9 ct9),sl9⟩)
    (c9:PySem.W.codeIn K cd9 "count_ways" = true)
    (k9:PySem.W.keepIn K (.ref f9)=true)
    (a10:PySem.W.nsIn K mainGlobals "all_picks" = some (some (.ref f10)))
    (l10:K.lookup f10=some ⟨oc10,od10,.func (PySem.W.fnOf "all_picks" "all_picks" (defArgs s_all_picks) (defBody s_all_picks) (defScope s_all_picks) .none kV10 dc10 pm10 an10 cd10 ct10),sl10⟩)
    (c10:PySem.W.codeIn K cd10 "all_picks" = true)
    (k10:PySem.W.keepIn K (.ref f10)=true)
    (a11:PySem.W.nsIn K mainGlobals "ordered" = some (some (.ref f11)))
    (l11:K.lookup f11=some ⟨oc11,od11,.func (PySem.W.fnOf "ordered" "ordered" (defArgs s_ordered) (defBody s_ordered) (defScope s_ordered) .none kV11 dc11 pm11 an11 cd11 ct11),sl11⟩)
    (c11:PySem.W.codeIn K cd11 "ordered" = true)
    (k11:PySem.W.keepIn K (.ref f11)=true)
    (a12:PySem.W.nsIn K mainGlobals "sharing" = some (some (.ref f12)))
    (l12:K.lookup f12=some ⟨oc12,od12,.func (PySem.W.fnOf "sharing" "sharing" (defArgs s_sharing) (defBody s_sharing) (defScope s_sharing) .none kV12 dc12 pm12 an12 cd12 ct12),sl12⟩)
    (c12:PySem.W.codeIn K cd12 "sharing" = true)
    (k12:PySem.W.keepIn K (.ref f12)=true)
    (a13:PySem.W.nsIn K mainGlobals "_law_whole" = some (some (.ref f13)))
    (l13:K.lookup f13=some ⟨oc13,od13,.func (PySem.W.fnOf "_law_whole" "_law_whole" (defArgs s_whole) (defBody s_whole) (defScope s_whole) .none kV13 dc13 pm13 an13 cd13 ct13),sl13⟩)
    (c13:PySem.W.codeIn K cd13 "_law_whole" = true)
    (k13:PySem.W.keepIn K (.ref f13)=true)
    (a14:PySem.W.nsIn K mainGlobals "_law_word" = some (some (.ref f14)))
    (l14:K.lookup f14=some ⟨oc14,od14,.func (PySem.W.fnOf "_law_word" "_law_word" (defArgs s_word) (defBody s_word) (defScope s_word) .none kV14 dc14 pm14 an14 cd14 ct14),sl14⟩)
    (c14:PySem.W.codeIn K cd14 "_law_word" = true)
    (k14:PySem.W.keepIn K (.ref f14)=true)
    (a15:PySem.W.nsIn K mainGlobals "_law_number" = some (some (.ref f15)))
    (l15:K.lookup f15=some ⟨oc15,od15,.func (PySem.W.fnOf "_law_number" "_law_number" (defArgs s_number) (defBody s_number) (defScope s_number) .none kV15 dc15 pm15 an15 cd15 ct15),sl15⟩)
    (c15:PySem.W.codeIn K cd15 "_law_number" = true)
    (k15:PySem.W.keepIn K (.ref f15)=true)
    (a16:PySem.W.nsIn K mainGlobals "_law_knot" = some (some (.ref f16)))
    (l16:K.lookup f16=some ⟨oc16,od16,.func (PySem.W.fnOf "_law_knot" "_law_knot" (defArgs s_knot) (defBody s_knot) (defScope s_knot) .none kV16 dc16 pm16 an16 cd16 ct16),sl16⟩)
    (c16:PySem.W.codeIn K cd16 "_law_knot" = true)
    (k16:PySem.W.keepIn K (.ref f16)=true)
    (a17:PySem.W.nsIn K mainGlobals "_law_term" = some (some (.ref f17)))
    (l17:K.lookup f17=some ⟨oc17,od17,.func (PySem.W.fnOf "_law_term" "_law_term" (defArgs s_term) (defBody s_term) (defScope s_term) .none kV17 dc17 pm17 an17 cd17 ct17),sl17⟩)
    (c17:PySem.W.codeIn K cd17 "_law_term" = true)
    (k17:PySem.W.keepIn K (.ref f17)=true)
    (a18:PySem.W.nsIn K mainGlobals "_law_made" = some (some (.ref f18)))
    (l18:K.lookup f18=some ⟨oc18,od18,.func (PySem.W.fnOf "_law_made" "_law_made" (defArgs s_made) (defBody s_made) (defScope s_made) .none kV18 dc18 pm18 an18 cd18 ct18),sl18⟩)
    (c18:PySem.W.codeIn K cd18 "_law_made" = true)
    (k18:PySem.W.keepIn K (.ref f18)=true)
    (a19:PySem.W.nsIn K mainGlobals "_law_key" = some (some (.ref f19)))
    (l19:K.lookup f19=some ⟨oc19,od19,.func (PySem.W.fnOf "_law_key" "_law_key" (defArgs s_key) (defBody s_key) (defScope s_key) .none kV19 dc19 pm19 an19 cd19 ct19),sl19⟩)
    (c19:PySem.W.codeIn K cd19 "_law_key" = true)
    (k19:PySem.W.keepIn K (.ref f19)=true)
    (a20:PySem.W.nsIn K mainGlobals "_law_costs" = some (some (.ref f20)))
    (l20:K.lookup f20=some ⟨oc20,od20,.func (PySem.W.fnOf "_law_costs" "_law_costs" (defArgs s_costs) (defBody s_costs) (defScope s_costs) .none kV20 dc20 pm20 an20 cd20 ct20),sl20⟩)
    (c20:PySem.W.codeIn K cd20 "_law_costs" = true)
    (k20:PySem.W.keepIn K (.ref f20)=true)
    (a21:PySem.W.nsIn K mainGlobals "_law_cost" = some (some (.ref f21)))
    (l21:K.lookup f21=some ⟨oc21,od21,.func (PySem.W.fnOf "_law_cost" "_law_cost" (defArgs s_cost) (defBody s_cost) (defScope s_cost) .none kV21 dc21 pm21 an21 cd21 ct21),sl21⟩)
    (c21:PySem.W.codeIn K cd21 "_law_cost" = true)
    (k21:PySem.W.keepIn K (.ref f21)=true)
    (a22:PySem.W.nsIn K mainGlobals "_law_arms" = some (some (.ref f22)))
    (l22:K.lookup f22=some ⟨oc22,od22,.func (PySem.W.fnOf "_law_arms" "_law_arms" (defArgs s_arms) (defBody s_arms) (defScope s_arms) .none kV22 dc22 pm22 an22 cd22 ct22),sl22⟩)
    (c22:PySem.W.codeIn K cd22 "_law_arms" = true)
    (k22:PySem.W.keepIn K (.ref f22)=true)
    (a23:PySem.W.nsIn K mainGlobals "_law_row_fine" = some (some (.ref f23)))
    (l23:K.lookup f23=some ⟨oc23,od23,.func (PySem.W.fnOf "_law_row_fine" "_law_row_fine" (defArgs s_row_fine) (defBody s_row_fine) (defScope s_row_fine) .none kV23 dc23 pm23 an23 cd23 ct23),sl23⟩)
    (c23:PySem.W.codeIn K cd23 "_law_row_fine" = true)
    (k23:PySem.W.keepIn K (.ref f23)=true)
    (a24:PySem.W.nsIn K mainGlobals "_law_choice_fine" = some (some (.ref f24)))
    (l24:K.lookup f24=some ⟨oc24,od24,.func (PySem.W.fnOf "_law_choice_fine" "_law_choice_fine" (defArgs s_choice_fine) (defBody s_choice_fine) (defScope s_choice_fine) .none kV24 dc24 pm24 an24 cd24 ct24),sl24⟩)
    (c24:PySem.W.codeIn K cd24 "_law_choice_fine" = true)
    (k24:PySem.W.keepIn K (.ref f24)=true)
    (a25:PySem.W.nsIn K mainGlobals "_law_nodes" = some (some (.ref f25)))
    (l25:K.lookup f25=some ⟨oc25,od25,.func (PySem.W.fnOf "_law_nodes" "_law_nodes" (defArgs s_lnodes) (defBody s_lnodes) (defScope s_lnodes) .none kV25 dc25 pm25 an25 cd25 ct25),sl25⟩)
    (c25:PySem.W.codeIn K cd25 "_law_nodes" = true)
    (k25:PySem.W.keepIn K (.ref f25)=true)
    (a26:PySem.W.nsIn K mainGlobals "_law_ways" = some (some (.ref f26)))
    (l26:K.lookup f26=some ⟨oc26,od26,.func (PySem.W.fnOf "_law_ways" "_law_ways" (defArgs s_ways) (defBody s_ways) (defScope s_ways) .none kV26 dc26 pm26 an26 cd26 ct26),sl26⟩)
    (c26:PySem.W.codeIn K cd26 "_law_ways" = true)
    (k26:PySem.W.keepIn K (.ref f26)=true)
    (a27:PySem.W.nsIn K mainGlobals "_law_asked" = some (some (.ref f27)))
    (l27:K.lookup f27=some ⟨oc27,od27,.func (PySem.W.fnOf "_law_asked" "_law_asked" (defArgs s_asked) (defBody s_asked) (defScope s_asked) .none kV27 dc27 pm27 an27 cd27 ct27),sl27⟩)
    (c27:PySem.W.codeIn K cd27 "_law_asked" = true)
    (k27:PySem.W.keepIn K (.ref f27)=true)
    (a28:PySem.W.nsIn K mainGlobals "_law_right" = some (some (.ref f28)))
    (l28:K.lookup f28=some ⟨oc28,od28,.func (PySem.W.fnOf "_law_right" "_law_right" (defArgs s_right) (defBody s_right) (defScope s_right) .none kV28 dc28 pm28 an28 cd28 ct28),sl28⟩)
    (c28:PySem.W.codeIn K cd28 "_law_right" = true)
    (k28:PySem.W.keepIn K (.ref f28)=true)
    (a29:PySem.W.nsIn K mainGlobals "law" = some (some (.ref f29)))
    (l29:K.lookup f29=some ⟨oc29,od29,.func (PySem.W.fnOf "law" "law" (defArgs s_law) (defBody s_law) (defScope s_law) .none kV29 dc29 pm29 an29 cd29 ct29),sl29⟩)
    (c29:PySem.W.codeIn K cd29 "law" = true)
    (k29:PySem.W.keepIn K (.ref f29)=true)
    (g_MOST_WAYS:PySem.W.nsIn K mainGlobals "MOST_WAYS" = some (some (.int 200 t_MOST_WAYS)))
    (x_TooWide:PySem.W.nsIn K mainGlobals "TooWide" = some (some (.ref c_TooWide)))
    (xEx:PySem.W.excIn K c_TooWide [.type "ValueError",.type "Exception",.type "BaseException",.type "object"] "ValueError.__new__" = true)
    (mSE:PySem.W.exmOne K (.ref c_TooWide) (.ref c_TooWide)=some true)
    (z0:PySem.W.nsIn K mainGlobals "len" = some none)
    (z1:PySem.W.nsIn K mainGlobals "min" = some none)
    (z2:PySem.W.nsIn K mainGlobals "max" = some none)
    (z3:PySem.W.nsIn K mainGlobals "sum" = some none)
    (z4:PySem.W.nsIn K mainGlobals "range" = some none)
    (z5:PySem.W.nsIn K mainGlobals "enumerate" = some none)
    (z6:PySem.W.nsIn K mainGlobals "isinstance" = some none)
    (z7:PySem.W.nsIn K mainGlobals "tuple" = some none)
    (z8:PySem.W.nsIn K mainGlobals "int" = some none)
    (z9:PySem.W.nsIn K mainGlobals "bool" = some none)
    (z10:PySem.W.nsIn K mainGlobals "str" = some none)
    (z11:PySem.W.nsIn K mainGlobals "list" = some none)
    (z12:PySem.W.nsIn K mainGlobals "dict" = some none)
    (z13:PySem.W.nsIn K mainGlobals "all" = some none)
    (z14:PySem.W.nsIn K mainGlobals "sorted" = some none)
    (z15:PySem.W.nsIn K mainGlobals "reversed" = some none)
    (z16:PySem.W.nsIn K mainGlobals "set" = some none) :
    ∃ fd:FuncData,(∀ (s:Shared) (v:Value),BindsTo s fd ⟨[v], []⟩ [("_law_script",v)])∧∀ base:Heap,K.In base→base.Ns mainGlobals mg→FnOk l.prog w K mg base CX0 6 fa fd ["_law_script"] (spLaw K):=by
  have e:=hfa.symm.trans (PySem.W.mg_of X G a29)
  cases e
  have B:Blt mg:=⟨PySem.W.mg_none_of X G z0,PySem.W.mg_none_of X G z1,PySem.W.mg_none_of X G z2,PySem.W.mg_none_of X G z3,PySem.W.mg_none_of X G z4,PySem.W.mg_none_of X G z5,PySem.W.mg_none_of X G z6,PySem.W.mg_none_of X G z7,PySem.W.mg_none_of X G z8,PySem.W.mg_none_of X G z9,PySem.W.mg_none_of X G z10,PySem.W.mg_none_of X G z11⟩
  have b_dict:=PySem.W.mg_none_of X G z12
  have b_all:=PySem.W.mg_none_of X G z13
  have b_sorted:=PySem.W.mg_none_of X G z14
  have b_reversed:=PySem.W.mg_none_of X G z15
  have b_set:=PySem.W.mg_none_of X G z16
  have oTooWide:Exc K mg "TooWide" c_TooWide:=⟨PySem.W.mg_of X G x_TooWide,xEx⟩
  have Z:TopB K mg c_TooWide:=⟨⟨_,PySem.W.mg_of X G g_MOST_WAYS⟩,oTooWide⟩
  have F_mark:=fun_mk (st:=s_mark) l0 c0 k0
  have D_mark:Def K mg "mark" s_mark ["term", "leads"]:=⟨_,_,F_mark,PySem.W.mg_of X G a0,F_mark.binds fun _ _ _ _ _ _ us hl=>len2_ (fun _ _=>rfl) us hl⟩
  have F_join_classes:=fun_mk (st:=s_join_classes) l1 c1 k1
  have D_join_classes:Def K mg "join_classes" s_join_classes ["leads", "a", "b"]:=⟨_,_,F_join_classes,PySem.W.mg_of X G a1,F_join_classes.binds fun _ _ _ _ _ _ us hl=>len3_ (fun _ _ _=>rfl) us hl⟩
  have F_join_like:=fun_mk (st:=s_join_like) l2 c2 k2
  have D_join_like:Def K mg "join_like" s_join_like ["terms", "leads"]:=⟨_,_,F_join_like,PySem.W.mg_of X G a2,F_join_like.binds fun _ _ _ _ _ _ us hl=>len2_ (fun _ _=>rfl) us hl⟩
  have F_closed:=fun_mk (st:=s_closed) l3 c3 k3
  have D_closed:Def K mg "closed" s_closed ["terms", "edges"]:=⟨_,_,F_closed,PySem.W.mg_of X G a3,F_closed.binds fun _ _ _ _ _ _ us hl=>len2_ (fun _ _=>rfl) us hl⟩
  have F_nodes:=fun_mk (st:=s_nodes) l4 c4 k4
  have D_nodes:Def K mg "nodes" s_nodes ["terms", "leads"]:=⟨_,_,F_nodes,PySem.W.mg_of X G a4,F_nodes.binds fun _ _ _ _ _ _ us hl=>len2_ (fun _ _=>rfl) us hl⟩
  have F_cost_of:=fun_mk (st:=s_cost_of) l5 c5 k5
  have D_cost_of:Def K mg "cost_of" s_cost_of ["term", "costs"]:=⟨_,_,F_cost_of,PySem.W.mg_of X G a5,F_cost_of.binds fun _ _ _ _ _ _ us hl=>len2_ (fun _ _=>rfl) us hl⟩
  have F_arm_leads:=fun_mk (st:=s_arm_leads) l6 c6 k6
  have D_arm_leads:Def K mg "arm_leads" s_arm_leads ["term", "leads"]:=⟨_,_,F_arm_leads,PySem.W.mg_of X G a6,F_arm_leads.binds fun _ _ _ _ _ _ us hl=>len2_ (fun _ _=>rfl) us hl⟩
  have F_needed_leads:=fun_mk (st:=s_needed_leads) l7 c7 k7
  have D_needed_leads:Def K mg "needed_leads" s_needed_leads ["terms", "leads", "picks", "lead"]:=⟨_,_,F_needed_leads,PySem.W.mg_of X G a7,F_needed_leads.binds fun _ _ _ _ _ _ us hl=>len4_ (fun _ _ _ _=>rfl) us hl⟩
  have F_reached_leads:=fun_mk (st:=s_reached_leads) l8 c8 k8
  have D_reached_leads:Def K mg "reached_leads" s_reached_leads ["terms", "leads", "heads", "lead"]:=⟨_,_,F_reached_leads,PySem.W.mg_of X G a8,F_reached_leads.binds fun _ _ _ _ _ _ us hl=>len4_ (fun _ _ _ _=>rfl) us hl⟩
  have F_count_ways:=fun_mk (st:=s_count_ways) l9 c9 k9
  have D_count_ways:Def K mg "count_ways" s_count_ways ["heads", "reached"]:=⟨_,_,F_count_ways,PySem.W.mg_of X G a9,F_count_ways.binds fun _ _ _ _ _ _ us hl=>len2_ (fun _ _=>rfl) us hl⟩
  have F_all_picks:=fun_mk (st:=s_all_picks) l10 c10 k10
  have D_all_picks:Def K mg "all_picks" s_all_picks ["heads", "reached"]:=⟨_,_,F_all_picks,PySem.W.mg_of X G a10,F_all_picks.binds fun _ _ _ _ _ _ us hl=>len2_ (fun _ _=>rfl) us hl⟩
  have F_ordered:=fun_mk (st:=s_ordered) l11 c11 k11
  have D_ordered:Def K mg "ordered" s_ordered ["terms", "leads", "picks", "needed"]:=⟨_,_,F_ordered,PySem.W.mg_of X G a11,F_ordered.binds fun _ _ _ _ _ _ us hl=>len4_ (fun _ _ _ _=>rfl) us hl⟩
  have F_sharing:=fun_mk (st:=s_sharing) l12 c12 k12
  have D_sharing:Def K mg "sharing" s_sharing ["terms", "leads", "costs", "k"]:=⟨_,_,F_sharing,PySem.W.mg_of X G a12,F_sharing.binds fun _ _ _ _ _ _ us hl=>len4_ (fun _ _ _ _=>rfl) us hl⟩
  have F_whole:=fun_mk (st:=s_whole) l13 c13 k13
  have D_whole:Def K mg "_law_whole" s_whole ["_law_found"]:=⟨_,_,F_whole,PySem.W.mg_of X G a13,F_whole.binds fun _ _ _ _ _ _ us hl=>len1_ (fun _=>rfl) us hl⟩
  have F_word:=fun_mk (st:=s_word) l14 c14 k14
  have D_word:Def K mg "_law_word" s_word ["_law_cell", "_law_head"]:=⟨_,_,F_word,PySem.W.mg_of X G a14,F_word.binds fun _ _ _ _ _ _ us hl=>len2_ (fun _ _=>rfl) us hl⟩
  have F_number:=fun_mk (st:=s_number) l15 c15 k15
  have D_number:Def K mg "_law_number" s_number ["_law_cell"]:=⟨_,_,F_number,PySem.W.mg_of X G a15,F_number.binds fun _ _ _ _ _ _ us hl=>len1_ (fun _=>rfl) us hl⟩
  have F_knot:=fun_mk (st:=s_knot) l16 c16 k16
  have D_knot:Def K mg "_law_knot" s_knot ["_law_cell", "_law_many", "_law_head"]:=⟨_,_,F_knot,PySem.W.mg_of X G a16,F_knot.binds fun _ _ _ _ _ _ us hl=>len3_ (fun _ _ _=>rfl) us hl⟩
  have F_term:=fun_mk (st:=s_term) l17 c17 k17
  have D_term:Def K mg "_law_term" s_term ["_law_cell", "_law_many", "_law_head"]:=⟨_,_,F_term,PySem.W.mg_of X G a17,F_term.binds fun _ _ _ _ _ _ us hl=>len3_ (fun _ _ _=>rfl) us hl⟩
  have F_made:=fun_mk (st:=s_made) l18 c18 k18
  have D_made:Def K mg "_law_made" s_made ["_law_script"]:=⟨_,_,F_made,PySem.W.mg_of X G a18,F_made.binds fun _ _ _ _ _ _ us hl=>len1_ (fun _=>rfl) us hl⟩
  have F_key:=fun_mk (st:=s_key) l19 c19 k19
  have D_key:Def K mg "_law_key" s_key ["_law_term_here"]:=⟨_,_,F_key,PySem.W.mg_of X G a19,F_key.binds fun _ _ _ _ _ _ us hl=>len1_ (fun _=>rfl) us hl⟩
  have F_costs:=fun_mk (st:=s_costs) l20 c20 k20
  have D_costs:Def K mg "_law_costs" s_costs ["_law_script", "_law_terms"]:=⟨_,_,F_costs,PySem.W.mg_of X G a20,F_costs.binds fun _ _ _ _ _ _ us hl=>len2_ (fun _ _=>rfl) us hl⟩
  have F_cost:=fun_mk (st:=s_cost) l21 c21 k21
  have D_cost:Def K mg "_law_cost" s_cost ["_law_term_here", "_law_costs_here"]:=⟨_,_,F_cost,PySem.W.mg_of X G a21,F_cost.binds fun _ _ _ _ _ _ us hl=>len2_ (fun _ _=>rfl) us hl⟩
  have F_arms:=fun_mk (st:=s_arms) l22 c22 k22
  have D_arms:Def K mg "_law_arms" s_arms ["_law_term_here"]:=⟨_,_,F_arms,PySem.W.mg_of X G a22,F_arms.binds fun _ _ _ _ _ _ us hl=>len1_ (fun _=>rfl) us hl⟩
  have F_row_fine:=fun_mk (st:=s_row_fine) l23 c23 k23
  have D_row_fine:Def K mg "_law_row_fine" s_row_fine ["_law_row", "_law_terms", "_law_leads", "_law_seen"]:=⟨_,_,F_row_fine,PySem.W.mg_of X G a23,F_row_fine.binds fun _ _ _ _ _ _ us hl=>len4_ (fun _ _ _ _=>rfl) us hl⟩
  have F_choice_fine:=fun_mk (st:=s_choice_fine) l24 c24 k24
  have D_choice_fine:Def K mg "_law_choice_fine" s_choice_fine ["_law_choice", "_law_terms", "_law_leads", "_law_lead"]:=⟨_,_,F_choice_fine,PySem.W.mg_of X G a24,F_choice_fine.binds fun _ _ _ _ _ _ us hl=>len4_ (fun _ _ _ _=>rfl) us hl⟩
  have F_lnodes:=fun_mk (st:=s_lnodes) l25 c25 k25
  have D_lnodes:Def K mg "_law_nodes" s_lnodes ["_law_terms", "_law_leads", "_law_lead"]:=⟨_,_,F_lnodes,PySem.W.mg_of X G a25,F_lnodes.binds fun _ _ _ _ _ _ us hl=>len3_ (fun _ _ _=>rfl) us hl⟩
  have F_ways:=fun_mk (st:=s_ways) l26 c26 k26
  have D_ways:Def K mg "_law_ways" s_ways ["_law_terms", "_law_leads", "_law_lead"]:=⟨_,_,F_ways,PySem.W.mg_of X G a26,F_ways.binds fun _ _ _ _ _ _ us hl=>len3_ (fun _ _ _=>rfl) us hl⟩
  have F_asked:=fun_mk (st:=s_asked) l27 c27 k27
  have D_asked:Def K mg "_law_asked" s_asked ["_law_script", "_law_terms"]:=⟨_,_,F_asked,PySem.W.mg_of X G a27,F_asked.binds fun _ _ _ _ _ _ us hl=>len2_ (fun _ _=>rfl) us hl⟩
  have F_right:=fun_mk (st:=s_right) l28 c28 k28
  have D_right:Def K mg "_law_right" s_right ["_law_found", "_law_terms", "_law_leads", "_law_costs_here", "_law_k"]:=⟨_,_,F_right,PySem.W.mg_of X G a28,F_right.binds fun _ _ _ _ _ _ us hl=>len5_ (fun _ _ _ _ _=>rfl) us hl⟩
  have F_law:=fun_mk (st:=s_law) l29 c29 k29
  refine ⟨PySem.W.fnOf "law" "law" (defArgs s_law) (defBody s_law) (defScope s_law) .none kV29 dc29 pm29 an29 cd29 ct29,fun s v => .of_eq rfl,fun base _ _ => ?_⟩
  have h_mark:=ok_mark (P:=l.prog) (w:=w) (base:=base) B D_mark
  have h_join_classes:=ok_join_classes (P:=l.prog) (w:=w) (base:=base) B D_join_classes
  have h_join_like:=ok_join_like B h_mark h_join_classes D_join_like
  have h_closed:=ok_closed B h_join_classes h_join_like D_closed
  have h_nodes:=ok_nodes B h_mark D_nodes
  have h_cost_of:=ok_cost_of (P:=l.prog) (w:=w) (base:=base) D_cost_of
  have h_arm_leads:=ok_arm_leads (P:=l.prog) (w:=w) (base:=base) D_arm_leads
  have h_needed_leads:=ok_need B h_arm_leads D_needed_leads
  have h_reached_leads:=ok_reached B h_arm_leads D_reached_leads
  have h_count_ways:=ok_count (P:=l.prog) (w:=w) (base:=base) B D_count_ways
  have h_all_picks:=ok_all (P:=l.prog) (w:=w) (base:=base) B b_dict D_all_picks
  have h_ordered:=ok_ordered B b_all b_sorted h_arm_leads D_ordered
  have h_sharing:=ok_sharing B Z h_nodes h_reached_leads h_count_ways h_all_picks h_needed_leads h_ordered h_cost_of D_sharing
  have h_word:=ok_word2 (P:=l.prog) (w:=w) (base:=base) D_word
  have h_number:=ok_number (P:=l.prog) (w:=w) (base:=base) D_number
  have h_knot:=ok_knot B h_word D_knot
  have h_term:=ok_termM B h_word h_number h_knot D_term
  have h_made:=ok_made B h_term D_made
  have h_key:=ok_key (P:=l.prog) (w:=w) (base:=base) D_key
  have h_costs:=ok_costs B h_key D_costs
  have h_cost:=ok_costL B h_key D_cost
  have h_arms:=ok_armsL (P:=l.prog) (w:=w) (base:=base) B D_arms
  have h_whole:=ok_whole (P:=l.prog) (w:=w) (base:=base) B D_whole
  have h_row_fine:=ok_row B b_all h_whole h_arms D_row_fine
  have h_choice_fine:=ok_choice B b_reversed h_row_fine h_arms D_choice_fine
  have h_lnodes:=ok_lnodes B h_arms D_lnodes
  have h_ways:=ok_ways B b_set b_sorted h_lnodes D_ways
  have h_asked:=ok_asked (P:=l.prog) (w:=w) (base:=base) B D_asked
  have h_right:=ok_right B h_whole h_choice_fine h_cost D_right
  exact ok_law B b_dict oTooWide mSE h_made h_closed h_costs h_asked h_sharing h_ways h_right F_law
theorem walk {l:PySem.W.OpenLaw} {q:Program} {loose:List Str} {XP:(Str→Option Value)→Heap→Prop} {YP:World→Heap→Prop} {d:DefRec} {K:Params→PySem.W.Frag} (hn:l.most=some 63) (hdf:d.params.defaults = [])
    (hY:∀ (w:World) (h:Heap),YP w h→(K w.params).In h)
    (F:∀ (w:World) (mg:Str→Option Value) (fa:Addr) (h:Heap),(K w.params).In h→h.Ns mainGlobals mg→mg d.name=some (.ref fa) →
      ∃ fd:FuncData,(∀ (s:Shared) (u:Value),BindsTo s fd ⟨[u], []⟩ [("_law_script",u)])∧∀ base:Heap,(K w.params).In base→base.Ns mainGlobals mg→FnOk l.prog w (K w.params) mg base CX0 6 fa fd ["_law_script"] (spLaw (K w.params))) :
    PySem.W.WalkO q loose XP YP l.row.toRowW d [] (fun f vs=>PySem.call f vs) :=
  L2.walk_ofB (n:=63) (k:=6) (x := "_law_script") (CX:=fun _=>CX0) (sp:=fun w=>spLaw (K w.params)) hn (by decide) hdf ⟨rfl,by decide,by decide⟩ hY F (fun _ _ a ns hl hb hS=>⟨a,ns,rfl,hS,hl,hb,fun _=>rfl⟩) fun _ _ _ _ _ z=>z
end K65
open PySem PySem.W PyProof.Rows
set_option maxRecDepth 100000 in
set_option maxHeartbeats 0 in
theorem PySem.Challenge.cw_samewise_k65_sharing_walked_holds : PySem.Challenge.rw_samewise_k65_sharing_walked.Holds := by
  w_on;o_law;k_head; (case hw=>w_witness2)
  k_fill
  refine K65.walk (l:=PySem.Challenge.rw_samewise_k65_sharing_walked) rfl rfl (fun w h Y=>PySem.W.kIn_of Y) ?F
  case F =>
    intro w mg fa h KX G hmg
    refine' K65.all_mk KX G hmg ?a0 ?l0 ?c0 ?k0 ?a1 ?l1 ?c1 ?k1 ?a2 ?l2 ?c2 ?k2 ?a3 ?l3 ?c3 ?k3 ?a4 ?l4 ?c4 ?k4 ?a5 ?l5 ?c5 ?k5 ?a6 ?l6 ?c6 ?k6 ?a7 ?l7 ?c7 ?k7 ?a8 ?l8 ?c8 ?k8 ?a9 ?l9 ?c9 ?k9 ?a10 ?l10 ?c10 ?k10 ?a11 ?l11 ?c11 ?k11 ?a12 ?l12 ?c12 ?k12 ?a13 ?l13 ?c13 ?k13 ?a14 ?l14 ?c14 ?k14 ?a15 ?l15 ?c15 ?k15 ?a16 ?l16 ?c16 ?k16 ?a17 ?l17 ?c17 ?k17 ?a18 ?l18 ?c18 ?k18 ?a19 ?l19 ?c19 ?k19 ?a20 ?l20 ?c20 ?k20 ?a21 ?l21 ?c21 ?k21 ?a22 ?l22 ?c22 ?k22 ?a23 ?l23 ?c23 ?k23 ?a24 ?l24 ?c24 ?k24 ?a25 ?l25 ?c25 ?k25 ?a26 ?l26 ?c26 ?k26 ?a27 ?l27 ?c27 ?k27 ?a28 ?l28 ?c28 ?k28 ?a29 ?l29 ?c29 ?k29 ?g_MOST_WAYS ?x_TooWide ?xEx ?mSE ?z0 ?z1 ?z2 ?z3 ?z4 ?z5 ?z6 ?z7 ?z8 ?z9 ?z10 ?z11 ?z12 ?z13 ?z14 ?z15 ?z16
    (case a0=>k_is)
    (case l0=>k_is)
    (case c0=>k_is)
    (case k0=>k_is)
    (case a1=>k_is)
    (case l1=>k_is)
    (case c1=>k_is)
    (case k1=>k_is)
    (case a2=>k_is)
    (case l2=>k_is)
    (case c2=>k_is)
    (case k2=>k_is)
    (case a3=>k_is)
    (case l3=>k_is)
    (case c3=>k_is)
    (case k3=>k_is)
    (case a4=>k_is)
    (case l4=>k_is)
    (case c4=>k_is)
    (case k4=>k_is)
    (case a5=>k_is)
    (case l5=>k_is)
    (case c5=>k_is)
    (case k5=>k_is)
    (case a6=>k_is)
    (case l6=>k_is)
    (case c6=>k_is)
    (case k6=>k_is)
    (case a7=>k_is)
    (case l7=>k_is)
    (case c7=>k_is)
    (case k7=>k_is)
    (case a8=>k_is)
    (case l8=>k_is)
    (case c8=>k_is)
    (case k8=>k_is)
    (case a9=>k_is)
    (case l9=>k_is)
    (case c9=>k_is)
    (case k9=>k_is)
    (case a10=>k_is)
    (case l10=>k_is)
    (case c10=>k_is)
    (case k10=>k_is)
    (case a11=>k_is)
    (case l11=>k_is)
    (case c11=>k_is)
    (case k11=>k_is)
    (case a12=>k_is)
    (case l12=>k_is)
    (case c12=>k_is)
    (case k12=>k_is)
    (case a13=>k_is)
    (case l13=>k_is)
    (case c13=>k_is)
    (case k13=>k_is)
    (case a14=>k_is)
    (case l14=>k_is)
    (case c14=>k_is)
    (case k14=>k_is)
    (case a15=>k_is)
    (case l15=>k_is)
    (case c15=>k_is)
    (case k15=>k_is)
    (case a16=>k_is)
    (case l16=>k_is)
    (case c16=>k_is)
    (case k16=>k_is)
    (case a17=>k_is)
    (case l17=>k_is)
    (case c17=>k_is)
    (case k17=>k_is)
    (case a18=>k_is)
    (case l18=>k_is)
    (case c18=>k_is)
    (case k18=>k_is)
    (case a19=>k_is)
    (case l19=>k_is)
    (case c19=>k_is)
    (case k19=>k_is)
    (case a20=>k_is)
    (case l20=>k_is)
    (case c20=>k_is)
    (case k20=>k_is)
    (case a21=>k_is)
    (case l21=>k_is)
    (case c21=>k_is)
    (case k21=>k_is)
    (case a22=>k_is)
    (case l22=>k_is)
    (case c22=>k_is)
    (case k22=>k_is)
    (case a23=>k_is)
    (case l23=>k_is)
    (case c23=>k_is)
    (case k23=>k_is)
    (case a24=>k_is)
    (case l24=>k_is)
    (case c24=>k_is)
    (case k24=>k_is)
    (case a25=>k_is)
    (case l25=>k_is)
    (case c25=>k_is)
    (case k25=>k_is)
    (case a26=>k_is)
    (case l26=>k_is)
    (case c26=>k_is)
    (case k26=>k_is)
    (case a27=>k_is)
    (case l27=>k_is)
    (case c27=>k_is)
    (case k27=>k_is)
    (case a28=>k_is)
    (case l28=>k_is)
    (case c28=>k_is)
    (case k28=>k_is)
    (case a29=>k_is)
    (case l29=>k_is)
    (case c29=>k_is)
    (case k29=>k_is)
    (case g_MOST_WAYS=>k_is)
    (case x_TooWide=>k_is)
    (case xEx=>k_exc)
    (case mSE=>kts_exm)
    (case z0=>k_is)
    (case z1=>k_is)
    (case z2=>k_is)
    (case z3=>k_is)
    (case z4=>k_is)
    (case z5=>k_is)
    (case z6=>k_is)
    (case z7=>k_is)
    (case z8=>k_is)
    (case z9=>k_is)
    (case z10=>k_is)
    (case z11=>k_is)
    (case z12=>k_is)
    (case z13=>k_is)
    (case z14=>k_is)
    (case z15=>k_is)
    (case z16=>k_is)
#print axioms PySem.Challenge.cw_samewise_k65_sharing_walked_holds
