import PyProof.Rows.All
import Wide.All
import OpenK.AllK
import Wide.FinOn
import Lean
import PyProof.EqAt
import PyProof.EqKinds
import PyProof.TupleCall
import KE.KTryMore
import KE.KIntText
import KE.RegKTryMore
import PySem.Challenge.RW_samewise_k41_rules_taken
set_option Elab.async false
set_option linter.all false
namespace KHd
open PySem PySem.W PySem.Calls PyProof.Rows
noncomputable def pickL {α : Type} (l:List α) (is:List Nat):List α := is.filterMap fun i=>l[i]?
noncomputable def prg:Program:=PySem.Challenge.pw_samewise_k41_rules_taken
noncomputable def view:Program := { prg with main := { prg.main with body:=pickL prg.main.body [1,2,3,4,5,6,7,8,10,11,12,13,15,16,17,19,20,21,22,23,24,25,26,28,29,30,31,32,33,34,35,36,37,38,39,40,41,42,43] } }
local macro_rules | `(tactic| o_head $H) => `(tactic| (refine holds_open (q:=view) (loose := []) (Xt:=fun s=>xlAt view [] s && recOk (RowW.records PySem.Challenge.rw_samewise_k41_rules_taken.row.toRowW) s) (XP:=XL view []) (Yf:=Hook.obs $H) (Ya:=Hook.val $H) (YP:=Hook.says $H) (N:=5660) ?hl (Hook.of $H) (Hook.keeps $H) (fun s e=>xl_of s (Bool.and_eq_true_iff.mp e).1) XL.keeps (by rfl) (by rfl) (by rfl) (fun s e=>recFacts_of (Bool.and_eq_true_iff.mp e).2) (by rfl) (by first | assumption | decide +kernel) (by decide +kernel) ⟨rfl,rfl,rfl,rfl,rfl,by decide +kernel⟩ ?hw ?hc;case hl=>(intro w;kernel_rfl)))
set_option maxRecDepth 100000 in
set_option maxHeartbeats 0 in
open_top top for PySem.Challenge.rw_samewise_k41_rules_taken
end KHd
set_option Elab.async false
set_option linter.all false
set_option maxRecDepth 100000
set_option maxHeartbeats 4000000
namespace L2
open PySem PySem.Spec PyProof.Rows

noncomputable abbrev Key:=Sum Int Str
noncomputable def keyIs:Key→Value→Bool
  | .inl k,v=>Value.isInt k v
  | .inr x,v=>Value.isStrOf x v
noncomputable def keyH (w:World):Key→Int
  | .inl k=>hashInt k
  | .inr x=>hashStr w x
theorem keyIs_shape:∀ {k:Key} {v:Value},keyIs k v=true→(∃ i t,k=Sum.inl i∧v=Value.int i t)∨(∃ x t,k=Sum.inr x∧v=Value.str x t)
  | .inl i,v,h=>by
    obtain ⟨t,e⟩:=Value.isInt_shape (k:=i) (v:=v) h
    exact .inl ⟨i,t,rfl,e⟩
  | .inr x,v,h=>by
    obtain ⟨t,e⟩:=Value.isStrOf_shape (x:=x) (v:=v) h
    exact .inr ⟨x,t,rfl,e⟩
theorem keyIs_int (i:Int) (t:Tok):keyIs (.inl i) (.int i t)=true:=by simp [keyIs,Value.isInt]
theorem keyIs_str (x:Str) (t:Tok):keyIs (.inr x) (.str x t)=true:=by simp [keyIs,Value.isStrOf]
theorem key_ll (a b:Int):decide ((Sum.inl a:Key)=Sum.inl b)=(a == b):=by
  by_cases e:a=b
  · subst e;simp
  · have h:¬ (Sum.inl a:Key)=Sum.inl b:=fun q=>e (Sum.inl.inj q)
    rw [decide_eq_false h]
    exact (beq_eq_false_iff_ne.mpr e).symm
theorem key_rr (a b:Str):decide ((Sum.inr a:Key)=Sum.inr b)=decide (a=b):=by
  by_cases e:a=b
  · subst e;simp
  · have h:¬ (Sum.inr a:Key)=Sum.inr b:=fun q=>e (Sum.inr.inj q)
    rw [decide_eq_false h,decide_eq_false e]
theorem key_lr (a:Int) (b:Str):decide ((Sum.inl a:Key)=Sum.inr b)=false:=decide_eq_false (fun q=>nomatch q)
theorem key_rl (a:Str) (b:Int):decide ((Sum.inr a:Key)=Sum.inl b)=false:=decide_eq_false (fun q=>nomatch q)

noncomputable def mixKind (prog:Program) (w:World):PySem.KeyKind prog w Key where
  is:=keyIs
  hash:=keyH w
  inj:=fun v a b ha hb=>by
    rcases keyIs_shape ha with ⟨i,t,rfl,rfl⟩ | ⟨x,t,rfl,rfl⟩
    · rcases keyIs_shape hb with ⟨j,u,rfl,e⟩ | ⟨y,u,rfl,e⟩
      · injection e with e1 _;rw [e1]
      · exact nomatch e
    · rcases keyIs_shape hb with ⟨j,u,rfl,e⟩ | ⟨y,u,rfl,e⟩
      · exact nomatch e
      · injection e with e1 _;rw [e1]
  byValue:=fun k v h=>by
    rcases keyIs_shape h with ⟨i,t,rfl,rfl⟩ | ⟨x,t,rfl,rfl⟩ <;> rfl
  pyHash:=fun hv h=>by
    rcases keyIs_shape hv with ⟨i,t,rfl,rfl⟩ | ⟨x,t,rfl,rfl⟩
    · exact wpAny_pyHash_int h
    · exact wpAny_pyHash_str h
  eqBool:=fun hu hv h=>by
    rcases keyIs_shape hu with ⟨i,t,rfl,rfl⟩ | ⟨x,t,rfl,rfl⟩
    · rcases keyIs_shape hv with ⟨j,u,rfl,rfl⟩ | ⟨y,u,rfl,rfl⟩
      · rw [key_ll] at h;exact wpAny_eqBool_int h
      · rw [key_lr] at h;exact SeqAt.EqAt.int_str i t y u _ _ _ _ h
    · rcases keyIs_shape hv with ⟨j,u,rfl,rfl⟩ | ⟨y,u,rfl,rfl⟩
      · rw [key_rl] at h;exact SeqAt.EqAt.str_int x t j u _ _ _ _ h
      · rw [key_rr] at h;exact wpAny_eqBool_str h
  «strs» := fun k x t v h=>by
    rcases keyIs_shape h with ⟨i,u,rfl,e⟩ | ⟨y,u,rfl,e⟩
    · exact nomatch e
    · injection e with e1 _
      subst e1
      cases v <;> rfl

theorem mixKind_int (prog:Program) (w:World) (i:Int) (t:Tok):(mixKind prog w).is (.inl i) (.int i t)=true:=keyIs_int i t
theorem mixKind_str (prog:Program) (w:World) (x:Str) (t:Tok):(mixKind prog w).is (.inr x) (.str x t)=true:=keyIs_str x t
end L2

namespace L2
open PySem PySem.Spec PyProof.Rows

inductive V where
  | non | bl (b:Bool) | int (i:Int) | str (x:Str) | byt (b:Array UInt8) | flt (b:UInt64) | ref (a:Addr) | ty (n:String)
  deriving DecidableEq

noncomputable def RelV:V→Value→Prop
  | .non,u=>u=Value.none
  | .bl b,u=>u=Value.bool b
  | .int i,u=>∃ t,u=Value.int i t
  | .str x,u=>∃ t,u=Value.str x t
  | .byt b,u=>∃ t,u=Value.bytes b t
  | .flt b,u=>∃ t,u=Value.float b t
  | .ref a,u=>u=Value.ref a
  | .ty n,u=>u=Value.type n

noncomputable abbrev Vals:List V→List Value→Prop:=Paired RelV
theorem Vals.length {xs:List V} {us:List Value} (r:Vals xs us):xs.length=us.length:=Paired.length r
theorem Vals.get:∀ {xs:List V} {us:List Value} {i:Nat} {x:V},Vals xs us→xs[i]? = some x→∃ u,us[i]? = some u∧RelV x u
  | _,_,_,_,.nil,e=>by simp at e
  | _,_,0,_,.cons r _,e=>by simp at e;subst e;exact ⟨_,rfl,r⟩
  | _,_,i+1,x,.cons _ t,e=>by
    obtain ⟨u,h1,h2⟩:=Vals.get (i:=i) (x:=x) t (by simpa using e)
    exact ⟨u,by simpa using h1,h2⟩
theorem Vals.set {x:V} {u:Value} (r:RelV x u):∀ {xs:List V} {us:List Value} (i:Nat),Vals xs us→Vals (xs.set i x) (us.set i u)
  | _,_,_,.nil => .nil
  | _,_,0,.cons _ t => .cons r t
  | _,_,i+1,.cons q t => .cons q (Vals.set r i t)
theorem Vals.append:∀ {xs ys:List V} {us ws:List Value},Vals xs us→Vals ys ws→Vals (xs ++ ys) (us ++ ws)
  | _,_,_,_,.nil,s=>s
  | _,_,_,_,.cons r t,s => .cons r (Vals.append t s)
theorem Vals.take:∀ {xs:List V} {us:List Value} (n:Nat),Vals xs us→Vals (xs.take n) (us.take n)
  | _,_,0,_ => .nil
  | _,_,_+1,.nil => .nil
  | _,_,n+1,.cons r t => .cons r (Vals.take n t)
theorem Vals.drop:∀ {xs:List V} {us:List Value} (n:Nat),Vals xs us→Vals (xs.drop n) (us.drop n)
  | _,_,0,r=>r
  | _,_,_+1,.nil => .nil
  | _,_,n+1,.cons _ t=>Vals.drop n t

noncomputable def RelO:Option V→Option Value→Prop
  | some v,some u=>RelV v u
  | none,none=>True
  | _,_=>False
noncomputable def KV {κ : Type}:List (κ × V)→List (κ × Value)→Prop:=Paired fun (p : κ × V) (q : κ × Value)=>p.1=q.1∧RelV p.2 q.2

noncomputable def kV:Key→V
  | .inl i => .int i
  | .inr x => .str x

inductive HO where
    | lst (xs:List V)
    | tup (xs:List V)
    | dK (kvs:List (Key × V)) | dT (kvs:List (List Key × V))
    | set (S:Int→Bool) (n:Nat)
    | ins (C dx:Addr) (fs:List (Str × V))
    | own (x:Addr)
    | xd (fs:List (Str × V))
    | met (f x:Addr)
    | rng (lo hi:Int)
    | frz (o:Obj) (u:HO)
    | tbl (ps:Array Value)
    | ext (φ : Heap→Prop)

noncomputable abbrev Hp:=Addr→Option HO
noncomputable def upd (H:Hp) (a:Addr) (o:HO):Hp:=fun b=>if b=a then some o else H b
theorem upd_same {H:Hp} {a:Addr} {o:HO}:upd H a o a=some o:=by unfold upd;rw [if_pos rfl]
theorem upd_ne {H:Hp} {a b:Addr} {o:HO} (h:b≠a):upd H a o b=H b:=by unfold upd;rw [if_neg h]
theorem upd_upd {H:Hp} {a:Addr} {o u:HO}:upd (upd H a o) a u=upd H a u:=by
  funext b;unfold upd;split <;> rfl
theorem ne_of {H:Hp} {a b:Addr} {o u:HO} (h:H a=some o) (h':H b=some u) (d:o≠u):a≠b:=by
  intro e;subst e;rw [h] at h';exact d (Option.some.inj h')
theorem ne_of_none {H:Hp} {a b:Addr} {o:HO} (h:H a=some o) (h':H b=none):a≠b:=by
  intro e;subst e;rw [h] at h';cases h'

noncomputable def IsTupN (h:Heap) (a:Addr) (items:Array Value):Prop := ∃ o,h.get? a=some o∧o.cls = .type "tuple" ∧ ∃ n,o.data = .seq items n∧o.dict=none
theorem IsTupN.tup {h:Heap} {a:Addr} {items:Array Value} (x:IsTupN h a items):IsTup h a items:=let ⟨o,e,c,n,d,_⟩:=x; ⟨o,e,c,n,d⟩
theorem IsTupN.new (h:Heap) (items:Array Value):IsTupN (h.push { cls := .type "tuple",data := .seq items }) h.objs.size items:=⟨_,Heap.get?_push_size _ rfl,rfl,_,rfl,rfl⟩
section
variable (P:Program) (w:World)
noncomputable def ObjOk (H:Hp) (h:Heap) (a:Addr):HO→Prop
  | .lst xs=>xs.length≤sizeLine∧∃ (its:List Value) (n:Nat),Vals xs its∧h.get? a=some { cls := .type "list",data := .seq its.toArray n }
  | .tup xs=>xs.length≤sizeLine∧∃ its:List Value,Vals xs its∧IsTupN h a its.toArray
  | .dK kvs=>kvs.length≤sizeLine∧(a == sysModules)=false∧∃ vs,KV kvs vs∧h.DictOf (mixKind P w) a vs
  | .dT kvs=>kvs.length≤sizeLine∧(a == sysModules)=false∧∃ xs:List (List Key × Addr × Value),
      Paired (fun (p:List Key × V) (q:List Key × Addr × Value)=>p.1=q.1∧H q.2.1=some (.tup (p.1.map kV))∧RelV p.2 q.2.2) kvs xs ∧
      ∃ o es ep,h.get? a=some o∧o.ExactDict∧o.data = .dict es ep∧es.toList=xs.map (entryOfKey (tupleKind (mixKind P w)))∧(xs.map (·.1)).Nodup
  | .set S n=>h.SetOf (intKind P w) a S n
  | .ins C dx fs=>H dx=some (.own a)∧fs.length≤1000∧dx≠a∧h.get? a=some (PySem.W.instObj C dx) ∧
      ∃ mA,h.Ns1 dx mA∧(∀ f,RelO (fs.lookup f) (mA f))∧PySem.Within mA (fs.map (·.1))
  | .own _=>∃ o,h.get? a=some o
  | .xd fs=>∃ mA,h.Ns1 a mA∧∀ f,RelO (fs.lookup f) (mA f)
  | .rng lo hi=>∃ t u v,h.get? a=some { cls := .type "range",data := .fields #[.int lo t,.int hi u,.int 1 v] }
  | .frz o u=>h.get? a=some o∧ObjOk H h a u
  | .tbl ps=>h.get? a=some { cls := .none,data := .fields ps }
  | .met f x=>h.get? a=some (PySem.W.methodObj (.ref f) (.ref x))
  | .ext φ => φ h∧(∃ o,h.get? a=some o)∧∀ h1 h2:Heap, φ h1→(∀ o,h1.get? a=some o→h2.get? a=some o) → φ h2
noncomputable def HOk (H:Hp) (h:Heap):Prop := ∀ a o,H a=some o→ObjOk P w H h a o
end

section
variable {P:Program} {w:World} {H H':Hp} {h h':Heap} {a:Addr} {o:HO}
theorem ObjOk.lt (x:ObjOk P w H h a o):a < h.objs.size:=by
  cases o with
  | lst xs=>obtain ⟨_,_,_,_,e⟩:=x;exact Heap.lt_size e
  | tup xs=>obtain ⟨_,_,_,p⟩:=x;exact p.tup.lt
  | dK kvs=>obtain ⟨_,_,_,_,o,_,_,e,_⟩:=x;exact Heap.lt_size e
  | dT kvs=>obtain ⟨_,_,_,_,o,_,_,e,_⟩:=x;exact Heap.lt_size e
  | set S n=>obtain ⟨o,_,_,_,e,_⟩:=x;exact Heap.lt_size e
  | ins C dx fs=>obtain ⟨_,_,_,e,_⟩:=x;exact Heap.lt_size e
  | own y=>obtain ⟨_,e⟩:=x;exact Heap.lt_size e
  | xd fs=>obtain ⟨_,⟨_,_,_,e,_⟩,_⟩:=x;exact Heap.lt_size e
  | rng lo hi=>obtain ⟨_,_,_,e⟩:=x;exact Heap.lt_size e
  | frz ob u=>obtain ⟨e,_⟩:=x;exact Heap.lt_size e
  | tbl ps=>exact Heap.lt_size (show h.get? a=some _ from x)
  | met f y=>exact Heap.lt_size (show h.get? a=some _ from x)
  | ext φ => obtain ⟨_,⟨_,e⟩,_⟩:=x;exact Heap.lt_size e
theorem Paired.mapP {α β : Type} {F G : α → β → Prop}:∀ {l₁ : List α} {l₂ : List β},Paired F l₁ l₂ → (∀ a b,F a b→G a b)→Paired G l₁ l₂
  | _,_,.nil,_ => .nil
  | _,_,.cons r t,f => .cons (f _ _ r) (Paired.mapP t f)
theorem ObjOk.stay (x:ObjOk P w H h a o) (k:∀ b u,(b=a∨H b=some (.own a))→h.get? b=some u→h'.get? b=some u)
    (ho:∀ b,H b=some (.own a)→H' b=some (.own a)) (ht:∀ b xs,H b=some (.tup xs)→H' b=some (.tup xs)):ObjOk P w H' h' a o:=by
  induction o with
  | lst xs=>obtain ⟨z,its,n,r,e⟩:=x;exact ⟨z,its,n,r,k _ _ (.inl rfl) e⟩
  | tup xs=>obtain ⟨z,its,r,ob,e,c⟩:=x;exact ⟨z,its,r,ob,k _ _ (.inl rfl) e,c⟩
  | dK kvs=>obtain ⟨z,y,vs,r,ob,es,ep,e,c⟩:=x;exact ⟨z,y,vs,r,ob,es,ep,k _ _ (.inl rfl) e,c⟩
  | dT kvs =>
    obtain ⟨z,y,xs,r,ob,es,ep,e,c⟩:=x
    exact ⟨z,y,xs,Paired.mapP r fun p q z=>⟨z.1,ht _ _ z.2.1,z.2.2⟩,ob,es,ep,k _ _ (.inl rfl) e,c⟩
  | set S n=>obtain ⟨ob,es,ep,t,e,c⟩:=x;exact ⟨ob,es,ep,t,k _ _ (.inl rfl) e,c⟩
  | ins C dx fs =>
    obtain ⟨d,z,ne,e,mA,⟨od,es,ep,e2,c⟩,r⟩:=x
    exact ⟨ho _ d,z,ne,k _ _ (.inl rfl) e,mA,⟨od,es,ep,k _ _ (.inr d) e2,c⟩,r⟩
  | own y=>obtain ⟨ob,e⟩:=x;exact ⟨ob,k _ _ (.inl rfl) e⟩
  | xd fs=>obtain ⟨mA,⟨od,es,ep,e,c⟩,r⟩:=x;exact ⟨mA,⟨od,es,ep,k _ _ (.inl rfl) e,c⟩,r⟩
  | rng lo hi=>obtain ⟨t,u,v,e⟩:=x;exact ⟨t,u,v,k _ _ (.inl rfl) e⟩
  | frz ob u ih=>obtain ⟨e,q⟩:=x;exact ⟨k _ _ (.inl rfl) e,ih q⟩
  | tbl ps =>
    have e:h.get? a=some { cls := .none,data := .fields ps }:=x
    show h'.get? a=some { cls := .none,data := .fields ps }
    exact k a _ (.inl rfl) e
  | met f y =>
    have e:h.get? a=some (PySem.W.methodObj (.ref f) (.ref y)):=x
    show h'.get? a=some (PySem.W.methodObj (.ref f) (.ref y))
    exact k a _ (.inl rfl) e
  | ext φ => obtain ⟨p,⟨o,e⟩,st⟩:=x;exact ⟨st _ _ p fun o q=>k _ _ (.inl rfl) q,⟨o,k _ _ (.inl rfl) e⟩,st⟩
theorem HOk.lt (x:HOk P w H h) (e:H a=some o):a < h.objs.size:=(x a o e).lt
theorem HOk.fresh (x:HOk P w H h) (e:h.objs.size≤a):H a=none:=by
  cases q:H a with
  | none=>rfl
  | some u=>exact absurd (Nat.lt_of_lt_of_le (x.lt q) e) (Nat.lt_irrefl _)
theorem HOk.kept (x:HOk P w H h) (k:∀ b u,h.get? b=some u→h'.get? b=some u):HOk P w H h':=fun a o e =>
  (x a o e).stay (fun b u _ q=>k b u q) (fun _ q=>q) fun _ _ q=>q
theorem HOk.laid (x:HOk P w H h) (k:∀ b u,h.get? b=some u→h'.get? b=some u) (hp:h.objs.size≤a) (new:ObjOk P w (upd H a o) h' a o):HOk P w (upd H a o) h':=fun b u e=>by
  have hn:=x.fresh hp
  by_cases hb:b=a
  · subst hb;rw [upd_same] at e;cases e;exact new
  · rw [upd_ne hb] at e
    exact (x b u e).stay (fun c v _ q=>k c v q) (fun c q=>by rw [upd_ne (ne_of_none q hn)];exact q) fun c xs q=>by rw [upd_ne (ne_of_none q hn)];exact q
end

noncomputable def Rd (H:Hp) (a:Addr) (u:HO):Prop:=H a=some u∨∃ o,H a=some (.frz o u)
theorem Rd.ok {P:Program} {w:World} {H:Hp} {h:Heap} {a:Addr} {u:HO} (r:Rd H a u) (x:HOk P w H h):ObjOk P w H h a u:=by
  rcases r with r | ⟨o,r⟩
  · exact x a u r
  · obtain ⟨_,q⟩:=x a _ r
    exact q
noncomputable def Mut:Option HO→Prop
  | some (.lst _)=>True
  | some (.dK _)=>True
  | some (.dT _)=>True
  | some (.set _ _)=>True
  | some (.ins _ _ _)=>True
  | some (.ext _)=>True
  | _=>False
section
variable {P:Program} {w:World} {H:Hp} {h h':Heap} {x e:Addr} {o':HO}
theorem HOk.write (ok:HOk P w H h) (mu:Mut (H x)) (he:e=x∨H e=some (.own x)) (k:∀ b u,b≠e→h.get? b=some u→h'.get? b=some u) (heo:∃ u,h'.get? e=some u)
    (new:ObjOk P w (upd H x o') h' x o'):HOk P w (upd H x o') h':=fun b u q=>by
  have nown:∀ c y,H c=some (.own y)→c≠x:=fun c y r z=>by subst z;rw [r] at mu;exact mu
  have ntup:∀ c xs,H c=some (.tup xs)→c≠x:=fun c xs r z=>by subst z;rw [r] at mu;exact mu
  by_cases hb:b=x
  · subst hb;rw [upd_same] at q;cases q;exact new
  · rw [upd_ne hb] at q
    by_cases hbe:b=e
    · have q':H b=some (.own x):=by
        rcases he with z | z
        · exact absurd (hbe.trans z) hb
        · rw [hbe];exact z
      rw [q] at q';cases q'
      obtain ⟨v,hv⟩:=heo
      exact ⟨v,by rw [hbe];exact hv⟩
    · refine (ok b u q).stay (fun c v hc r=>k c v ?_ r) (fun c r=>by rw [upd_ne (nown c b r)];exact r) fun c xs r=>by rw [upd_ne (ntup c xs r)];exact r
      rcases hc with rfl | hc
      · exact hbe
      · rintro rfl
        rcases he with z | z
        · exact nown c b hc z
        · rw [hc] at z;cases z;exact hb rfl
end

structure Un (fs ex:List Addr) (H H':Hp) (h h':Heap):Prop where
  keep:∀ b o,h.get? b=some o→H b=none→b ∉ fs→b ∉ ex→h'.get? b=some o
  slot:∀ b o,h.get? b=some o→H b=none→b∈fs→b ∉ ex→∃ sl,h'.get? b=some { o with slots:=sl }
  free:∀ b o,h.get? b=some o→H b=none→b ∉ ex→H' b=none
  there:∀ b o,h.get? b=some o→b ∉ ex→∃ o',h'.get? b=some o'
  tups:∀ b xs,H b=some (.tup xs)→H' b=some (.tup xs)
  frzs:∀ b o u,H b=some (.frz o u)→H' b=some (.frz o u)
  tbls:∀ b ps,H b=some (.tbl ps)→∃ more,H' b=some (.tbl (ps ++ more))
section
variable {fs fs' ex ex':List Addr} {H H1 H2:Hp} {h h1 h2 h':Heap} {a x e:Addr} {o:HO}
theorem Un.any (u:Un fs ex H H1 h h1) {b:Addr} {ob:Obj} (q:h.get? b=some ob) (n:H b=none) (hx:b ∉ ex):∃ sl,h1.get? b=some { ob with slots:=sl }:=by
  by_cases hb:b∈fs
  · exact u.slot b ob q n hb hx
  · exact ⟨ob.slots,u.keep b ob q n hb hx⟩
theorem Un.kept (k:∀ b u,h.get? b=some u→h'.get? b=some u):Un fs ex H H h h' :=
  ⟨fun b ob q _ _ _=>k b ob q,fun b ob q _ _ _=>⟨ob.slots,k b ob q⟩,fun _ _ _ n _=>n,fun b ob q _=>⟨ob,k b ob q⟩,fun _ _ q=>q,fun _ _ _ q=>q,fun _ ps q=>⟨#[],by rw [q];simp⟩⟩
theorem Un.refl:Un fs ex H H h h:=Un.kept fun _ _ q=>q
theorem Un.laid (k:∀ b u,h.get? b=some u→h'.get? b=some u) (hp:h.objs.size≤a) (hn:H a=none):Un fs ex H (upd H a o) h h' where
  keep:=fun b u q _ _ _=>k b u q
  slot:=fun b u q _ _ _=>⟨u.slots,k b u q⟩
  free:=fun b u q n _=>by rw [upd_ne (Nat.ne_of_lt (Nat.lt_of_lt_of_le (Heap.lt_size q) hp))];exact n
  there:=fun b u q _=>⟨u,k b u q⟩
  tups:=fun b xs q=>by rw [upd_ne (ne_of_none q hn)];exact q
  frzs:=fun b u xs q=>by rw [upd_ne (ne_of_none q hn)];exact q
  tbls:=fun b ps q=>⟨#[],by rw [upd_ne (ne_of_none q hn),q];simp⟩
theorem Un.write (mu:Mut (H x)) (he:e=x∨H e=some (.own x)) (k:∀ b u,b≠e→h.get? b=some u→h'.get? b=some u) (heo:∃ u,h'.get? e=some u):Un fs ex H (upd H x o) h h':=by
  have hx:∀ b,H b=none→b≠x:=fun b n z=>by subst z;rw [n] at mu;exact mu
  have hb:∀ b,H b=none→b≠e:=fun b n z=>by
    subst z
    rcases he with r | r
    · exact hx b n r
    · rw [n] at r;cases r
  have hm:∀ b u,H b=some u→¬ Mut (some u)→b≠x:=fun b u q nm z=>by subst z;rw [q] at mu;exact nm mu
  refine ⟨fun b u q n _ _=>k b u (hb b n) q,fun b u q n _ _=>⟨u.slots,k b u (hb b n) q⟩,fun b u q n _=>by rw [upd_ne (hx b n)];exact n,fun b u q _ => ?_,
    fun b xs q=>by rw [upd_ne (hm b _ q fun z=>z)];exact q,fun b u xs q=>by rw [upd_ne (hm b _ q fun z=>z)];exact q,fun b ps q=>⟨#[],by rw [upd_ne (hm b _ q fun z=>z),q];simp⟩⟩
  by_cases hbe:b=e
  · subst hbe;exact heo
  · exact ⟨u,k b u hbe q⟩
end

noncomputable def trk (h:Heap) (H:Hp):List Addr:=(List.range h.objs.size).filter fun a=>(H a).isSome
noncomputable def hidT (h:Heap) (H:Hp):Heap:=PySem.W.hideAll h (trk h H)
theorem hidT_size (h:Heap) (H:Hp):(hidT h H).objs.size=h.objs.size:=PySem.W.hideAll_size _ _
theorem hidT_get {h:Heap} {H:Hp} {b:Addr} {o:Obj} (e:h.get? b=some o) (n:H b=none):(hidT h H).get? b=some o :=
  PySem.W.hideAll_get _ e fun hm=>by
    have q:(H b).isSome=true:=(List.mem_filter.mp hm).2
    rw [n] at q;simp at q
theorem of_hidT {h:Heap} {H:Hp} {b:Addr} {o:Obj} (e:(hidT h H).get? b=some o):h.get? b=some o∧H b=none:=by
  have e':h.get? b=some o:=PySem.W.of_hideAll (trk h H) e
  refine ⟨e',?_⟩
  cases q:H b with
  | none=>rfl
  | some x =>
    have hm:b∈trk h H:=List.mem_filter.mpr ⟨List.mem_range.mpr (Heap.lt_size e'),by simp [q]⟩
    have z:(hidT h H).get? b=none:=PySem.W.hideAll_none (trk h H) hm
    rw [z] at e;cases e

end L2

namespace L2
open PySem PySem.Spec PyProof.Rows

structure Mod (K:PySem.W.Frag) (mg:Str→Option Value) (base:Heap):Prop where
  kin:K.In base
  glob:base.Ns mainGlobals mg
  blt:∃ mb,base.Ns builtinsNs mb∧∀ x:Str,x ≠ "__name__" → mb x=bootBuiltins x
  nolimit:base.NoLimit

structure Cx where
  prog:Program
  w:World
  K:PySem.W.Frag
  mg:Str→Option Value
  base:Heap
  A:Around
  N:List Str
  s₀ : Shared
  H₀ : Hp
  env:Env
  outer:List Env
  stack:List Env
  ex:List Addr
  fn:Str→Bool
  calm:Bool
  pn:List (Addr × Obj)
  xe:Value→Shared→Prop
noncomputable def frs (l:List Env):List Addr:=l.filterMap (·.frame)
noncomputable abbrev Cx.fs (X:Cx):List Addr:=frs X.outer

noncomputable def Vis (sc:Scope) (x:Str):Prop:=sc.names.lookup x=some .local∨sc.names.lookup x=some .cell∨sc.names.lookup x=some .free
noncomputable def Loc (sc:Scope) (x:Str):Prop:=sc.names.lookup x=some .local∨sc.names.lookup x=some .cell
noncomputable def Look (env:Env) (h:Heap) (m:Str→Option Value) (x:Str) (u:Value):Prop :=
  (env.kindOf x=some .local∧m x=some u)∨((env.kindOf x=some .cell∨env.kindOf x=some .free)∧∃ c,env.cells.lookup x=some c∧h.IsCell c (some u))

structure Cx.Ok (X:Cx):Prop where
  mod:Mod X.K X.mg X.base
  kind:X.env.scope.kind = .function
  glob:X.env.globals=mainGlobals
  blt:X.env.builtins=builtinsNs
  above:X.s₀.heap.objs.size≤X.env.locals
  inj:∀ x y c,X.env.cells.lookup x=some c→X.env.cells.lookup y=some c→x=y
  has:∀ x,(X.env.kindOf x=some .cell∨X.env.kindOf x=some .free)→∃ c,X.env.cells.lookup x=some c
  cab:∀ x c,X.fn x=true→X.env.cells.lookup x=some c→X.s₀.heap.objs.size≤c
  hd:X.calm=true→X.A.handled=none
  frames:X.A.frames=some X.stack
  stk:X.stack=X.outer∨(X.stack=X.env :: X.outer∧X.env.frame=some X.env.locals)
  exf:∀ b∈X.ex,b≠X.env.locals∧∀ x c,X.env.cells.lookup x=some c→c≠b
  bs:∀ b o,X.base.get? b=some o→X.s₀.heap.get? b=some o∧X.H₀ b=none
  bsz:X.base.objs.size≤X.s₀.heap.objs.size
  noex:∀ b o,X.base.get? b=some o→b ∉ X.ex
  exfs:∀ b∈X.ex,b ∉ X.fs
  funs:X.s₀.heap.FunFrames X.base X.outer
  frf:∀ b∈X.fs,X.H₀ b=none

structure Inv (X:Cx) (pins:List (Addr × Obj)) (σ : List (Option V)) (H:Hp) (s:Shared):Prop where
  ok:X.Ok
  os:s.os=X.s₀.os
  bare:AllBare s.gens
  base:Un X.fs X.ex X.H₀ H X.s₀.heap s.heap
  loc:∃ m,s.heap.Ns X.env.locals m∧∀ (i:Nat) (x:Str) (v:V),X.N[i]? = some x → σ[i]? = some (some v)→Vis X.env.scope x→∃ u,RelV v u∧Look X.env s.heap m x u
  cell:∀ x c,X.env.cells.lookup x=some c→∃ v,s.heap.IsCell c v
  free:H X.env.locals=none
  freeC:∀ x c,X.env.cells.lookup x=some c→H c=none
  pin:∀ p∈X.pn ++ pins,s.heap.get? p.1=some p.2∧H p.1=none∧p.1≠X.env.locals∧p.1 ∉ X.fs∧∀ v,p.2.data ≠ .cell v
  hok:HOk X.prog X.w H s.heap
  len : σ.length=X.N.length

section
variable {X:Cx} {pins:List (Addr × Obj)} {σ : List (Option V)} {H H':Hp} {s:Shared} {h':Heap}

theorem Cx.Ok.nofr (ok:X.Ok) {b:Addr} {o:Obj} (e:X.base.get? b=some o):b ∉ X.fs:=fun hb=>by
  have:=(ok.funs.mem hb).1
  rw [e] at this;cases this
theorem Inv.bs (I:Inv X pins σ H s):∀ b o,X.base.get? b=some o→s.heap.get? b=some o∧H b=none:=fun b o e =>
  ⟨I.base.keep b o (I.ok.bs b o e).1 (I.ok.bs b o e).2 (I.ok.nofr e) (I.ok.noex b o e),I.base.free b o (I.ok.bs b o e).1 (I.ok.bs b o e).2 (I.ok.noex b o e)⟩
theorem Inv.bk (I:Inv X pins σ H s):∀ b o,X.base.get? b=some o→s.heap.get? b=some o:=fun b o e=>(I.bs b o e).1
theorem Inv.mod (I:Inv X pins σ H s):Mod X.K X.mg X.base:=I.ok.mod
theorem Inv.kIn (I:Inv X pins σ H s):X.K.In s.heap:=I.ok.mod.kin.keeps I.bk
theorem Inv.lt (I:Inv X pins σ H s):X.env.locals < s.heap.objs.size:=let ⟨_,hn,_⟩:=I.loc;hn.lt
theorem Inv.sz (I:Inv X pins σ H s):X.s₀.heap.objs.size≤s.heap.objs.size:=Nat.le_trans I.ok.above (Nat.le_of_lt I.lt)
theorem Inv.nofs (I:Inv X pins σ H s) {a:Addr} (h:s.heap.objs.size≤a):a ∉ X.fs:=fun hb=>by
  obtain ⟨_,o,ho,_⟩:=I.ok.funs.mem hb
  exact absurd (Nat.lt_of_lt_of_le (Heap.lt_size ho) (Nat.le_trans I.sz h)) (Nat.lt_irrefl _)
theorem Inv.cne (I:Inv X pins σ H s):∀ x c,X.env.cells.lookup x=some c→c≠X.env.locals:=fun x c e z=>by
  obtain ⟨v,o,ho,hd⟩:=I.cell x c e
  obtain ⟨m,⟨o',es,ep,ho',hd',_⟩,_⟩:=I.loc
  rw [z,ho'] at ho;cases ho;rw [hd'] at hd;cases hd
theorem Inv.funs (I:Inv X pins σ H s):s.heap.FunFrames X.base X.outer:=by
  have all:∀ (l:List Env),(∀ b∈frs l,b∈X.fs)→X.s₀.heap.FunFrames X.base l→s.heap.FunFrames X.base l:=by
    intro l
    induction l with
    | nil=>intro _ _;trivial
    | cons env r ih =>
      intro hs hl
      obtain ⟨hk,⟨L,o,hf,hn,ho,hd⟩,hr⟩:=hl
      have hL:L∈X.fs:=hs L (by unfold frs;rw [List.filterMap_cons,hf];exact List.mem_cons_self)
      obtain ⟨sl,e⟩:=I.base.slot L o ho (I.ok.frf L hL) hL fun z=>I.ok.exfs L z hL
      exact ⟨hk,⟨L,_,hf,hn,e,hd⟩,ih (fun b hb=>hs b (by unfold frs;rw [List.filterMap_cons,hf];exact List.mem_cons_of_mem _ hb)) hr⟩
  exact all X.outer (fun _ hb=>hb) I.ok.funs

theorem Inv.stack (I:Inv X pins σ H s):s.heap.FunFrames X.base X.stack:=by
  rcases I.ok.stk with e | ⟨e,hf⟩
  · rw [e];exact I.funs
  · rw [e]
    obtain ⟨m,hn,_⟩:=I.loc
    refine .cons (by rw [I.ok.kind];decide) hf hn ?_ I.funs
    exact Heap.get?_none_of_le (Nat.le_trans I.ok.bsz I.ok.above)
theorem Inv.stkSub (I:Inv X pins σ H s):∀ b∈frs X.stack,b∈X.env.locals :: X.fs:=fun b hb=>by
  rcases I.ok.stk with e | ⟨e,hf⟩
  · rw [e] at hb;exact List.mem_cons_of_mem _ hb
  · rw [e] at hb
    unfold frs at hb
    rw [List.filterMap_cons,hf] at hb
    exact hb
theorem Inv.stkFree (I:Inv X pins σ H s):∀ b∈frs X.stack,H b=none:=fun b hb=>by
  rcases List.mem_cons.mp (I.stkSub b hb) with e | hb
  · rw [e];exact I.free
  · obtain ⟨_,o,ho,_⟩:=I.ok.funs.mem hb
    exact I.base.free b o ho (I.ok.frf b hb) fun z=>I.ok.exfs b z hb

theorem Inv.step {g':Array GenState} {t':Nat} {d':Drawn} {ch:List Addr} (I:Inv X pins σ H s)
    (hch:∀ b∈ch,(b∈X.ex∨X.s₀.heap.objs.size≤b)∧b≠X.env.locals∧(∀ x c,X.env.cells.lookup x=some c→c≠b)∧∀ p∈X.pn ++ pins,p.1≠b)
    (keep:∀ b o,b≠X.env.locals→b ∉ X.fs→b ∉ ch→s.heap.get? b=some o→H b=none→h'.get? b=some o)
    (slot:∀ b o,b≠X.env.locals→b∈X.fs→b ∉ ch→s.heap.get? b=some o→H b=none→∃ sl,h'.get? b=some { o with slots:=sl }) (free:∀ b o,b ∉ ch→s.heap.get? b=some o→H b=none→H' b=none)
    (there:∀ b o,b ∉ ch→s.heap.get? b=some o→∃ o',h'.get? b=some o')
    (tups:∀ b xs,H b=some (.tup xs)→H' b=some (.tup xs)) (frzs:∀ b o u,H b=some (.frz o u)→H' b=some (.frz o u)) (tbls:∀ b ps,H b=some (.tbl ps)→∃ more,H' b=some (.tbl (ps ++ more)))
    (ns:∀ m,s.heap.Ns X.env.locals m→h'.Ns X.env.locals m) (hok:HOk X.prog X.w H' h') (hg:AllBare g') :
    Inv X pins σ H' { s with heap:=h',gens:=g',drawn:=d',toks:=t' }:=by
  have neL:∀ b o,X.s₀.heap.get? b=some o→b≠X.env.locals:=fun b o e=>Nat.ne_of_lt (Nat.lt_of_lt_of_le (Heap.lt_size e) I.ok.above)
  have neC:∀ b o,X.s₀.heap.get? b=some o→b ∉ X.ex→b ∉ ch:=fun b o e hx hb=>by
    rcases (hch b hb).1 with z | z
    · exact hx z
    · exact absurd (Nat.lt_of_lt_of_le (Heap.lt_size e) z) (Nat.lt_irrefl _)
  have cellK:∀ x c,X.env.cells.lookup x=some c→∀ v,s.heap.IsCell c v→h'.IsCell c v:=fun x c e v ⟨o,ho,hd⟩=>by
    have nch:c ∉ ch:=fun z=>(hch c z).2.2.1 x c e rfl
    by_cases hc:c∈X.fs
    · obtain ⟨sl,q⟩:=slot c o (I.cne x c e) hc nch ho (I.freeC x c e)
      exact ⟨_,q,hd⟩
    · exact ⟨o,keep c o (I.cne x c e) hc nch ho (I.freeC x c e),hd⟩
  refine ⟨I.ok,I.os,hg,⟨fun b o e n hb hx => ?_,fun b o e n hb hx => ?_,fun b o e n hx => ?_,fun b o e hx => ?_,fun b xs e=>tups b xs (I.base.tups b xs e),fun b o xs e=>frzs b o xs (I.base.frzs b o xs e),fun b ps e => ?_⟩,?_,fun x c e => ?_,?_,fun x c e => ?_,fun p hp => ?_,hok,I.len⟩
  · exact keep b o (neL b o e) hb (neC b o e hx) (I.base.keep b o e n hb hx) (I.base.free b o e n hx)
  · obtain ⟨sl,e1⟩:=I.base.slot b o e n hb hx
    obtain ⟨sl',e2⟩:=slot b _ (neL b o e) hb (neC b o e hx) e1 (I.base.free b o e n hx)
    exact ⟨sl',e2⟩
  · obtain ⟨o',e1⟩:=I.base.there b o e hx
    exact free b o' (neC b o e hx) e1 (I.base.free b o e n hx)
  · obtain ⟨o',e1⟩:=I.base.there b o e hx
    exact there b o' (neC b o e hx) e1
  · obtain ⟨m1,e1⟩:=I.base.tbls b ps e
    obtain ⟨m2,e2⟩:=tbls b _ e1
    exact ⟨m1 ++ m2,by rw [e2,Array.append_assoc]⟩
  · obtain ⟨m,hn,hl⟩:=I.loc
    refine ⟨m,ns m hn,fun i x v e1 e2 e3 => ?_⟩
    obtain ⟨u,r,l⟩:=hl i x v e1 e2 e3
    refine ⟨u,r,?_⟩
    rcases l with l | ⟨k,c,e,z⟩
    · exact .inl l
    · exact .inr ⟨k,c,e,cellK x c e _ z⟩
  · obtain ⟨v,z⟩:=I.cell x c e
    exact ⟨v,cellK x c e v z⟩
  · obtain ⟨m,⟨o,_,_,ho,_⟩,_⟩:=I.loc
    exact free _ o (fun z=>(hch _ z).2.1 rfl) ho I.free
  · obtain ⟨v,o,ho,hd⟩:=I.cell x c e
    exact free c o (fun z=>(hch c z).2.2.1 x c e rfl) ho (I.freeC x c e)
  · obtain ⟨e,n,ne,nf,d⟩:=I.pin p hp
    have nch:p.1 ∉ ch:=fun z=>(hch p.1 z).2.2.2 p hp rfl
    exact ⟨keep p.1 p.2 ne nf nch e n,free p.1 p.2 nch e n,ne,nf,d⟩
theorem Inv.un {t':Nat} (I:Inv X pins σ H s) (u:Un X.fs [] H H' s.heap h') (hok:HOk X.prog X.w H' h'):Inv X pins σ H' { s with heap:=h',toks:=t' }:=by
  obtain ⟨m,⟨o,es,ep,ho,r⟩,_⟩:=id I.loc
  obtain ⟨sl,hL⟩:=u.any ho I.free (by simp)
  exact I.step (g':=s.gens) (d':=s.drawn) (ch := []) (fun _ z=>nomatch z) (fun b o _ hb _ e n=>u.keep b o e n hb (by simp)) (fun b o _ hb _ e n=>u.slot b o e n hb (by simp)) (fun b o _ e n=>u.free b o e n (by simp)) (fun b o _ e=>u.there b o e (by simp)) u.tups u.frzs u.tbls (fun m' hm=>by
    obtain ⟨o',es',ep',ho',r'⟩:=hm
    rw [ho] at ho';cases ho'
    exact ⟨_,es',ep',hL,r'⟩) hok I.bare
theorem Inv.call {g':Array GenState} {t':Nat} {d':Drawn} {ch:List Addr} (I:Inv X pins σ H s) (u:Un (frs X.stack) ch H H' s.heap h') (hok:HOk X.prog X.w H' h') (hg:AllBare g')
    (hch:∀ b∈ch,(b∈X.ex∨X.s₀.heap.objs.size≤b)∧b≠X.env.locals∧(∀ x c,X.env.cells.lookup x=some c→c≠b)∧∀ p∈X.pn ++ pins,p.1≠b) :
    Inv X pins σ H' { s with heap:=h',gens:=g',drawn:=d',toks:=t' }:=by
  obtain ⟨m,⟨o,es,ep,ho,r⟩,_⟩:=id I.loc
  obtain ⟨sl,hL⟩:=u.any ho I.free fun z=>(hch _ z).2.1 rfl
  exact I.step (ch:=ch) hch (fun b o hL hb hc e n=>u.keep b o e n (fun z=>(List.mem_cons.mp (I.stkSub b z)).elim hL hb) hc) (fun b o _ _ hc e n=>u.any e n hc) (fun b o hc e n=>u.free b o e n hc) (fun b o hc e=>u.there b o e hc) u.tups u.frzs u.tbls (fun m' hm=>by
    obtain ⟨o',es',ep',ho',r'⟩:=hm
    rw [ho] at ho';cases ho'
    exact ⟨_,es',ep',hL,r'⟩) hok hg
theorem Inv.turned {t':Nat} {it:Addr} (I:Inv X pins σ H s) (k:∀ b o,b≠it→s.heap.get? b=some o→h'.get? b=some o) (hn:H it=none) (hL:it≠X.env.locals)
    (h1:it∈X.ex∨X.s₀.heap.objs.size≤it) (h2:∀ x c,X.env.cells.lookup x=some c→c≠it) (h3:∀ p∈X.pn ++ pins,p.1≠it):Inv X pins σ H { s with heap:=h',toks:=t' }:=by
  have nit:∀ b u,H b=some u→b≠it:=fun b u e z=>by rw [z,hn] at e;cases e
  refine I.step (g':=s.gens) (d':=s.drawn) (ch := [it]) (fun b hb => ?_) (fun b o _ _ hc e _=>k b o (fun z=>hc (by simp [z])) e) (fun b o _ _ hc e _=>⟨o.slots,k b o (fun z=>hc (by simp [z])) e⟩) (fun _ _ _ _ n=>n)
    (fun b o hc e=>⟨o,k b o (fun z=>hc (by simp [z])) e⟩) (fun _ _ e=>e) (fun _ _ _ e=>e) (fun b ps e=>⟨#[],by rw [e];simp⟩) (fun m hm => ?_) (fun b u e => ?_) I.bare
  · have e:b=it:=by simpa using hb
    subst e
    exact ⟨h1,hL,h2,h3⟩
  · obtain ⟨o,es,ep,ho,r⟩:=hm
    exact ⟨o,es,ep,k _ o (Ne.symm hL) ho,r⟩
  · refine (I.hok b u e).stay (fun c v hc q=>k c v ?_ q) (fun _ q=>q) fun _ _ q=>q
    rcases hc with z | z
    · rw [z];exact nit b u e
    · exact nit c _ z
theorem Inv.tok (I:Inv X pins σ H s) (t:Nat):Inv X pins σ H { s with toks:=t }:=I.un (h':=s.heap) (t':=t) Un.refl I.hok
theorem Inv.kept {t':Nat} (I:Inv X pins σ H s) (k:∀ b u,s.heap.get? b=some u→h'.get? b=some u):Inv X pins σ H { s with heap:=h',toks:=t' }:=I.un (Un.kept k) (I.hok.kept k)
theorem Inv.laid {a:Addr} {o:HO} {t':Nat} (I:Inv X pins σ H s) (k:∀ b u,s.heap.get? b=some u→h'.get? b=some u) (hp:s.heap.objs.size≤a) (new:ObjOk X.prog X.w (upd H a o) h' a o) :
    Inv X pins σ (upd H a o) { s with heap:=h',toks:=t' }:=I.un (Un.laid k hp (I.hok.fresh hp)) (I.hok.laid k hp new)
theorem Inv.write {x e:Addr} {o:HO} {t':Nat} (I:Inv X pins σ H s) (mu:Mut (H x)) (he:e=x∨H e=some (.own x)) (k:∀ b u,b≠e→s.heap.get? b=some u→h'.get? b=some u) (heo:∃ u,h'.get? e=some u)
    (new:ObjOk X.prog X.w (upd H x o) h' x o):Inv X pins σ (upd H x o) { s with heap:=h',toks:=t' }:=I.un (Un.write mu he k heo) (I.hok.write mu he k heo new)
theorem Inv.pins_of {pins':List (Addr × Obj)} (I:Inv X pins σ H s) (h:∀ p∈pins',s.heap.get? p.1=some p.2∧H p.1=none∧p.1≠X.env.locals∧p.1 ∉ X.fs∧∀ v,p.2.data ≠ .cell v):Inv X pins' σ H s :=
  ⟨I.ok,I.os,I.bare,I.base,I.loc,I.cell,I.free,I.freeC,fun p hp=>(List.mem_append.mp hp).elim (fun z=>I.pin p (List.mem_append_left _ z)) (h p),I.hok,I.len⟩

theorem nodup_ix {N:List Str} (hN:N.Nodup) {i j:Nat} {x:Str} (a:N[i]? = some x) (b:N[j]? = some x):i=j:=by
  obtain ⟨h1,e1⟩:=List.getElem?_eq_some_iff.mp a
  obtain ⟨h2,e2⟩:=List.getElem?_eq_some_iff.mp b
  exact (List.getElem_inj hN).mp (e1.trans e2.symm)

theorem store_ok2 {M:Model} {A:Around} {E:Value→Shared→Prop} {i:Nat} {x:Str} {v:V} {u:Value} {Q:Unit→Shared→Prop} (I:Inv X pins σ H s) (hN:X.N.Nodup) (hi:X.N[i]? = some x) (hx:Loc X.env.scope x) (r:RelV v u)
    (h:∀ s',Inv X pins (σ.set i (some v)) H s'→(∃ a,Heap.SameBut a s.heap s'.heap∧(a=X.env.locals∨X.env.cells.lookup x=some a))→Q () s') (hf:X.fn x=true∨X.env.scope.names.lookup x=some .local:=by first | exact .inl rfl | exact .inr rfl | assumption):wpAny M A (storeName X.env x u) Q E s:=by
  obtain ⟨m,hn,hl⟩:=id I.loc
  have hcls:(X.env.scope.kind == .class || (X.env.scope.kind == .module && X.env.locals != X.env.globals))=false:=by rw [I.ok.kind];rfl
  have hiσ : i < σ.length:=by rw [I.len];exact (List.getElem?_eq_some_iff.mp hi).1
  have cne:=I.cne
  have tracked:∀ {a:Addr} {h':Heap},(∃ o,s.heap.get? a=some o∧H a=none)→Heap.SameBut a s.heap h'→HOk X.prog X.w H h':=fun {a h'} ha hs b ob e=>by
    obtain ⟨_,_,hfree⟩:=ha
    refine (I.hok b ob e).stay (fun c w' hc q=>(hs.2 c ?_).trans q) (fun _ q=>q) fun _ _ q=>q
    rintro rfl
    rcases hc with rfl | hc
    · rw [hfree] at e;cases e
    · rw [hfree] at hc;cases hc
  rcases hx with hk | hk
  · refine wpAny_storeName_local hk hn (fun h' hn' hs => ?_) hcls
    obtain ⟨oL,_,_,hoL,_⟩:=id hn
    refine h _ ⟨I.ok,I.os,I.bare,⟨fun b o e n hb hx => ?_,fun b o e n hb hx => ?_,I.base.free,fun b o e hx => ?_,I.base.tups,I.base.frzs,I.base.tbls⟩,⟨_,hn',fun j y v' e1 e2 e3 => ?_⟩,fun y c e => ?_,I.free,I.freeC,fun p hp => ?_,tracked ⟨oL,hoL,I.free⟩ hs,by simpa using I.len⟩ ⟨_,hs,.inl rfl⟩
    · exact (hs.2 b (Nat.ne_of_lt (Nat.lt_of_lt_of_le (Heap.lt_size e) I.ok.above))).trans (I.base.keep b o e n hb hx)
    · obtain ⟨sl,e1⟩:=I.base.slot b o e n hb hx
      exact ⟨sl,(hs.2 b (Nat.ne_of_lt (Nat.lt_of_lt_of_le (Heap.lt_size e) I.ok.above))).trans e1⟩
    · obtain ⟨o',e1⟩:=I.base.there b o e hx
      exact ⟨o',(hs.2 b (Nat.ne_of_lt (Nat.lt_of_lt_of_le (Heap.lt_size e) I.ok.above))).trans e1⟩
    · by_cases hj:j=i
      · subst hj
        rw [hi] at e1;cases e1
        rw [List.getElem?_set_self hiσ] at e2
        cases e2
        exact ⟨u,r,.inl ⟨hk,by simp⟩⟩
      · rw [List.getElem?_set_ne (Ne.symm hj)] at e2
        obtain ⟨u',r',q⟩:=hl j y v' e1 e2 e3
        refine ⟨u',r',?_⟩
        rcases q with ⟨k,e⟩ | ⟨k,c,e,z⟩
        · refine .inl ⟨k,?_⟩
          have:y≠x:=fun e=>hj (nodup_ix hN e1 (e ▸ hi))
          simp [this,e]
        · exact .inr ⟨k,c,e,z.sameBut hs (cne y c e)⟩
    · obtain ⟨w',z⟩:=I.cell y c e
      exact ⟨w',z.sameBut hs (cne y c e)⟩
    · obtain ⟨e,n,ne,nf,d⟩:=I.pin p hp
      exact ⟨(hs.2 p.1 ne).trans e,n,ne,nf,d⟩
  · have hfn:X.fn x=true:=by
      rcases hf with z | z
      · exact z
      · rw [z] at hk;cases hk
    obtain ⟨c,hc⟩:=I.ok.has x (.inl hk)
    obtain ⟨w',z⟩:=I.cell x c hc
    refine wpAny_storeName_cell I.ok.kind hk hc z (fun h' hc' hs => ?_)
    obtain ⟨oc,hoc,hocd⟩:=id z
    refine h { s with heap:=h' } ⟨I.ok,I.os,I.bare,⟨fun b o e n hb hx => ?_,fun b o e n hb hx => ?_,I.base.free,fun b o e hx => ?_,I.base.tups,I.base.frzs,I.base.tbls⟩,⟨m,hn.sameBut hs (Ne.symm (cne x c hc)),fun j y v' e1 e2 e3 => ?_⟩,fun y c' e => ?_,I.free,I.freeC,fun p hp => ?_,tracked ⟨oc,hoc,I.freeC x c hc⟩ hs,by simpa using I.len⟩ ⟨c,hs,.inr hc⟩
    · exact (hs.2 b (Nat.ne_of_lt (Nat.lt_of_lt_of_le (Heap.lt_size e) (I.ok.cab x c hfn hc)))).trans (I.base.keep b o e n hb hx)
    · obtain ⟨sl,e1⟩:=I.base.slot b o e n hb hx
      exact ⟨sl,(hs.2 b (Nat.ne_of_lt (Nat.lt_of_lt_of_le (Heap.lt_size e) (I.ok.cab x c hfn hc)))).trans e1⟩
    · obtain ⟨o',e1⟩:=I.base.there b o e hx
      exact ⟨o',(hs.2 b (Nat.ne_of_lt (Nat.lt_of_lt_of_le (Heap.lt_size e) (I.ok.cab x c hfn hc)))).trans e1⟩
    · by_cases hj:j=i
      · subst hj
        rw [hi] at e1;cases e1
        rw [List.getElem?_set_self hiσ] at e2
        cases e2
        exact ⟨u,r,.inr ⟨.inl hk,c,hc,hc'⟩⟩
      · rw [List.getElem?_set_ne (Ne.symm hj)] at e2
        obtain ⟨u',r',q⟩:=hl j y v' e1 e2 e3
        refine ⟨u',r',?_⟩
        rcases q with q | ⟨k,c',e,z'⟩
        · exact .inl q
        · refine .inr ⟨k,c',e,z'.sameBut hs ?_⟩
          rintro rfl
          exact hj (nodup_ix hN e1 (I.ok.inj _ _ _ e hc ▸ hi))
    · by_cases hcc:c'=c
      · subst hcc;exact ⟨_,hc'⟩
      · obtain ⟨w2,z2⟩:=I.cell y c' e
        exact ⟨w2,z2.sameBut hs hcc⟩
    · obtain ⟨e,n,ne,nf,d⟩:=I.pin p hp
      refine ⟨(hs.2 p.1 ?_).trans e,n,ne,nf,d⟩
      intro q
      rw [q,hoc] at e
      have q':oc=p.2:=Option.some.inj e
      exact d w' (by rw [← q'];exact hocd)
theorem store_ok {M:Model} {A:Around} {E:Value→Shared→Prop} {i:Nat} {x:Str} {v:V} {u:Value} {Q:Unit→Shared→Prop} (I:Inv X pins σ H s) (hN:X.N.Nodup) (hi:X.N[i]? = some x) (hx:Loc X.env.scope x) (r:RelV v u)
    (h:∀ s',Inv X pins (σ.set i (some v)) H s'→Q () s') (hf:X.fn x=true∨X.env.scope.names.lookup x=some .local:=by first | exact .inl rfl | exact .inr rfl | assumption):wpAny M A (storeName X.env x u) Q E s :=
  store_ok2 I hN hi hx r (fun s' I' _=>h s' I') hf
theorem Inv.call' {s':Shared} {ch:List Addr} (I:Inv X pins σ H s) (ho:s'.os=s.os) (u:Un (frs X.stack) ch H H' s.heap s'.heap) (hok:HOk X.prog X.w H' s'.heap) (hg:AllBare s'.gens)
    (hch:∀ b∈ch,(b∈X.ex∨X.s₀.heap.objs.size≤b)∧b≠X.env.locals∧(∀ x c,X.env.cells.lookup x=some c→c≠b)∧∀ p∈X.pn ++ pins,p.1≠b):Inv X pins σ H' s':=by
  obtain ⟨h',g',d',t',o'⟩:=s'
  have e:o'=s.os:=ho
  subst e
  exact I.call (g':=g') (t':=t') (d':=d') u hok hg hch
end

noncomputable abbrev XK:=Value→Option Addr→Hp→Prop
noncomputable abbrev St:=List (Option V)
noncomputable abbrev VK:=V→Hp→Prop
noncomputable abbrev TE:=St→Hp→VK→Prop
noncomputable abbrev TT:=St→Hp→(Bool→Hp→Prop)→Prop
noncomputable abbrev TA:=St→Hp→(List V→Hp→Prop)→Prop
structure Ends where
  nx:St→Hp→Prop
  rt:VK
  bk:St→Hp→Prop:=fun _ _=>False
  ct:St→Hp→Prop:=fun _ _=>False
noncomputable abbrev TS:=Ends→St→Hp→Prop

noncomputable def EP (X:Cx) (pins:List (Addr × Obj)) (σ : St) (Q:VK) (u:Value) (s':Shared):Prop := ∃ v H',Inv X pins σ H' s'∧RelV v u∧Q v H'
noncomputable def TP (X:Cx) (pins:List (Addr × Obj)) (σ : St) (Q:Bool→Hp→Prop) (b:Bool) (s':Shared):Prop := ∃ H',Inv X pins σ H' s'∧Q b H'
noncomputable def AP (X:Cx) (pins:List (Addr × Obj)) (σ : St) (Q:List V→Hp→Prop) (us:List Value) (s':Shared):Prop := ∃ vs H',Inv X pins σ H' s'∧Vals vs us∧Q vs H'
noncomputable def SP (X:Cx) (pins:List (Addr × Obj)) (D:Ends) (f:Flow) (s':Shared):Prop :=
  match f with
  | .next=>∃ σ' H',Inv X pins σ' H' s'∧D.nx σ' H'
  | .brk=>∃ σ' H',Inv X pins σ' H' s'∧D.bk σ' H'
  | .cont=>∃ σ' H',Inv X pins σ' H' s'∧D.ct σ' H'
  | .ret u=>∃ v σ' H',Inv X pins σ' H' s'∧RelV v u∧D.rt v H'

noncomputable def PE (X:Cx) (e:Expr) (t:TE):Prop :=
  ∀ (pins:List (Addr × Obj)) (s:Shared) (σ : St) (H:Hp) (Q:VK),Inv X pins σ H s→t σ H Q→wpAny (model X.prog X.w) X.A (eval e X.env) (EP X pins σ Q) X.xe s
noncomputable def PT (X:Cx) (e:Expr) (t:TT):Prop :=
  ∀ (pins:List (Addr × Obj)) (s:Shared) (σ : St) (H:Hp) (Q:Bool→Hp→Prop),Inv X pins σ H s→t σ H Q→wpAny (model X.prog X.w) X.A (isTrue e X.env (eval e X.env)) (TP X pins σ Q) X.xe s
noncomputable def PW (X:Cx) (e:Expr) (t:TT):Prop :=
  ∀ (whole:Sem Value) (pins:List (Addr × Obj)) (s:Shared) (σ : St) (H:Hp) (Q:Bool→Hp→Prop),Inv X pins σ H s→t σ H Q→wpAny (model X.prog X.w) X.A (isTrue e X.env whole) (TP X pins σ Q) X.xe s
theorem PW.pt {X:Cx} {e:Expr} {t:TT} (h:PW X e t):PT X e t:=h _
noncomputable def PA (X:Cx) (es:List Expr) (t:TA):Prop :=
  ∀ (pos:Pos) (pins:List (Addr × Obj)) (s:Shared) (σ : St) (H:Hp) (Q:List V→Hp→Prop),Inv X pins σ H s→t σ H Q→wpAny (model X.prog X.w) X.A (spliced (backTo pos (starEach es X.env))) (AP X pins σ Q) X.xe s
noncomputable def PS (X:Cx) (st:Stmt) (t:TS):Prop :=
  ∀ (pins:List (Addr × Obj)) (s:Shared) (σ : St) (H:Hp) (D:Ends),Inv X pins σ H s→t D σ H→wpAny (model X.prog X.w) X.A (exec st X.env) (SP X pins D) X.xe s
noncomputable def PSs (X:Cx) (st:List Stmt) (t:TS):Prop :=
  ∀ (pins:List (Addr × Obj)) (s:Shared) (σ : St) (H:Hp) (D:Ends),Inv X pins σ H s→t D σ H→wpAny (model X.prog X.w) X.A (execs st X.env) (SP X pins D) X.xe s
theorem thn {α : Type} {t:Sem α} {Q Q' : α → Shared→Prop} {M:Model} {A:Around} {E:Value→Shared→Prop} {s:Shared} (h:wpAny M A t Q E s) (hQ:∀ a s,Q a s→Q' a s):wpAny M A t Q' E s:=wpAny_mono h hQ fun _ _ x=>x
end L2

namespace L2
open PySem PySem.Spec PyProof.Rows
section
variable {X:Cx}


inductive TVar (i:Nat) (σ : St) (H:Hp) (Q:VK):Prop
  | mk (v:V) (e : σ[i]? = some (some v)) (q:Q v H):TVar i σ H Q
noncomputable def tVar (i:Nat):TE:=fun σ H Q=>TVar i σ H Q
noncomputable def tC (v:V):TE:=fun _ H Q=>Q v H
theorem pe_var {i:Nat} {x:Str} {pos:Pos} (hN:X.N[i]? = some x) (hv:Vis X.env.scope x) (hd:(x == ("__debug__" : Str))=false:=by decide) (hcd:(x == ("__classdict__" : Str))=false:=by decide):PE X (.Name x pos) (tVar i):=by
  intro pins s σ H Q I h
  obtain ⟨v,e,h⟩:=h
  obtain ⟨m,hn,hl⟩:=I.loc
  obtain ⟨u,r,l⟩:=hl i x v hN e hv
  have fin:EP X pins σ Q u s:=⟨v,H,I,r,h⟩
  rcases l with ⟨hk,hm⟩ | ⟨hk,c,hc,hcell⟩
  · exact wpAny_Name (wpAny_loadName_local I.ok.kind hk hn hm fin) hd
  · rcases hk with hk | hk
    · exact wpAny_Name (wpAny_loadName_cell I.ok.kind hk hc hcell fin) hd
    · exact wpAny_Name (wpAny_loadName_free I.ok.kind hk hc hcell fin hcd) hd
theorem pe_int {i j pos}:PE X (.Constant (.int i) j pos) (tC (.int i)):=fun _ _ _ H _ I h=>wpAny_Constant_int ⟨.int i,H,I.tok _,⟨_,rfl⟩,h⟩
theorem pe_bl {b j pos}:PE X (.Constant (.bool b) j pos) (tC (.bl b)):=fun _ _ _ H _ I h=>Constant_bool ⟨.bl b,H,I,rfl,h⟩
theorem pe_non {j pos}:PE X (.Constant .none j pos) (tC .non):=fun _ _ _ H _ I h=>Constant_none ⟨.non,H,I,rfl,h⟩
theorem pe_str {x j pos}:PE X (.Constant (.str x) j pos) (tC (.str x)):=fun _ _ _ H _ I h=>Calls.Constant_str ⟨.str x,H,I.tok _,⟨_,rfl⟩,h⟩

noncomputable def Gl (X:Cx) (x:Str):Prop:=X.env.kindOf x=some .globalImplicit
theorem ld_glob {E:Value→Shared→Prop} {pins:List (Addr × Obj)} {s:Shared} {σ : St} {H:Hp} {x:Str} {u:Value} {pos:Pos} {Q:Value→Shared→Prop} (I:Inv X pins σ H s) (hg:Gl X x) (hm:X.mg x=some u) (h:Q u s)
    (hd:(x == ("__debug__" : Str))=false:=by decide):wpAny (model X.prog X.w) X.A (eval (.Name x pos) X.env) Q E s :=
  Calls.Name_function_global I.ok.kind hg (Calls.loadGlobal_global (by rw [I.ok.glob];exact I.mod.glob.keeps I.bk) hm h) hd
theorem ld_blt {E:Value→Shared→Prop} {pins:List (Addr × Obj)} {s:Shared} {σ : St} {H:Hp} {x:Str} {u:Value} {pos:Pos} {Q:Value→Shared→Prop} (I:Inv X pins σ H s) (hg:Gl X x) (hm:X.mg x=none) (hv:bootBuiltins x=some u) (h:Q u s)
    (hn:x ≠ "__name__" := by decide) (hd:(x == ("__debug__" : Str))=false:=by decide):wpAny (model X.prog X.w) X.A (eval (.Name x pos) X.env) Q E s:=by
  obtain ⟨mb,h1,h2⟩:=I.mod.blt
  exact Calls.Name_function_global I.ok.kind hg (Calls.loadGlobal_builtin (by rw [I.ok.glob];exact I.mod.glob.keeps I.bk) hm (by rw [I.ok.blt];exact h1.keeps I.bk) ((h2 x hn).trans hv) h) hd
theorem pe_glob {x:Str} {v:V} {u:Value} {pos:Pos} (hg:Gl X x) (hm:X.mg x=some u) (r:RelV v u) (hd:(x == ("__debug__" : Str))=false:=by decide):PE X (.Name x pos) (tC v) :=
  fun _ _ _ H _ I h=>ld_glob I hg hm ⟨v,H,I,r,h⟩ hd
theorem pe_bltn {x:Str} {v:V} {u:Value} {pos:Pos} (hg:Gl X x) (hm:X.mg x=none) (hv:bootBuiltins x=some u) (r:RelV v u) (hn:x ≠ "__name__" := by decide) (hd:(x == ("__debug__" : Str))=false:=by decide):PE X (.Name x pos) (tC v) :=
  fun _ _ _ H _ I h=>ld_blt I hg hm hv ⟨v,H,I,r,h⟩ hn hd

variable {a b:Expr} {ta tb:TE} {pos:Pos}

inductive J_tB (Q:Bool→Hp→Prop) (x:V) (H1:Hp):Prop
  | mk:∀ c,(x = .bl c)→(Q c H1)→J_tB Q x H1
noncomputable def tB (t:TE):TT:=fun σ H Q=>t σ H fun x H1=>J_tB Q x H1
theorem pt_val {e:Expr} {t:TE} (h:PE X e t) (he:∀ whole,isTrue e X.env whole=(do let v ← whole;standAt e.pos;holding [v] (truthy v)):=by intro _;rfl):PT X e (tB t):=by
  intro pins s σ H Q I hw
  refine isTrue_plain (thn (h pins s σ H _ I hw) fun v s1 ⟨x,H1,I1,r1,q1⟩ => ?_) (he _)
  obtain ⟨d,rfl,q⟩:=q1
  cases r1
  exact wpAny_truthy_bool ⟨H1,I1,q⟩

variable {tA tB':TT} {rest:List Expr}
noncomputable def tAnd (t u:TT):TT:=fun σ H Q=>t σ H fun c H1=>if c=true then u σ H1 Q else Q false H1
noncomputable def tOr (t u:TT):TT:=fun σ H Q=>t σ H fun c H1=>if c=true then Q true H1 else u σ H1 Q
noncomputable def tNot (t:TT):TT:=fun σ H Q=>t σ H fun c H1=>Q (!c) H1
theorem pw_and1 (ha:PT X a tA):PW X (.BoolOp .And [a] pos) tA:=by
  intro wh pins s σ H Q I h
  refine isTrue_and (thn (ha pins s σ H Q I h) fun c s1 e => ?_)
  cases c with
  | true=>exact isTrue_and_nil e
  | false=>exact e
theorem pw_or1 (ha:PT X a tA):PW X (.BoolOp .Or [a] pos) tA:=by
  intro wh pins s σ H Q I h
  refine isTrue_or (thn (ha pins s σ H Q I h) fun c s1 e => ?_)
  cases c with
  | false=>exact isTrue_or_nil e
  | true=>exact e
theorem pw_and (ha:PT X a tA) (hb:PW X (.BoolOp .And (b :: rest) pos) tB'):PW X (.BoolOp .And (a :: b :: rest) pos) (tAnd tA tB'):=by
  intro wh pins s σ H Q I h
  refine isTrue_and (thn (ha pins s σ H _ I h) fun c s1 ⟨H1,I1,q1⟩ => ?_)
  cases c with
  | true=>exact hb wh pins s1 σ H1 Q I1 q1
  | false=>exact ⟨H1,I1,q1⟩
theorem pw_or (ha:PT X a tA) (hb:PW X (.BoolOp .Or (b :: rest) pos) tB'):PW X (.BoolOp .Or (a :: b :: rest) pos) (tOr tA tB'):=by
  intro wh pins s σ H Q I h
  refine isTrue_or (thn (ha pins s σ H _ I h) fun c s1 ⟨H1,I1,q1⟩ => ?_)
  cases c with
  | true=>exact ⟨H1,I1,q1⟩
  | false=>exact hb wh pins s1 σ H1 Q I1 q1
theorem pt_not (ha:PT X a tA):PT X (.UnaryOp .Not a pos) (tNot tA):=by
  intro pins s σ H Q I h
  exact isTrue_not (ha pins s σ H (fun c H1=>Q (!c) H1) I h)
noncomputable def tAndV (ta tb:TE):TE:=fun σ H Q=>ta σ H fun x H1=>∃ c,x = .bl c∧if c=true then tb σ H1 Q else Q (.bl false) H1
noncomputable def tOrV (ta tb:TE):TE:=fun σ H Q=>ta σ H fun x H1=>∃ c,x = .bl c∧if c=true then Q (.bl true) H1 else tb σ H1 Q
inductive J_tNotV (Q:VK) (x:V) (H1:Hp):Prop
  | mk:∀ c,(x = .bl c)→(Q (.bl (!c)) H1)→J_tNotV Q x H1
noncomputable def tNotV (ta:TE):TE:=fun σ H Q=>ta σ H fun x H1=>J_tNotV Q x H1
theorem pe_one {op} {t:TE} (h:PE X a t):PE X (.BoolOp op [a] pos) t:=fun pins s σ H Q I hw=>BoolOp_one (h pins s σ H Q I hw)
theorem pe_and (ha:PE X a ta) (hb:PE X (.BoolOp .And (b :: rest) pos) tb):PE X (.BoolOp .And (a :: b :: rest) pos) (tAndV ta tb):=by
  intro pins s σ H Q I h
  refine BoolOp_and (thn (ha pins s σ H _ I h) fun v s1 ⟨x,H1,I1,r1,q1⟩ => ?_)
  obtain ⟨c,rfl,q1⟩:=q1
  cases r1
  refine wpAny_truthy_bool ?_
  cases c with
  | true=>exact hb pins s1 σ H1 Q I1 q1
  | false=>exact ⟨.bl false,H1,I1,rfl,q1⟩
theorem pe_or (ha:PE X a ta) (hb:PE X (.BoolOp .Or (b :: rest) pos) tb):PE X (.BoolOp .Or (a :: b :: rest) pos) (tOrV ta tb):=by
  intro pins s σ H Q I h
  refine BoolOp_or (thn (ha pins s σ H _ I h) fun v s1 ⟨x,H1,I1,r1,q1⟩ => ?_)
  obtain ⟨c,rfl,q1⟩:=q1
  cases r1
  refine wpAny_truthy_bool ?_
  cases c with
  | false=>exact hb pins s1 σ H1 Q I1 q1
  | true=>exact ⟨.bl true,H1,I1,rfl,q1⟩
theorem pe_not (ha:PE X a ta):PE X (.UnaryOp .Not a pos) (tNotV ta):=by
  intro pins s σ H Q I h
  refine UnaryOp_ (thn (ha pins s σ H _ I h) fun v s1 ⟨x,H1,I1,r1,q1⟩ => ?_)
  obtain ⟨c,rfl,q1⟩:=q1
  cases r1
  exact not_of (wpAny_truthy_bool ⟨.bl (!c),H1,I1,rfl,q1⟩)
end
end L2

namespace L2
open PySem PySem.Spec PyProof.Rows

noncomputable def SqL (K:PySem.W.Frag) (H:Hp) (a:Addr) (xs:List V):Prop :=
  Rd H a (.lst xs) ∨
    ∃ (o:Obj) (its:Array Value) (n:Nat),K.lookup a=some o∧o.cls = .type "list" ∧ o.dict=none∧o.data = .seq its n∧its.size≤sizeLine∧Vals xs its.toList
noncomputable def SqT (K:PySem.W.Frag) (H:Hp) (a:Addr) (xs:List V):Prop :=
  Rd H a (.tup xs) ∨
    ∃ (o:Obj) (its:Array Value) (n:Nat),K.lookup a=some o∧o.cls = .type "tuple" ∧ o.data = .seq its n∧its.size≤sizeLine∧Vals xs its.toList
noncomputable def absV:Value→Option V
  | .none=>some .non
  | .bool b=>some (.bl b)
  | .int i _=>some (.int i)
  | .str x _=>some (.str x)
  | .bytes b _=>some (.byt b)
  | .float b _=>some (.flt b)
  | .ref a=>some (.ref a)
  | .type n=>some (.ty n)
  | _=>none
theorem RelV.abs {x:V} {u:Value} (r:RelV x u):absV u=some x:=by
  cases x with
  | non=>cases r;rfl
  | bl _=>cases r;rfl
  | int _=>obtain ⟨t,rfl⟩:=r;rfl
  | str _=>obtain ⟨t,rfl⟩:=r;rfl
  | byt _=>obtain ⟨t,rfl⟩:=r;rfl
  | flt _=>obtain ⟨t,rfl⟩:=r;rfl
  | ref _=>cases r;rfl
  | ty _=>cases r;rfl
theorem RelV.inj {x y:V} {u:Value} (r:RelV x u) (q:RelV y u):x=y:=Option.some.inj (r.abs.symm.trans q.abs)
theorem Vals.inj:∀ {xs ys:List V} {us:List Value},Vals xs us→Vals ys us→xs=ys
  | _,_,_,.nil,.nil=>rfl
  | _,_,_,.cons r t,.cons r' t'=>by rw [r.inj r',Vals.inj t t']
section
variable {X:Cx} {pins:List (Addr × Obj)} {σ : St} {H:Hp} {s:Shared} {a:Addr} {xs ys:List V}
theorem SqL.of {K:PySem.W.Frag} (h:H a=some (.lst xs)):SqL K H a xs := .inl (.inl h)
theorem SqT.of {K:PySem.W.Frag} (h:H a=some (.tup xs)):SqT K H a xs := .inl (.inl h)
theorem Inv.list (I:Inv X pins σ H s) (h:SqL X.K H a xs):∃ its:List Value,Vals xs its∧PlainL s.heap a its.toArray∧xs.length≤sizeLine:=by
  rcases h with h | ⟨o,its,n,hk,hc,hd,hs,hz,r⟩
  · obtain ⟨z,its,n,r,e⟩:=h.ok I.hok
    exact ⟨its,r,⟨_,n,e,rfl,rfl,rfl⟩,z⟩
  · refine ⟨its.toList,r,⟨o,n,I.kIn a o hk,hc,hd,by simpa using hs⟩,?_⟩
    have e:=r.length
    simp only [Array.length_toList] at e
    omega
theorem Inv.tuple (I:Inv X pins σ H s) (h:SqT X.K H a xs):∃ its:List Value,Vals xs its∧IsTup s.heap a its.toArray∧xs.length≤sizeLine:=by
  rcases h with h | ⟨o,its,n,hk,hc,hs,hz,r⟩
  · obtain ⟨z,its,r,p⟩:=h.ok I.hok
    exact ⟨its,r,p.tup,z⟩
  · refine ⟨its.toList,r,⟨o,I.kIn a o hk,hc,n,by simpa using hs⟩,?_⟩
    have e:=r.length
    simp only [Array.length_toList] at e
    omega
theorem Inv.list_inj (I:Inv X pins σ H s) (h:SqL X.K H a xs) (h':SqL X.K H a ys):xs=ys:=by
  obtain ⟨its,r,⟨o,n,e,_,_,d⟩,_⟩:=I.list h
  obtain ⟨its',r',⟨o',n',e',_,_,d'⟩,_⟩:=I.list h'
  rw [e] at e';cases e'
  rw [d] at d'
  injection d' with d1 _
  have:its=its':=by simpa using congrArg Array.toList d1
  subst this
  exact r.inj r'
theorem Inv.tuple_inj (I:Inv X pins σ H s) (h:SqT X.K H a xs) (h':SqT X.K H a ys):xs=ys:=by
  obtain ⟨its,r,⟨o,e,_,n,d⟩,_⟩:=I.tuple h
  obtain ⟨its',r',⟨o',e',_,n',d'⟩,_⟩:=I.tuple h'
  rw [e] at e';cases e'
  rw [d] at d'
  injection d' with d1 _
  have:its=its':=by simpa using congrArg Array.toList d1
  subst this
  exact r.inj r'
end

noncomputable abbrev Cx.wish (X:Cx) (E:Value→Shared→Prop):Cx := { X with xe:=E }
noncomputable abbrev Cx.nox (X:Cx):Cx:=X.wish fun _ _=>False
theorem Cx.Ok.wish {X:Cx} (ok:X.Ok) (E:Value→Shared→Prop):(X.wish E).Ok :=
  ⟨ok.mod,ok.kind,ok.glob,ok.blt,ok.above,ok.inj,ok.has,ok.cab,ok.hd,ok.frames,ok.stk,ok.exf,ok.bs,ok.bsz,ok.noex,ok.exfs,ok.funs,ok.frf⟩
theorem Cx.Ok.unwish {X:Cx} {E:Value→Shared→Prop} (ok:(X.wish E).Ok):X.Ok :=
  ⟨ok.mod,ok.kind,ok.glob,ok.blt,ok.above,ok.inj,ok.has,ok.cab,ok.hd,ok.frames,ok.stk,ok.exf,ok.bs,ok.bsz,ok.noex,ok.exfs,ok.funs,ok.frf⟩
section
variable {X:Cx} {pins:List (Addr × Obj)} {σ : St} {H:Hp} {s:Shared} {E:Value→Shared→Prop}
theorem Inv.wish (I:Inv X pins σ H s) (E:Value→Shared→Prop):Inv (X.wish E) pins σ H s:=⟨I.ok.wish E,I.os,I.bare,I.base,I.loc,I.cell,I.free,I.freeC,I.pin,I.hok,I.len⟩
theorem Inv.unwish (I:Inv (X.wish E) pins σ H s):Inv X pins σ H s:=⟨I.ok.unwish,I.os,I.bare,I.base,I.loc,I.cell,I.free,I.freeC,I.pin,I.hok,I.len⟩
theorem SP.unwish {D:Ends} {f:Flow} {s':Shared} (h:SP (X.wish E) pins D f s'):SP X pins D f s':=by
  cases f with
  | next=>obtain ⟨σ',H',I,q⟩:=h;exact ⟨σ',H',I.unwish,q⟩
  | brk=>obtain ⟨σ',H',I,q⟩:=h;exact ⟨σ',H',I.unwish,q⟩
  | cont=>obtain ⟨σ',H',I,q⟩:=h;exact ⟨σ',H',I.unwish,q⟩
  | ret u=>obtain ⟨v, σ',H',I,r,q⟩:=h;exact ⟨v, σ',H',I.unwish,r,q⟩
theorem PSs.nox {st:List Stmt} {t:TS} (h:PSs X.nox st t):PSs X st t:=fun pins s σ H D I hw =>
  wpAny_mono (h pins s σ H D (I.wish _) hw) (fun _ _ q=>q.unwish) fun _ _ z=>False.elim z
end

section
variable {X:Cx} {st:Stmt} {rest:List Stmt} {t u:TS} {e:Expr} {te:TE} {pos:Pos}
noncomputable def tNext:TS:=fun D σ H=>D.nx σ H
noncomputable def tSeq (t u:TS):TS:=fun D σ H=>t { D with nx:=u D } σ H
theorem pss_nil:PSs X [] tNext:=fun _ _ σ H _ I h=>wpAny_execs_nil ⟨σ,H,I,h⟩
theorem pss_cons (h1:PS X st t) (h2:PSs X rest u):PSs X (st :: rest) (tSeq t u):=by
  intro pins s σ H D I h
  refine wpAny_execs_cons (thn (h1 pins s σ H { D with nx:=u D } I h) fun f s1 q => ?_)
  cases f with
  | next =>
    obtain ⟨σ',H',I',q⟩:=q
    exact h2 pins s1 σ' H' D I' q
  | ret v=>exact q
  | brk=>exact q
  | cont=>exact q
theorem pss_one (h1:PS X st t):PSs X [st] t:=by
  intro pins s σ H D I h
  refine wpAny_execs_cons (thn (h1 pins s σ H D I h) fun f s1 q => ?_)
  cases f with
  | next=>exact wpAny_execs_nil q
  | ret v=>exact q
  | brk=>exact q
  | cont=>exact q
theorem Inv.quiet {pins:List (Addr × Obj)} {σ : St} {H:Hp} {s:Shared} (I:Inv X pins σ H s):interactive X.env=false:=by simp [interactive,I.ok.kind]
noncomputable def tDrop (te:TE):TS:=fun D σ H=>te σ H fun _ H1=>D.nx σ H1
theorem ps_expr (he:PE X e te) (hs:swapsWith e none pos.line X.env=pure false:=by rfl):PS X (.Expr e pos) (tDrop te):=by
  intro pins s σ H D I h
  exact wpAny_Expr_any (thn (he pins s σ H _ I h) fun v s1 ⟨x,H1,I1,r1,q1⟩=>⟨σ,H1,I1,q1⟩) I.quiet hs
noncomputable def tRet (te:TE):TS:=fun D σ H=>te σ H D.rt
theorem ps_ret (he:PE X e te):PS X (.Return (some e) pos) (tRet te):=by
  intro pins s σ H D I h
  exact wpAny_Return_some (thn (he pins s σ H _ I h) fun v s1 ⟨x,H1,I1,r1,q1⟩=>⟨x, σ,H1,I1,r1,q1⟩)
noncomputable def tIfS (c:TT) (t u:TS):TS:=fun D σ H=>c σ H fun b H1=>if b=true then t D σ H1 else u D σ H1
theorem ps_if {c:Expr} {a b:List Stmt} {tc:TT} (hc:PT X c tc) (ha:PSs X a t) (hb:PSs X b u):PS X (.If c a b pos) (tIfS tc t u):=by
  intro pins s σ H D I h
  refine wpAny_If (thn (hc pins s σ H _ I h) fun d s1 ⟨H1,I1,q1⟩ => ?_)
  cases d with
  | true=>exact ha pins s1 σ H1 D I1 q1
  | false=>exact hb pins s1 σ H1 D I1 q1
end

noncomputable abbrev TG:=V→St→Hp→(St→Hp→Prop)→Prop
noncomputable abbrev TGs:=List V→St→Hp→(St→Hp→Prop)→Prop
noncomputable def PG (X:Cx) (target:Expr) (t:TG):Prop :=
  ∀ (pins:List (Addr × Obj)) (s:Shared) (σ : St) (H:Hp) (v:V) (u:Value) (Q:St→Hp→Prop),Inv X pins σ H s→RelV v u→t v σ H Q →
    wpAny (model X.prog X.w) X.A (assign target X.env u) (fun _ s'=>∃ σ' H',Inv X pins σ' H' s'∧Q σ' H') X.xe s
noncomputable def PGs (X:Cx) (ts:List Expr) (t:TGs):Prop :=
  ∀ (pins:List (Addr × Obj)) (s:Shared) (σ : St) (H:Hp) (vs:List V) (us:List Value) (Q:St→Hp→Prop),Inv X pins σ H s→Vals vs us→t vs σ H Q →
    wpAny (model X.prog X.w) X.A (assignInOrder ((assignEach ts X.env).map (·.2)) us) (fun _ s'=>∃ σ' H',Inv X pins σ' H' s'∧Q σ' H') X.xe s
noncomputable abbrev TSet:=V→V→V→Hp→(Hp→Prop)→Prop
noncomputable def PSet (X:Cx) (t:TSet):Prop :=
  ∀ (pins:List (Addr × Obj)) (s:Shared) (σ : St) (H:Hp) (o i v:V) (ov iv u:Value) (Q:Hp→Prop),Inv X pins σ H s→RelV o ov→RelV i iv→RelV v u→t o i v H Q →
    wpAny (model X.prog X.w) X.A (setItem ov iv u) (fun _ s'=>∃ H',Inv X pins σ H' s'∧Q H') X.xe s
noncomputable abbrev TIp:=V→V→Hp→VK→Prop
noncomputable def PIp (X:Cx) (op:Operator) (t:TIp):Prop :=
  ∀ (pins:List (Addr × Obj)) (s:Shared) (σ : St) (H:Hp) (x y:V) (v u:Value) (Q:VK),Inv X pins σ H s→RelV x v→RelV y u→t x y H Q →
    wpAny (model X.prog X.w) X.A (inplaceOp op v u) (EP X pins σ Q) X.xe s
section
variable {X:Cx} {pos:Pos}
noncomputable def gName (i:Nat):TG:=fun v σ H Q=>Q (σ.set i (some v)) H
theorem pg_name {i:Nat} {x:Str} (hN:X.N.Nodup) (hi:X.N[i]? = some x) (hx:Loc X.env.scope x) (hf:X.fn x=true∨X.env.scope.names.lookup x=some .local:=by first | exact .inl rfl | exact .inr rfl | assumption):PG X (.Name x pos) (gName i):=by
  intro pins s σ H v u Q I r h
  exact wpAny_assign_Name (store_ok I hN hi hx r (fun s' I'=>⟨_,H,I',h⟩) hf)
noncomputable def gNil:TGs:=fun vs σ H Q=>vs = []∧Q σ H
inductive J_gCons (t:TG) (u:TGs) (vs:List V) (σ : St) (H:Hp) (Q:St→Hp→Prop):Prop
  | mk:∀ v r,(vs=v :: r)→(t v σ H fun σ' H'=>u r σ' H' Q)→J_gCons t u vs σ H Q
noncomputable def gCons (t:TG) (u:TGs):TGs:=fun vs σ H Q=>J_gCons t u vs σ H Q
theorem pgs_nil:PGs X [] gNil:=by
  intro pins s σ H vs us Q I r h
  obtain ⟨e,h⟩:=h
  subst e
  cases r
  exact assignInOrder_nil ⟨σ,H,I,h⟩
theorem pgs_cons {e:Expr} {es:List Expr} {t:TG} {u:TGs} (h1:PG X e t) (h2:PGs X es u)
    (hs:(assignEach (e :: es) X.env).map (·.2)=assign e X.env :: (assignEach es X.env).map (·.2):=by rfl):PGs X (e :: es) (gCons t u):=by
  intro pins s σ H vs us Q I r h
  obtain ⟨v,vr,e1,h⟩:=h
  subst e1
  cases r with
  | cons r rr =>
    rw [hs]
    refine assignInOrder_cons (thn (h1 pins s σ H _ _ _ I r h) fun _ s1 ⟨σ1,H1,I1,q1⟩ => ?_)
    exact h2 pins s1 σ1 H1 _ _ Q I1 rr q1
inductive J_gTup (K:PySem.W.Frag) (n:Nat) (t:TGs) (v:V) (σ : St) (H:Hp) (Q:St→Hp→Prop):Prop
  | mk:∀ a xs,(v = .ref a)→(SqT K H a xs)→(xs.length=n)→(t xs σ H Q)→J_gTup K n t v σ H Q
noncomputable def gTup (K:PySem.W.Frag) (n:Nat) (t:TGs):TG:=fun v σ H Q=>J_gTup K n t v σ H Q
theorem pg_tup {es:List Expr} {k:Nat} {t:TGs} {n:Nat} (hc:X.calm=true) (h:PGs X es t)
    (hn:(assignEach es X.env).length=n:=by rfl) (hst:(assignEach es X.env).findIdx? (·.1)=none:=by rfl):PG X (.Tuple es k pos) (gTup X.K n t):=by
  intro pins s σ H v u Q I r hw
  obtain ⟨a,xs,e1,hq,hl,hw⟩:=hw
  subst e1
  cases r
  obtain ⟨its,rv,ht,hz⟩:=I.tuple hq
  refine assign_Tuple_tuple (I.ok.hd hc) ht (by simp [hn, ← hl,rv.length]) hst fun h' hx => ?_
  have I1:Inv X pins σ H { s with heap:=h' }:=I.kept (t':=s.toks) fun b o e=>hx b o (Nat.ne_of_lt (Heap.lt_size e)) e
  exact h pins _ σ H xs _ Q I1 (by simpa using rv) hw
noncomputable def gSub (to ti:TE) (t:TSet):TG:=fun v σ H Q=>to σ H fun o H1=>ti σ H1 fun i H2=>t o i v H2 fun H3=>Q σ H3
theorem pg_sub {o i:Expr} {to ti:TE} {t:TSet} (ho:PE X o to) (hi:PE X i ti) (hs:PSet X t)
    (ha:∀ v,assign (.Subscript o i pos) X.env v=(do
      let ov ← holding [v] (eval o X.env)
      let iv ← holding [v,ov] (eval i X.env)
      standAt pos
      holding [v,ov,iv] (setItem ov iv v)
      release [v,ov,iv] []):=by intro _;rfl):PG X (.Subscript o i pos) (gSub to ti t):=by
  intro pins s σ H v u Q I r h
  rw [ha]
  refine wpAny_bind (wpAny_holding (thn (ho pins s σ H _ I h) fun ov s1 ⟨x,H1,I1,r1,q1⟩ => ?_))
  refine wpAny_bind (wpAny_holding (thn (hi pins s1 σ H1 _ I1 q1) fun iv s2 ⟨y,H2,I2,r2,q2⟩ => ?_))
  refine wpAny_bind (wpAny_standAt (wpAny_bind (wpAny_holding (thn (hs pins s2 σ H2 x y v ov iv u _ I2 r1 r2 r q2) fun _ s3 ⟨H3,I3,q3⟩ => ?_))))
  exact wpAny_release ⟨σ,H3,I3,q3⟩
noncomputable def tAsg (te:TE) (g:TG):TS:=fun D σ H=>te σ H fun x H1=>g x σ H1 D.nx
theorem ps_asg {tg e:Expr} {te:TE} {g:TG} (he:PE X e te) (hg:PG X tg g) (hs:swapsWithSole [tg] e pos.line X.env=pure false:=by rfl) (hw:swappedStores [tg] e X.env=pure none:=by rfl)
    (h1:(assignEach [tg] X.env).map (·.2) = [assign tg X.env]:=by rfl):PS X (.Assign [tg] e pos) (tAsg te g):=by
  intro pins s σ H D I h
  refine wpAny_Assign_stores (thn (he pins s σ H _ I h) fun v s1 ⟨x,H1,I1,r1,q1⟩ => ?_) hs hw
  rw [h1]
  exact thn (hg pins s1 σ H1 x v _ I1 r1 q1) fun _ s2 q=>q
theorem ps_set {i:Nat} {x:Str} {e:Expr} {te:TE} {pos':Pos} (hN:X.N.Nodup) (hi:X.N[i]? = some x) (hx:Loc X.env.scope x) (he:PE X e te) (hs:swapsWith e (some (.Name x pos')) pos.line X.env=pure false:=by rfl) (hf:X.fn x=true∨X.env.scope.names.lookup x=some .local:=by first | exact .inl rfl | exact .inr rfl | assumption) :
    PS X (.Assign [.Name x pos'] e pos) (tAsg te (gName i)):=by
  intro pins s σ H D I h
  refine wpAny_Assign_Name (thn (he pins s σ H _ I h) fun v s1 ⟨y,H1,I1,r1,q1⟩ => ?_) hs
  exact store_ok I1 hN hi hx r1 (fun s2 I2=>⟨_,H1,I2,q1⟩) hf
inductive J_tAug (i:Nat) (te:TE) (ti:TIp) (D:Ends) (σ : St) (H:Hp):Prop
  | mk:∀ x,(σ[i]? = some (some x))→(te σ H fun y H1=>ti x y H1 fun z H2=>D.nx (σ.set i (some z)) H2)→J_tAug i te ti D σ H
noncomputable def tAug (i:Nat) (te:TE) (ti:TIp):TS:=fun D σ H=>J_tAug i te ti D σ H
theorem ps_aug {i:Nat} {x:Str} {e:Expr} {te:TE} {op:Operator} {ti:TIp} {pos':Pos} (hN:X.N.Nodup) (hi:X.N[i]? = some x) (hx:Loc X.env.scope x) (he:PE X e te) (ho:PIp X op ti) (hf:X.fn x=true∨X.env.scope.names.lookup x=some .local:=by first | exact .inl rfl | exact .inr rfl | assumption) :
    PS X (.AugAssign (.Name x pos') op e pos) (tAug i te ti):=by
  intro pins s σ H D I h
  obtain ⟨v,e1,h⟩:=h
  obtain ⟨m,hn,hl⟩:=I.loc
  have vis:Vis X.env.scope x:=by rcases hx with k | k;exact .inl k;exact .inr (.inl k)
  obtain ⟨u,r,l⟩:=hl i x v hi e1 vis
  refine wpAny_AugAssign_Name ?_
  have go:wpAny (model X.prog X.w) X.A (eval e X.env) (fun w s₂ => wpAny (model X.prog X.w) X.A (inplaceOp op u w) (fun r s₃ => wpAny (model X.prog X.w) X.A (storeName X.env x r) (fun _=>SP X pins D .next) X.xe s₃) X.xe s₂) X.xe s:=by
    refine thn (he pins s σ H _ I h) fun w s1 ⟨y,H1,I1,r1,q1⟩ => ?_
    refine thn (ho pins s1 σ H1 v y u w _ I1 r r1 q1) fun z s2 ⟨zv,H2,I2,r2,q2⟩ => ?_
    exact store_ok I2 hN hi hx r2 (fun s3 I3=>⟨_,H2,I3,q2⟩) hf
  rcases l with ⟨hk,hm⟩ | ⟨hk,c,hc,hcell⟩
  · exact wpAny_loadName_local I.ok.kind hk hn hm go
  · rcases hk with hk | hk
    · exact wpAny_loadName_cell I.ok.kind hk hc hcell go
    · rcases hx with k | k
      · have:X.env.scope.names.lookup x=some .free:=hk
        rw [k] at this;cases this
      · have:X.env.scope.names.lookup x=some .free:=hk
        rw [k] at this;cases this
noncomputable def ipI (f:Int→Int→Int):TIp:=fun x y H Q=>∃ i j,x = .int i∧y = .int j∧Q (.int (f i j)) H
theorem ip_add:PIp X .Add (ipI fun i j=>i+j):=by
  intro pins s σ H x y v u Q I r1 r2 h
  obtain ⟨i,j,e1,e2,q⟩:=h
  subst e1;subst e2
  obtain ⟨t,rfl⟩:=r1
  obtain ⟨t',rfl⟩:=r2
  exact iadd_int ⟨.int _,H,I.tok _,⟨_,rfl⟩,q⟩
end

section
variable {X:Cx} {pos:Pos}
noncomputable def tWhile (c:TT) (tb:TS):TS:=fun D σ H=>∃ W:Nat→St→Hp→Prop,(∃ m,W m σ H)∧∀ m σ H,W m σ H →
  c σ H fun b H1=>if b=true then ∃ N:St→Hp→Prop,(∀ σ' H',N σ' H'→∃ m',m' < m∧W m' σ' H')∧tb { D with nx:=N,ct:=N,bk:=D.nx } σ H1 else D.nx σ H1
theorem ps_while {c:Expr} {body:List Stmt} {tc:TT} {tb:TS} (hp:PassesOwn (model X.prog X.w) X.A X.env X.xe) (hc:PT X c tc) (hb:PSs X body tb):PS X (.While c body [] pos) (tWhile tc tb):=by
  intro pins s σ H D I h
  obtain ⟨W,⟨m0,w0⟩,turn⟩:=h
  refine wpAny_While (codeAny_whileLoop (fun n s'=>∃ σ' H',Inv X pins σ' H' s'∧W n σ' H') ?_ m0 ⟨σ,H,I,w0⟩)
  rintro n s1 ⟨σ1,H1,I1,w1⟩
  refine wpAny_passesOwn hp (thn (hc pins s1 σ1 H1 _ I1 (turn n σ1 H1 w1)) fun b s2 ⟨H2,I2,q2⟩ => ?_)
  cases b with
  | true =>
    obtain ⟨N,hN,q2⟩:=q2
    rw [if_pos rfl]
    refine wpAny_passesOwn hp (thn (hb pins s2 σ1 H2 _ I2 q2) fun f s3 q3 => ?_)
    cases f with
    | next =>
      obtain ⟨σ3,H3,I3,n3⟩:=q3
      obtain ⟨m',hm,w3⟩:=hN σ3 H3 n3
      exact ⟨m',hm, σ3,H3,I3,w3⟩
    | cont =>
      obtain ⟨σ3,H3,I3,n3⟩:=q3
      obtain ⟨m',hm,w3⟩:=hN σ3 H3 n3
      exact ⟨m',hm, σ3,H3,I3,w3⟩
    | brk=>exact q3
    | ret v=>exact q3
  | false =>
    rw [if_neg Bool.false_ne_true]
    exact wpAny_execs_nil ⟨σ1,H2,I2,q2⟩
end

structure It where
  go:Nat→Hp→Prop
  yld:Nat→Hp→V→Hp→Prop
  stop:Nat→Hp→Prop
noncomputable def FpOk (X:Cx) (pins:List (Addr × Obj)) (H:Hp) (b:Addr):Prop :=
  H b=none∧b≠X.env.locals∧b ∉ X.fs∧(b∈X.ex∨X.s₀.heap.objs.size≤b)∧(∀ x c,X.env.cells.lookup x=some c→c≠b)∧∀ p∈X.pn ++ pins,p.1≠b
theorem Inv.fpOk {X:Cx} {pins:List (Addr × Obj)} {σ : St} {H H':Hp} {s:Shared} {b:Addr} (I:Inv X pins σ H s) (hb:s.heap.objs.size≤b) (hn:H' b=none):FpOk X pins H' b:=by
  refine ⟨hn,Nat.ne_of_gt (Nat.lt_of_lt_of_le I.lt hb),I.nofs hb,.inr (Nat.le_trans I.sz hb),fun x c e z => ?_,fun p hp z => ?_⟩
  · obtain ⟨v,q⟩:=I.cell x c e
    exact absurd (Nat.lt_of_lt_of_le q.lt (by rw [z];exact hb)) (Nat.lt_irrefl _)
  · exact absurd (Nat.lt_of_lt_of_le (Heap.lt_size (I.pin p hp).1) (by rw [z];exact hb)) (Nat.lt_irrefl _)
structure Turn (P:Program) (w:World) (K:PySem.W.Frag) (tg:Expr) (J:It) (fp:List Addr) (it:Addr) (tn:Nat→Heap→Prop):Prop where
  mem:it∈fp
  obj:∀ i h,tn i h→∀ b∈fp,∃ o,h.get? b=some o∧∀ v,o.data ≠ .cell v
  keep:∀ i h h',tn i h→(∀ b∈fp,∀ o,h.get? b=some o→h'.get? b=some o)→tn i h'
  item:∀ (X:Cx),X.prog=P→X.w=w→X.K=K→X.calm=true→∀ (i:Nat) (pins:List (Addr × Obj)) (s:Shared) (σ : St) (H:Hp) (E:Value→Shared→Prop),Inv X pins σ H s→(∀ b∈fp,FpOk X pins H b)→tn i s.heap→J.go i H →
    wpAny (model P w) X.A (pyNext (.ref it)) (fun r s1=>∃ u,r=some u ∧
      wpAny (model P w) X.A (letOwnedTupleGo tg (.ref it) u) (fun _ s2=>∃ x H',Inv X pins σ H' s2∧RelV x u∧J.yld i H x H'∧tn (i+1) s2.heap∧∀ b∈fp,H' b=none) E s1) E s
  done:∀ (X:Cx),X.prog=P→X.w=w→X.K=K→X.calm=true→∀ (i:Nat) (pins:List (Addr × Obj)) (s:Shared) (σ : St) (H:Hp) (E:Value→Shared→Prop),Inv X pins σ H s→(∀ b∈fp,FpOk X pins H b)→tn i s.heap→J.stop i H →
    wpAny (model P w) X.A (pyNext (.ref it)) (fun r s1=>r=none∧Inv X pins σ H s1) E s
  self:∀ (A:Around) (i:Nat) (s:Shared) (Q:Value→Shared→Prop) (E:Value→Shared→Prop),tn i s.heap→Q (.ref it) s→wpAny (model P w) A (pyIter (.ref it)) Q E s
noncomputable abbrev TI:=St→Hp→(It→Hp→Prop)→Prop
noncomputable def PIE (X:Cx) (pins:List (Addr × Obj)) (σ : St) (tg:Expr) (R:It→Hp→Prop) (itv:Value) (s2:Shared):Prop :=
  ∃ (it:Addr) (fp:List Addr) (tn:Nat→Heap→Prop) (J:It) (H':Hp),itv = .ref it∧Inv X pins σ H' s2∧Turn X.prog X.w X.K tg J fp it tn∧tn 0 s2.heap∧(∀ b∈fp,FpOk X pins H' b)∧R J H'
noncomputable def PI (X:Cx) (tg iter:Expr) (wi:TI):Prop :=
  ∀ (pins:List (Addr × Obj)) (s:Shared) (σ : St) (H:Hp) (R:It→Hp→Prop),Inv X pins σ H s→wi σ H R →
    wpAny (model X.prog X.w) X.A (eval iter X.env) (fun v s1=>wpAny (model X.prog X.w) X.A (pyIter v) (PIE X pins σ tg R) X.xe s1) X.xe s

theorem go_of {M:Model} {A:Around} {E:Value→Shared→Prop} {s:Shared} {tg:Expr} {it:Addr} {u:Value} {o:Obj} {n:String} {vs:Array Value} {Q:Unit→Shared→Prop} (ho:s.heap.get? it=some o) (hc:o.cls = .type n) (hd:o.data = .fields vs)
    (hn : ["enumerate", "zip", "dict_itemiterator", "dict_reverseitemiterator", "odict_iterator", "itertools.zip_longest", "itertools.pairwise"].contains n=false) (hQ:Q () s):wpAny M A (letOwnedTupleGo tg (.ref it) u) Q E s:=by
  unfold letOwnedTupleGo
  cases tg <;> first
    | exact wpAny_pure hQ
    | (cases u <;> first
        | exact wpAny_pure hQ
        | (refine wpAny_bind (wpAny_load ho ?_)
           rw [hc,hd]
           show wpAny M A (if (["enumerate", "zip", "dict_itemiterator", "dict_reverseitemiterator", "odict_iterator", "itertools.zip_longest", "itertools.pairwise"].contains n && vs[0]? == some (rawInt _))=true then _ else _) Q E s
           rw [if_neg (by intro h;rw [hn,Bool.false_and] at h;cases h)]
           exact wpAny_pure hQ))

noncomputable def Itl (K:PySem.W.Frag) (a:Addr):It :=
  ⟨fun i H=>∃ xs x,SqL K H a xs∧xs[i]? = some x,fun i H x H'=>H'=H∧∀ xs,SqL K H a xs→xs[i]? = some x,fun i H=>∃ xs,SqL K H a xs∧xs.length≤i⟩
noncomputable def Itt (K:PySem.W.Frag) (a:Addr):It :=
  ⟨fun i H=>∃ xs x,SqT K H a xs∧xs[i]? = some x,fun i H x H'=>H'=H∧∀ xs,SqT K H a xs→xs[i]? = some x,fun i H=>∃ xs,SqT K H a xs∧xs.length≤i⟩
noncomputable def Itr (lo:Int) (n:Nat):It:=⟨fun i _=>i < n,fun i H x H'=>H'=H∧x = .int (lo+i),fun i _=>n≤i⟩
theorem turn_list {P:Program} {w:World} {K:PySem.W.Frag} {tg:Expr} (a it:Addr):Turn P w K tg (Itl K a) [it] it (fun i h=>h.IsListIter it a i) where
  mem:=by simp
  obj:=fun i h st b hb=>by
    have e:b=it:=by simpa using hb
    subst e
    obtain ⟨o,e,c,d⟩:=st
    exact ⟨o,e,fun v z=>by rw [d] at z;cases z⟩
  keep:=fun i h h' st k=>st.at fun o e=>k it (by simp) o e
  item:=by
    intro X hP hw hK hc i pins s σ H E I hf st hg
    subst hP hw hK
    obtain ⟨xs,x,hq,hx⟩:=hg
    obtain ⟨its,rv,p,hz⟩:=I.list hq
    obtain ⟨u,hu,ru⟩:=rv.get hx
    obtain ⟨f0,f1,f2,f3,f4,f5⟩:=hf it (by simp)
    refine wpAny_pyNext_list_item st p.isList (x:=u) (by simpa using hu) fun h' st' sb => ?_
    have I1:Inv X pins σ H { s with heap:=h' }:=I.turned (t':=s.toks) (fun b o hb e=>(sb.2 b hb).trans e) f0 f1 f3 f4 f5
    obtain ⟨o,e,c,d⟩:=id st'
    exact ⟨u,rfl,go_of (s := { s with heap:=h' }) e c d (by decide) ⟨x,H,I1,ru,⟨rfl,fun ys hy=>by rw [I.list_inj hy hq];exact hx⟩,st',fun b hb=>(hf b hb).1⟩⟩
  done:=by
    intro X hP hw hK hc i pins s σ H E I hf st hg
    subst hP hw hK
    obtain ⟨xs,hq,hx⟩:=hg
    obtain ⟨its,rv,p,hz⟩:=I.list hq
    obtain ⟨f0,f1,f2,f3,f4,f5⟩:=hf it (by simp)
    have hl:=rv.length
    exact wpAny_pyNext_list_end (I.ok.hd hc) st p.isList (by simp;omega) fun h' eb=>⟨rfl,I.turned (t':=s.toks) (fun b o hb e=>eb b o hb e) f0 f1 f3 f4 f5⟩
  self:=fun _ _ _ _ _ st h=>wpAny_pyIter_listiter st h
theorem turn_tuple {P:Program} {w:World} {K:PySem.W.Frag} {tg:Expr} (a it:Addr):Turn P w K tg (Itt K a) [it] it (fun i h=>h.IsTupleIter it a i) where
  mem:=by simp
  obj:=fun i h st b hb=>by
    have e:b=it:=by simpa using hb
    subst e
    obtain ⟨o,e,c,d⟩:=st
    exact ⟨o,e,fun v z=>by rw [d] at z;cases z⟩
  keep:=fun i h h' st k=>st.at fun o e=>k it (by simp) o e
  item:=by
    intro X hP hw hK hc i pins s σ H E I hf st hg
    subst hP hw hK
    obtain ⟨xs,x,hq,hx⟩:=hg
    obtain ⟨its,rv,p,hz⟩:=I.tuple hq
    obtain ⟨u,hu,ru⟩:=rv.get hx
    obtain ⟨f0,f1,f2,f3,f4,f5⟩:=hf it (by simp)
    refine wpAny_pyNext_tuple_item st (show s.heap.IsTuple a its.toArray from p) (x:=u) (by simpa using hu) fun h' st' sb => ?_
    have I1:Inv X pins σ H { s with heap:=h' }:=I.turned (t':=s.toks) (fun b o hb e=>(sb.2 b hb).trans e) f0 f1 f3 f4 f5
    obtain ⟨o,e,c,d⟩:=id st'
    exact ⟨u,rfl,go_of (s := { s with heap:=h' }) e c d (by decide) ⟨x,H,I1,ru,⟨rfl,fun ys hy=>by rw [I.tuple_inj hy hq];exact hx⟩,st',fun b hb=>(hf b hb).1⟩⟩
  done:=by
    intro X hP hw hK hc i pins s σ H E I hf st hg
    subst hP hw hK
    obtain ⟨xs,hq,hx⟩:=hg
    obtain ⟨its,rv,p,hz⟩:=I.tuple hq
    obtain ⟨f0,f1,f2,f3,f4,f5⟩:=hf it (by simp)
    have hl:=rv.length
    exact wpAny_pyNext_tuple_end (I.ok.hd hc) st (show s.heap.IsTuple a its.toArray from p) (by simp;omega) fun h' eb=>⟨rfl,I.turned (t':=s.toks) (fun b o hb e=>eb b o hb e) f0 f1 f3 f4 f5⟩
  self:=fun _ _ _ _ _ st h=>wpAny_pyIter_tupleiter st h
theorem turn_range {P:Program} {w:World} {K:PySem.W.Frag} {tg:Expr} (it:Addr) (lo:Int) (n:Nat):Turn P w K tg (Itr lo n) [it] it (fun i h=>IsRangeIter h it (lo+(i:Nat) * 1) ((n:Int) - (i:Nat)) 1) where
  mem:=by simp
  obj:=fun i h st b hb=>by
    have e:b=it:=by simpa using hb
    subst e
    exact ⟨_,st,fun v z=>by
      have z':Data.fields _=Data.cell v:=z
      cases z'⟩
  keep:=fun i h h' st k=>k it (by simp) _ st
  item:=by
    intro X hP hw hK hc i pins s σ H E I hf st hg
    subst hP hw hK
    obtain ⟨f0,f1,f2,f3,f4,f5⟩:=hf it (by simp)
    have W:=Walks.range (prog:=X.prog) (w:=X.w) (I.ok.hd hc) it lo 1 n
    refine W.item i s _ _ hg st fun v h' tk hv st' kk => ?_
    obtain ⟨t,rfl⟩:=hv
    have I1:Inv X pins σ H { s with heap:=h',toks:=tk }:=I.turned (fun b o hb e=>kk b o (by simpa using hb) e) f0 f1 f3 f4 f5
    refine ⟨_,rfl,go_of (s := { s with heap:=h',toks:=tk }) (n := "range_iterator") st' rfl rfl (by decide) ⟨.int (lo+i),H,I1,⟨t,?_⟩,⟨rfl,rfl⟩,st',fun b hb=>(hf b hb).1⟩⟩
    rw [Int.mul_one]
  done:=by
    intro X hP hw hK hc i pins s σ H E I hf st hg
    subst hP hw hK
    obtain ⟨f0,f1,f2,f3,f4,f5⟩:=hf it (by simp)
    exact wpAny_pyNext_range_end (I.ok.hd hc) st (by have:n≤i:=hg;omega) fun h' eb=>⟨rfl,I.turned (t':=s.toks) (fun b o hb e=>eb b o hb e) f0 f1 f3 f4 f5⟩
  self:=fun _ _ _ _ _ st h=>wpAny_pyIter_rangeiter st h
end L2

namespace L2
open PySem PySem.Spec PyProof.Rows
section
variable {X:Cx} {tg:Expr}
inductive J_iList (K:PySem.W.Frag) (R:It→Hp→Prop) (x:V) (H1:Hp):Prop
  | mk:∀ a,(x = .ref a)→((∃ xs,SqL K H1 a xs))→(R (Itl K a) H1)→J_iList K R x H1
noncomputable def iList (K:PySem.W.Frag) (tl:TE):TI:=fun σ H R=>tl σ H fun x H1=>J_iList K R x H1
inductive J_iTup (K:PySem.W.Frag) (R:It→Hp→Prop) (x:V) (H1:Hp):Prop
  | mk:∀ a,(x = .ref a)→((∃ xs,SqT K H1 a xs))→(R (Itt K a) H1)→J_iTup K R x H1
noncomputable def iTup (K:PySem.W.Frag) (tl:TE):TI:=fun σ H R=>tl σ H fun x H1=>J_iTup K R x H1
theorem pi_list {l:Expr} {tl:TE} (hl:PE X l tl):PI X tg l (iList X.K tl):=by
  intro pins s σ H R I h
  refine thn (hl pins s σ H _ I h) fun v s1 ⟨x,H1,I1,r1,q1⟩ => ?_
  obtain ⟨a,e,⟨xs,hq⟩,q⟩:=q1
  subst e
  cases r1
  obtain ⟨its,rv,p,hz⟩:=I1.list hq
  refine wpAny_pyIter_list p.isList ?_
  refine ⟨s1.heap.objs.size, [s1.heap.objs.size],_,_,H1,rfl,I1.kept (t':=s1.toks) fun b o e=>Heap.get?_push_of_some _ e,turn_list a _,⟨_,Heap.get?_push_size _ rfl,rfl,rfl⟩,fun b hb => ?_,q⟩
  have e:b=s1.heap.objs.size:=by simpa using hb
  subst e
  exact I1.fpOk (Nat.le_refl _) (I1.hok.fresh (Nat.le_refl _))
theorem pi_tup {l:Expr} {tl:TE} (hl:PE X l tl):PI X tg l (iTup X.K tl):=by
  intro pins s σ H R I h
  refine thn (hl pins s σ H _ I h) fun v s1 ⟨x,H1,I1,r1,q1⟩ => ?_
  obtain ⟨a,e,⟨xs,hq⟩,q⟩:=q1
  subst e
  cases r1
  obtain ⟨its,rv,p,hz⟩:=I1.tuple hq
  refine wpAny_pyIter_tuple (show s1.heap.IsTuple a its.toArray from p) ?_
  refine ⟨s1.heap.objs.size, [s1.heap.objs.size],_,_,H1,rfl,I1.kept (t':=s1.toks) fun b o e=>Heap.get?_push_of_some _ e,turn_tuple a _,⟨_,Heap.get?_push_size _ rfl,rfl,rfl⟩,fun b hb => ?_,q⟩
  have e:b=s1.heap.objs.size:=by simpa using hb
  subst e
  exact I1.fpOk (Nat.le_refl _) (I1.hok.fresh (Nat.le_refl _))
theorem range_it {pins:List (Addr × Obj)} {σ : St} {H:Hp} {s:Shared} {R:It→Hp→Prop} {E:Value→Shared→Prop} {lo hi:Int} {t u v:Tok} {tk:Nat} (I:Inv X pins σ H s) (h1 : -(2 ^ 62)≤lo) (h2:lo < 2 ^ 62) (h3 : -(2 ^ 62)≤hi) (h4:hi < 2 ^ 62)
    (q:R (Itr lo (hi - lo).toNat) H):wpAny (model X.prog X.w) X.A (pyIter (.ref s.heap.objs.size)) (PIE X pins σ tg R) E { s with heap:=s.heap.push { cls := .type "range",data := .fields #[.int lo t,.int hi u,.int 1 v] },toks:=tk }:=by
  refine wpAny_pyIter_range (IsRange.new ..) (small_one h1 h2 h3 h4) ?_
  have I1:Inv X pins σ H { s with heap:=s.heap.push { cls := .type "range",data := .fields #[.int lo t,.int hi u,.int 1 v] },toks:=tk }:=I.kept fun b o e=>Heap.get?_push_of_some _ e
  refine ⟨(s.heap.push { cls := .type "range",data := .fields #[.int lo t,.int hi u,.int 1 v] }).objs.size, [(s.heap.push { cls := .type "range",data := .fields #[.int lo t,.int hi u,.int 1 v] }).objs.size],_,_,H,rfl,
    I1.kept (t':=tk) fun b o e=>Heap.get?_push_of_some _ e,turn_range _ lo (hi - lo).toNat,?_,fun b hb => ?_,q⟩
  · have e1:lo+((0:Nat):Int) * 1=lo:=by simp
    have e2:(((hi - lo).toNat:Nat):Int) - ((0:Nat):Int)=Builtin.Range.rangeSize lo hi 1:=by rw [rangeSize_one];split <;> omega
    show IsRangeIter _ _ (lo+((0:Nat):Int) * 1) ((((hi - lo).toNat:Nat):Int) - ((0:Nat):Int)) 1
    rw [e1,e2]
    exact Heap.get?_push_size _ rfl
  · have e:b=(s.heap.push { cls := .type "range",data := .fields #[.int lo t,.int hi u,.int 1 v] }).objs.size:=by simpa using hb
    subst e
    exact I1.fpOk (Nat.le_refl _) (I1.hok.fresh (Nat.le_refl _))
inductive J_iRng1 (R:It→Hp→Prop) (vs:List V) (H1:Hp):Prop
  | mk:∀ (j:Int),(vs = [.int j])→(-(2 ^ 62)≤j)→(j < 2 ^ 62)→(R (Itr 0 j.toNat) H1)→J_iRng1 R vs H1
noncomputable def iRng1 (ta:TA):TI:=fun σ H R=>ta σ H fun vs H1=>J_iRng1 R vs H1
theorem pi_range1 {a:Expr} {ta:TA} {p pos:Pos} (hg:Gl X "range") (hm:X.mg "range" = none) (ha:PA X [a] ta) (hs:starEach [a] X.env = [(false,eval a X.env)]:=by rfl):PI X tg (.Call (.Name "range" p) [a] [] pos) (iRng1 ta):=by
  intro pins s σ H R I h
  refine Call_ (ld_blt I hg hm boot_range (PyProof.Rows.callWith_type1 (thn (ha pos pins s σ H _ I h) fun us s1 ⟨vs,H1,I1,r1,q1⟩ => ?_) hs rfl))
  obtain ⟨j,e,q1,q2,q⟩:=q1
  subst e
  cases r1 with
  | cons r rr =>
    cases rr
    obtain ⟨t,rfl⟩:=r
    exact call_range_1 (range_it I1 (by omega) (by omega) q1 q2 (by simpa using q))

noncomputable def tFor (wi:TI) (g:TG) (tb:TS):TS:=fun D σ H=>wi σ H fun J H1=>∃ W:Nat→Nat→St→Hp→Prop,(∃ m,W 0 m σ H1)∧∀ i m σ H,W i m σ H →
  (J.stop i H∧D.nx σ H)∨(J.go i H∧∃ N:St→Hp→Prop,(∀ σ' H',N σ' H'→∃ m',m' < m∧W (i+1) m' σ' H')∧∀ x H',J.yld i H x H'→g x σ H' fun σ2 H2=>tb { D with nx:=N,ct:=N,bk:=D.nx } σ2 H2)
noncomputable def pinsAt (fp:List Addr) (h:Heap):List (Addr × Obj):=fp.filterMap fun b=>(h.get? b).map fun o=>(b,o)
theorem mem_pinsAt {fp:List Addr} {h:Heap} {b:Addr} {o:Obj} (hb:b∈fp) (e:h.get? b=some o):(b,o)∈pinsAt fp h:=List.mem_filterMap.mpr ⟨b,hb,by rw [e];rfl⟩
theorem of_pinsAt {fp:List Addr} {h:Heap} {p:Addr × Obj} (hp:p∈pinsAt fp h):p.1∈fp∧h.get? p.1=some p.2:=by
  obtain ⟨b,hb,e⟩:=List.mem_filterMap.mp hp
  cases q:h.get? b with
  | none=>rw [q] at e;cases e
  | some o =>
    rw [q] at e
    have e':(b,o)=p:=Option.some.inj e
    subst e'
    exact ⟨hb,q⟩
theorem Inv.pinned {pins:List (Addr × Obj)} {σ : St} {H:Hp} {s:Shared} {fp:List Addr} (I:Inv X pins σ H s) (hf:∀ b∈fp,FpOk X pins H b) (ho:∀ b∈fp,∃ o,s.heap.get? b=some o∧∀ v,o.data ≠ .cell v):Inv X (pins ++ pinsAt fp s.heap) σ H s :=
  I.pins_of fun p hp=>(List.mem_append.mp hp).elim (fun z=>I.pin p (List.mem_append_right _ z)) fun z=>by
    obtain ⟨hb,e⟩:=of_pinsAt z
    obtain ⟨f0,f1,f2,_⟩:=hf p.1 hb
    obtain ⟨o,e',d⟩:=ho p.1 hb
    rw [e] at e';cases e'
    exact ⟨e,f0,f1,f2,d⟩
theorem Inv.unpinned {pins pl:List (Addr × Obj)} {σ : St} {H:Hp} {s:Shared} (I:Inv X (pins ++ pl) σ H s):Inv X pins σ H s:=I.pins_of fun p hp=>I.pin p (List.mem_append_right _ (List.mem_append_left _ hp))
theorem ps_for {iter:Expr} {body:List Stmt} {wi:TI} {g:TG} {tb:TS} {pos:Pos} (hp:PassesOwn (model X.prog X.w) X.A X.env X.xe) (hc:X.calm=true) (hi:PI X tg iter wi) (hg:PG X tg g) (hb:PSs X body tb)
    (hs:∀ x,foldedSetIterable iter X.env x=pure x:=by intro _;rfl):PS X (.For tg iter body [] pos) (tFor wi g tb):=by
  intro pins s σ H D I h
  refine wpAny_For (thn (hi pins s σ H _ I h) fun v s1 h1=>thn h1 fun itv s2 h2 => ?_) hs
  obtain ⟨it,fp,tn,J,H2,e,I2,T,st2,f2,W,⟨m0,w0⟩,turn⟩:=h2
  subst e
  -- what stays true of the iterator's objects through the loop
  have stat:∀ {H':Hp},(∀ b∈fp,H' b=none)→∀ b∈fp,FpOk X pins H' b:=fun hn b hb=>⟨hn b hb,(f2 b hb).2⟩
  refine codeAny_forLoop_any (fun n s'=>∃ i σ' H',Inv X pins σ' H' s'∧tn i s'.heap∧(∀ b∈fp,H' b=none)∧W i n σ' H') ?_ m0 ⟨0, σ,H2,I2,st2,fun b hb=>(f2 b hb).1,w0⟩
  rintro n s3 ⟨i, σ3,H3,I3,st3,fr3,w3⟩
  rcases turn i n σ3 H3 w3 with ⟨stop,qn⟩ | ⟨go,N,hN,step⟩
  · refine wpAny_passesOwn hp (thn (T.done X rfl rfl rfl hc i pins s3 σ3 H3 X.xe I3 (stat fr3) st3 stop) fun r s4 ⟨hr,I4⟩ => ?_)
    subst hr
    exact wpAny_execs_nil ⟨σ3,H3,I4,qn⟩
  · refine wpAny_passesOwn hp (thn (T.item X rfl rfl rfl hc i pins s3 σ3 H3 X.xe I3 (stat fr3) st3 go) fun r s4 ⟨u,hr,h4⟩ => ?_)
    subst hr
    refine wpAny_passesOwn hp (thn h4 fun _ s5 ⟨x,H5,I5,r5,y5,st5,fr5⟩ => ?_)
    have I5':=I5.pinned (stat fr5) (T.obj _ _ st5)
    refine wpAny_passesOwn hp (thn (hg _ s5 σ3 H5 x u _ I5' r5 (step x H5 y5)) fun _ s6 ⟨σ6,H6,I6,q6⟩ => ?_)
    refine wpAny_passesOwn hp (thn (hb _ s6 σ6 H6 _ I6 q6) fun f s7 q7 => ?_)
    have again:∀ {σ7:St} {H7:Hp},Inv X (pins ++ pinsAt fp s5.heap) σ7 H7 s7→N σ7 H7→∃ m,m < n∧∃ i σ' H',Inv X pins σ' H' s7∧tn i s7.heap∧(∀ b∈fp,H' b=none)∧W i m σ' H':=fun {σ7 H7} I7 n7=>by
      obtain ⟨m',hm,w7⟩:=hN σ7 H7 n7
      refine ⟨m',hm,i+1, σ7,H7,I7.unpinned,T.keep _ _ _ st5 fun b hb o e=>(I7.pin (b,o) (List.mem_append_right _ (List.mem_append_right _ (mem_pinsAt hb e)))).1,fun b hb => ?_,w7⟩
      obtain ⟨o,e,d⟩:=T.obj _ _ st5 b hb
      exact (I7.pin (b,o) (List.mem_append_right _ (List.mem_append_right _ (mem_pinsAt hb e)))).2.1
    cases f with
    | next=>obtain ⟨σ7,H7,I7,n7⟩:=q7;exact again I7 n7
    | cont=>obtain ⟨σ7,H7,I7,n7⟩:=q7;exact again I7 n7
    | brk=>obtain ⟨σ7,H7,I7,q7⟩:=q7;exact ⟨σ7,H7,I7.unpinned,q7⟩
    | ret v=>obtain ⟨x7, σ7,H7,I7,r7,q7⟩:=q7;exact ⟨x7, σ7,H7,I7.unpinned,r7,q7⟩
end

theorem for_list {K:PySem.W.Frag} {a:Addr} {xs:List V} {g:TG} {tb:TS} {D:Ends} {σ : St} {H:Hp} (Pv:Nat→St→Hp→Prop) (h0:Pv 0 σ H) (hl:∀ i σ H,i≤xs.length→Pv i σ H→SqL K H a xs)
    (hs:∀ i x σ H,xs[i]? = some x→Pv i σ H→g x σ H fun σ2 H2=>tb { D with nx:=Pv (i+1),ct:=Pv (i+1),bk:=D.nx } σ2 H2) (hd:∀ σ H,Pv xs.length σ H→D.nx σ H) :
    ∃ W:Nat→Nat→St→Hp→Prop,(∃ m,W 0 m σ H)∧∀ i m σ H,W i m σ H →
      ((Itl K a).stop i H∧D.nx σ H)∨((Itl K a).go i H∧∃ N:St→Hp→Prop,(∀ σ' H',N σ' H'→∃ m',m' < m∧W (i+1) m' σ' H')∧∀ x H',(Itl K a).yld i H x H'→g x σ H' fun σ2 H2=>tb { D with nx:=N,ct:=N,bk:=D.nx } σ2 H2):=by
  refine ⟨fun i m σ H=>m=xs.length - i∧i≤xs.length∧Pv i σ H,⟨xs.length,by simp,Nat.zero_le _,h0⟩,?_⟩
  rintro i m σ H ⟨rfl,hi,p⟩
  have q:=hl i σ H hi p
  by_cases hlt:i < xs.length
  · refine .inr ⟨⟨xs,xs[i],q,by simp [hlt]⟩,Pv (i+1),fun σ' H' p'=>⟨xs.length - (i+1),by omega,rfl,hlt,p'⟩,fun x H' y => ?_⟩
    obtain ⟨e,y⟩:=y
    subst e
    exact hs i x σ _ (y xs q) p
  · have e:i=xs.length:=by omega
    subst e
    exact .inl ⟨⟨xs,q,Nat.le_refl _⟩,hd σ H p⟩
theorem for_tup {K:PySem.W.Frag} {a:Addr} {xs:List V} {g:TG} {tb:TS} {D:Ends} {σ : St} {H:Hp} (Pv:Nat→St→Hp→Prop) (h0:Pv 0 σ H) (hl:∀ i σ H,i≤xs.length→Pv i σ H→SqT K H a xs)
    (hs:∀ i x σ H,xs[i]? = some x→Pv i σ H→g x σ H fun σ2 H2=>tb { D with nx:=Pv (i+1),ct:=Pv (i+1),bk:=D.nx } σ2 H2) (hd:∀ σ H,Pv xs.length σ H→D.nx σ H) :
    ∃ W:Nat→Nat→St→Hp→Prop,(∃ m,W 0 m σ H)∧∀ i m σ H,W i m σ H →
      ((Itt K a).stop i H∧D.nx σ H)∨((Itt K a).go i H∧∃ N:St→Hp→Prop,(∀ σ' H',N σ' H'→∃ m',m' < m∧W (i+1) m' σ' H')∧∀ x H',(Itt K a).yld i H x H'→g x σ H' fun σ2 H2=>tb { D with nx:=N,ct:=N,bk:=D.nx } σ2 H2):=by
  refine ⟨fun i m σ H=>m=xs.length - i∧i≤xs.length∧Pv i σ H,⟨xs.length,by simp,Nat.zero_le _,h0⟩,?_⟩
  rintro i m σ H ⟨rfl,hi,p⟩
  have q:=hl i σ H hi p
  by_cases hlt:i < xs.length
  · refine .inr ⟨⟨xs,xs[i],q,by simp [hlt]⟩,Pv (i+1),fun σ' H' p'=>⟨xs.length - (i+1),by omega,rfl,hlt,p'⟩,fun x H' y => ?_⟩
    obtain ⟨e,y⟩:=y
    subst e
    exact hs i x σ _ (y xs q) p
  · have e:i=xs.length:=by omega
    subst e
    exact .inl ⟨⟨xs,q,Nat.le_refl _⟩,hd σ H p⟩
theorem for_range {lo:Int} {n:Nat} {g:TG} {tb:TS} {D:Ends} {σ : St} {H:Hp} (Pv:Nat→St→Hp→Prop) (h0:Pv 0 σ H)
    (hs:∀ i σ H,i < n→Pv i σ H→g (.int (lo+i)) σ H fun σ2 H2=>tb { D with nx:=Pv (i+1),ct:=Pv (i+1),bk:=D.nx } σ2 H2) (hd:∀ σ H,Pv n σ H→D.nx σ H) :
    ∃ W:Nat→Nat→St→Hp→Prop,(∃ m,W 0 m σ H)∧∀ i m σ H,W i m σ H →
      ((Itr lo n).stop i H∧D.nx σ H)∨((Itr lo n).go i H∧∃ N:St→Hp→Prop,(∀ σ' H',N σ' H'→∃ m',m' < m∧W (i+1) m' σ' H')∧∀ x H',(Itr lo n).yld i H x H'→g x σ H' fun σ2 H2=>tb { D with nx:=N,ct:=N,bk:=D.nx } σ2 H2):=by
  refine ⟨fun i m σ H=>m=n - i∧i≤n∧Pv i σ H,⟨n,by simp,Nat.zero_le _,h0⟩,?_⟩
  rintro i m σ H ⟨rfl,hi,p⟩
  by_cases hlt:i < n
  · refine .inr ⟨hlt,Pv (i+1),fun σ' H' p'=>⟨n - (i+1),by omega,rfl,hlt,p'⟩,fun x H' y => ?_⟩
    obtain ⟨e,y⟩:=y
    subst e y
    exact hs i σ _ hlt p
  · have e:i=n:=by omega
    subst e
    exact .inl ⟨Nat.le_refl _,hd σ H p⟩
end L2

namespace L2
open PySem PySem.Spec PyProof.Rows

noncomputable abbrev R2:=V→V→Hp→VK→Prop
noncomputable def OpR (X:Cx) (f:Value→Value→Sem Value) (r:R2):Prop :=
  ∀ (pins:List (Addr × Obj)) (s:Shared) (σ : St) (H:Hp) (x y:V) (v u:Value) (Q:VK),Inv X pins σ H s→RelV x v→RelV y u→r x y H Q →
    wpAny (model X.prog X.w) X.A (f v u) (EP X pins σ Q) X.xe s
noncomputable def UnR (X:Cx) (f:Value→Sem Value) (r:V→Hp→VK→Prop):Prop :=
  ∀ (pins:List (Addr × Obj)) (s:Shared) (σ : St) (H:Hp) (x:V) (v:Value) (Q:VK),Inv X pins σ H s→RelV x v→r x H Q →
    wpAny (model X.prog X.w) X.A (f v) (EP X pins σ Q) X.xe s
noncomputable def CallR (X:Cx) (f:Value) (r:List V→Hp→VK→Prop):Prop :=
  ∀ (pins:List (Addr × Obj)) (s:Shared) (σ : St) (H:Hp) (xs:List V) (us:List Value) (Q:VK),Inv X pins σ H s→Vals xs us→r xs H Q →
    wpAny (model X.prog X.w) X.A (call f us) (EP X pins σ Q) X.xe s

noncomputable def tOp (r:R2) (ta tb:TE):TE:=fun σ H Q=>ta σ H fun x H1=>tb σ H1 fun y H2=>r x y H2 Q
noncomputable def tUn (r:V→Hp→VK→Prop) (ta:TE):TE:=fun σ H Q=>ta σ H fun x H1=>r x H1 Q
inductive RI (C:Int→Int→Prop) (g:Int→Int→V) (x y:V) (H:Hp) (Q:VK):Prop
  | mk (i j:Int) (hx:x = .int i) (hy:y = .int j) (hc:C i j) (q:Q (g i j) H):RI C g x y H Q
noncomputable def rI (C:Int→Int→Prop) (g:Int→Int→V):R2:=fun x y H Q=>RI C g x y H Q
inductive RI0 (g:Int→Int→V) (x y:V) (H:Hp) (Q:VK):Prop
  | mk (i j:Int) (hx:x = .int i) (hy:y = .int j) (q:Q (g i j) H):RI0 g x y H Q
noncomputable def rI0 (g:Int→Int→V):R2:=fun x y H Q=>RI0 g x y H Q
inductive RU (g:Int→V) (x:V) (H:Hp) (Q:VK):Prop
  | mk (i:Int) (hx:x = .int i) (q:Q (g i) H):RU g x H Q
noncomputable def rU (g:Int→V):V→Hp→VK→Prop:=fun x H Q=>RU g x H Q

section
variable {X:Cx} {a b c:Expr} {ta tb tc:TE} {pos:Pos}

theorem binT (ha:PE X a ta) (hb:PE X b tb) {pins:List (Addr × Obj)} {s:Shared} {σ : St} {H:Hp} {R:V→V→Hp→Prop} (I:Inv X pins σ H s)
    (h:ta σ H fun x H1=>tb σ H1 fun y H2=>R x y H2) {Q:Value→Shared→Prop} {f:Value→Value→Sem Value}
    (hf:∀ v u s2 x y H2,Inv X pins σ H2 s2→RelV x v→RelV y u→R x y H2→wpAny (model X.prog X.w) X.A (f v u) Q X.xe s2) :
    wpAny (model X.prog X.w) X.A (eval a X.env) (fun v s₁ => wpAny (model X.prog X.w) X.A (eval b X.env) (fun u s₂ => wpAny (model X.prog X.w) X.A (f v u) Q X.xe s₂) X.xe s₁) X.xe s:=by
  refine thn (ha pins s σ H _ I h) fun v s1 ⟨x,H1,I1,r1,q1⟩ => ?_
  refine thn (hb pins s1 σ H1 _ I1 q1) fun u s2 ⟨y,H2,I2,r2,q2⟩ => ?_
  exact hf v u s2 x y H2 I2 r1 r2 q2

theorem pe_op {op:Operator} {r:R2} (ho:OpR X (binaryOp op) r) (ha:PE X a ta) (hb:PE X b tb):PE X (.BinOp a op b pos) (tOp r ta tb):=by
  intro pins s σ H Q I h
  exact wpAny_BinOp (binT ha hb I h fun v u s2 x y H2 I2 rx ry q=>ho pins s2 σ H2 x y v u Q I2 rx ry q)
theorem pe_un {op:UnaryOp} {r:V→Hp→VK→Prop} (ho:UnR X (unaryOp op) r) (ha:PE X a ta):PE X (.UnaryOp op a pos) (tUn r ta):=by
  intro pins s σ H Q I h
  exact UnaryOp_ (thn (ha pins s σ H _ I h) fun v s1 ⟨x,H1,I1,r1,q1⟩=>ho pins s1 σ H1 x v Q I1 r1 q1)

theorem opI {f:Value→Value→Sem Value} {C:Int→Int→Prop} {g:Int→Int→Int}
    (rule:∀ (i j:Int) (t u:Tok) (s:Shared) (Q:Value→Shared→Prop) (E:Value→Shared→Prop),C i j→Q (.int (g i j) s.toks) { s with toks:=s.toks+1 }→wpAny (model X.prog X.w) X.A (f (.int i t) (.int j u)) Q E s) :
    OpR X f (rI C fun i j => .int (g i j)):=by
  intro pins s σ H x y v u Q I rx ry h
  obtain ⟨i,j,rfl,rfl,hc,q⟩:=h
  obtain ⟨t,rfl⟩:=rx
  obtain ⟨t',rfl⟩:=ry
  exact rule i j t t' s _ _ hc ⟨.int (g i j),H,I.tok _,⟨_,rfl⟩,q⟩
theorem opI0 {f:Value→Value→Sem Value} {g:Int→Int→Int}
    (rule:∀ (i j:Int) (t u:Tok) (s:Shared) (Q:Value→Shared→Prop) (E:Value→Shared→Prop),Q (.int (g i j) s.toks) { s with toks:=s.toks+1 }→wpAny (model X.prog X.w) X.A (f (.int i t) (.int j u)) Q E s) :
    OpR X f (rI0 fun i j => .int (g i j)):=by
  intro pins s σ H x y v u Q I rx ry h
  obtain ⟨i,j,rfl,rfl,q⟩:=h
  obtain ⟨t,rfl⟩:=rx
  obtain ⟨t',rfl⟩:=ry
  exact rule i j t t' s _ _ ⟨.int (g i j),H,I.tok _,⟨_,rfl⟩,q⟩
theorem opB0 {f:Value→Value→Sem Value} {g:Int→Int→Bool}
    (rule:∀ (i j:Int) (t u:Tok) (s:Shared) (Q:Value→Shared→Prop) (E:Value→Shared→Prop),Q (.bool (g i j)) s→wpAny (model X.prog X.w) X.A (f (.int i t) (.int j u)) Q E s) :
    OpR X f (rI0 fun i j => .bl (g i j)):=by
  intro pins s σ H x y v u Q I rx ry h
  obtain ⟨i,j,rfl,rfl,q⟩:=h
  obtain ⟨t,rfl⟩:=rx
  obtain ⟨t',rfl⟩:=ry
  exact rule i j t t' s _ _ ⟨.bl (g i j),H,I,rfl,q⟩

noncomputable def CDiv (i j:Int):Prop:=0 < j∧j < 1073741824
noncomputable def CPow (i j:Int):Prop:=0≤j∧j≤1000000∧i.natAbs < 2 ^ 64
noncomputable def CMul (i j:Int):Prop:=(-(2 ^ 64) < i∧i < 2 ^ 64)∨(-(2 ^ 64) < j∧j < 2 ^ 64)
theorem CMul.ok {i j:Int} (h:CMul i j):IntMulOk i j:=by
  rcases h with ⟨h1,h2⟩ | ⟨h1,h2⟩
  · exact .of_left (intBits_le_64 h1 h2)
  · exact .of_right (intBits_le_64 h1 h2)

theorem op_add:OpR X (binaryOp .Add) (rI0 fun i j => .int (i+j)):=opI0 fun _ _ _ _ _ _ _ q=>add_int q
theorem op_sub:OpR X (binaryOp .Sub) (rI0 fun i j => .int (i - j)):=opI0 fun _ _ _ _ _ _ _ q=>sub_int q
theorem op_mul:OpR X (binaryOp .Mult) (rI CMul fun i j => .int (i * j)):=opI fun _ _ _ _ _ _ _ hc q=>mul_int q hc.ok
theorem op_fdiv:OpR X (binaryOp .FloorDiv) (rI CDiv fun i j => .int (i / j)):=opI fun i j _ _ _ _ _ hc q=>by
  have h1:(0:Int) < j:=hc.1
  have h2:j < 1073741824:=hc.2
  exact floordiv_int (by omega) (by rw [Int.fdiv_eq_ediv_of_nonneg i (by omega)];exact q) (.inl (PyProof.noPylong_small (by omega)))
theorem op_mod:OpR X (binaryOp .Mod) (rI (fun _ j=>0 < j) fun i j => .int (i % j)):=opI fun i j _ _ _ _ _ hc q=>by
  have h1:(0:Int) < j:=hc
  exact mod_int' (by omega) (by rw [Int.fmod_eq_emod_of_nonneg i (by omega)];exact q)
theorem op_pow:OpR X (binaryOp .Pow) (rI CPow fun i j => .int (i ^ j.toNat)):=opI fun _ _ _ _ _ _ _ hc q=>pow_int_small hc.1 hc.2.1 hc.2.2 q


theorem unI {f:Value→Sem Value} {g:Int→Int}
    (rule:∀ (i:Int) (t:Tok) (s:Shared) (Q:Value→Shared→Prop) (E:Value→Shared→Prop),Q (.int (g i) s.toks) { s with toks:=s.toks+1 }→wpAny (model X.prog X.w) X.A (f (.int i t)) Q E s) :
    UnR X f (rU fun i => .int (g i)):=by
  intro pins s σ H x v Q I rx h
  obtain ⟨i,rfl,q⟩:=h
  obtain ⟨t,rfl⟩:=rx
  exact rule i t s _ _ ⟨.int (g i),H,I.tok _,⟨_,rfl⟩,q⟩
theorem un_neg:UnR X (unaryOp .USub) (rU fun i => .int (-i)):=unI fun _ _ _ _ _ q=>neg_int q

end

noncomputable def scal:V→V→Bool
  | .non,.non=>true | .non,.int _=>true | .int _,.non=>true | .non,.bl _=>true | .bl _,.non=>true | .non,.str _=>true | .str _,.non=>true
  | .int _,.int _=>true | .bl _,.bl _=>true | .str _,.str _=>true | .byt _,.byt _=>true
  | .int _,.str _=>true | .str _,.int _=>true | .bl _,.str _=>true | .str _,.bl _=>true
  | _,_=>false
noncomputable def rEq:R2:=fun x y H Q=>scal x y=true∧Q (.bl (decide (x=y))) H
noncomputable def rNe:R2:=fun x y H Q=>scal x y=true∧Q (.bl (!decide (x=y))) H

theorem dec_int {i j:Int}:decide (V.int i=V.int j)=(i == j):=by
  rw [Bool.eq_iff_iff]
  simp
theorem dec_bl {i j:Bool}:decide (V.bl i=V.bl j)=(i == j):=by
  rw [Bool.eq_iff_iff]
  simp
theorem dec_str {i j:Str}:decide (V.str i=V.str j)=(i == j):=by
  rw [Bool.eq_iff_iff]
  simp
theorem dec_byt {i j:Array UInt8}:decide (V.byt i=V.byt j)=(i.toList == j.toList):=by
  rw [Bool.eq_iff_iff]
  cases i
  cases j
  simp

section
variable {X:Cx} {a b c:Expr} {ta tb tc:TE} {pos:Pos}
theorem fin_bl {pins:List (Addr × Obj)} {σ : St} {H:Hp} {s:Shared} {Q:VK} {k k':Bool} (I:Inv X pins σ H s) (q:Q (.bl k) H) (e:k=k'):EP X pins σ Q (.bool k') s:=by
  subst e
  exact ⟨.bl k,H,I,rfl,q⟩
theorem op_eq:OpR X (compareOp .Eq) rEq:=by
  intro pins s σ H x y v u Q I rx ry h
  obtain ⟨hs,q⟩:=h
  cases x with
  | non =>
    cases rx
    cases y with
    | non=>cases ry;exact PySem.EqNone.eq_none_none (fin_bl I q (by simp))
    | bl j=>cases ry;exact PySem.EqNone.eq_none_bool (fin_bl I q (by simp))
    | int j=>obtain ⟨t',rfl⟩:=ry;exact PySem.EqNone.eq_none_int (fin_bl I q (by simp))
    | str j=>obtain ⟨t',rfl⟩:=ry;exact PySem.EqNone.eq_none_str (fin_bl I q (by simp))
    | _=>exact absurd (show false=true from hs) Bool.false_ne_true
  | bl i =>
    cases rx
    cases y with
    | non=>cases ry;exact PySem.EqNone.eq_bool_none (fin_bl I q (by simp))
    | bl j=>cases ry;exact eq_bool (fin_bl I q dec_bl)
    | str j=>obtain ⟨t',rfl⟩:=ry;exact PySem.EqMixed.eq_bool_str (fin_bl I q (by simp))
    | _=>exact absurd (show false=true from hs) Bool.false_ne_true
  | int i =>
    obtain ⟨t,rfl⟩:=rx
    cases y with
    | non=>cases ry;exact PySem.EqNone.eq_int_none (fin_bl I q (by simp))
    | int j=>obtain ⟨t',rfl⟩:=ry;exact eq_int (fin_bl I q dec_int)
    | str j=>obtain ⟨t',rfl⟩:=ry;exact PySem.EqMixed.eq_int_str (fin_bl I q (by simp))
    | _=>exact absurd (show false=true from hs) Bool.false_ne_true
  | str i =>
    obtain ⟨t,rfl⟩:=rx
    cases y with
    | non=>cases ry;exact PySem.EqNone.eq_str_none (fin_bl I q (by simp))
    | bl j=>cases ry;exact PySem.EqMixed.eq_str_bool (fin_bl I q (by simp))
    | int j=>obtain ⟨t',rfl⟩:=ry;exact PySem.EqMixed.eq_str_int (fin_bl I q (by simp))
    | str j=>obtain ⟨t',rfl⟩:=ry;exact eq_str (fin_bl I q dec_str)
    | _=>exact absurd (show false=true from hs) Bool.false_ne_true
  | byt i =>
    obtain ⟨t,rfl⟩:=rx
    cases y with
    | byt j=>obtain ⟨t',rfl⟩:=ry;exact PySem.W.eq_bytes (fin_bl I q dec_byt)
    | _=>exact absurd (show false=true from hs) Bool.false_ne_true
  | _=>cases y <;> exact absurd (show false=true from hs) Bool.false_ne_true
theorem op_ne:OpR X (compareOp .NotEq) rNe:=by
  intro pins s σ H x y v u Q I rx ry h
  obtain ⟨hs,q⟩:=h
  cases x with
  | non =>
    cases rx
    cases y with
    | non=>cases ry;exact PySem.EqNone.ne_none_none (fin_bl I q (by simp))
    | bl j=>cases ry;exact PySem.EqNone.ne_none_bool (fin_bl I q (by simp))
    | int j=>obtain ⟨t',rfl⟩:=ry;exact PySem.EqNone.ne_none_int (fin_bl I q (by simp))
    | str j=>obtain ⟨t',rfl⟩:=ry;exact PySem.EqNone.ne_none_str (fin_bl I q (by simp))
    | _=>exact absurd (show false=true from hs) Bool.false_ne_true
  | bl i =>
    cases rx
    cases y with
    | non=>cases ry;exact PySem.EqNone.ne_bool_none (fin_bl I q (by simp))
    | bl j=>cases ry;exact ne_bool (fin_bl I q (congrArg not dec_bl))
    | str j=>obtain ⟨t',rfl⟩:=ry;exact PySem.EqMixed.ne_bool_str (fin_bl I q (by simp))
    | _=>exact absurd (show false=true from hs) Bool.false_ne_true
  | int i =>
    obtain ⟨t,rfl⟩:=rx
    cases y with
    | non=>cases ry;exact PySem.EqNone.ne_int_none (fin_bl I q (by simp))
    | int j=>obtain ⟨t',rfl⟩:=ry;exact ne_int (fin_bl I q (congrArg not dec_int))
    | str j=>obtain ⟨t',rfl⟩:=ry;exact PySem.EqMixed.ne_int_str (fin_bl I q (by simp))
    | _=>exact absurd (show false=true from hs) Bool.false_ne_true
  | str i =>
    obtain ⟨t,rfl⟩:=rx
    cases y with
    | non=>cases ry;exact PySem.EqNone.ne_str_none (fin_bl I q (by simp))
    | bl j=>cases ry;exact PySem.EqMixed.ne_str_bool (fin_bl I q (by simp))
    | int j=>obtain ⟨t',rfl⟩:=ry;exact PySem.EqMixed.ne_str_int (fin_bl I q (by simp))
    | str j=>obtain ⟨t',rfl⟩:=ry;exact ne_str (fin_bl I q (congrArg not dec_str))
    | _=>exact absurd (show false=true from hs) Bool.false_ne_true
  | byt i =>
    obtain ⟨t,rfl⟩:=rx
    cases y with
    | byt j=>obtain ⟨t',rfl⟩:=ry;exact PySem.W.ne_bytes (fin_bl I q (congrArg not dec_byt))
    | _=>exact absurd (show false=true from hs) Bool.false_ne_true
  | _=>cases y <;> exact absurd (show false=true from hs) Bool.false_ne_true

theorem op_lt:OpR X (compareOp .Lt) (rI0 fun i j => .bl (decide (i < j))):=opB0 fun _ _ _ _ _ _ _ q=>lt_int q
theorem op_le:OpR X (compareOp .LtE) (rI0 fun i j => .bl (decide (i≤j))):=opB0 fun _ _ _ _ _ _ _ q=>le_int q
theorem op_gt:OpR X (compareOp .Gt) (rI0 fun i j => .bl (decide (j < i))):=opB0 fun _ _ _ _ _ _ _ q=>gt_int q

theorem op_isN:OpR X (compareOp .Is) (fun x y H Q=>y = .non∧Q (.bl (decide (x = .non))) H):=by
  intro pins s σ H x y v u Q I rx ry h
  obtain ⟨rfl,q⟩:=h
  cases ry
  refine is_none_gen (fin_bl I q ?_)
  cases x <;> first
    | (cases rx;rfl)
    | (obtain ⟨t,rfl⟩:=rx;rfl)
theorem op_notN:OpR X (compareOp .IsNot) (fun x y H Q=>y = .non∧Q (.bl (!decide (x = .non))) H):=by
  intro pins s σ H x y v u Q I rx ry h
  obtain ⟨rfl,q⟩:=h
  cases ry
  refine isnot_none_gen (fin_bl I q ?_)
  cases x <;> first
    | (cases rx;rfl)
    | (obtain ⟨t,rfl⟩:=rx;rfl)



theorem nomark (b:Expr) {op:CmpOp} (h:op ≠ .In:=by decide) (h2:op ≠ .NotIn:=by decide):behindInMarks op b=false:=by
  have e1:(op == CmpOp.In)=false:=by cases op <;> first | rfl | exact absurd rfl h
  have e2:(op == CmpOp.NotIn)=false:=by cases op <;> first | rfl | exact absurd rfl h2
  cases b <;> simp [behindInMarks,e1,e2]
theorem pe_cmpR {op:CmpOp} {r:R2} (ho:OpR X (compareOp op) r) (ha:PE X a ta) (hb:PE X b tb) (hm:behindInMarks op b=false):PE X (.Compare a [op] [b] pos) (tOp r ta tb):=by
  intro pins s σ H Q I h
  exact wpAny_Compare1 (binT ha hb I h fun v u s2 x y H2 I2 rx ry q=>ho pins s2 σ H2 x y v u Q I2 rx ry q) hm
inductive RTest (x:V) (H:Hp) (Q:Bool→Hp→Prop):Prop
  | mk (k:Bool) (hx:x = .bl k) (q:Q k H):RTest x H Q
noncomputable def tTest (t:TE):TT:=fun σ H Q=>t σ H fun x H'=>RTest x H' Q
theorem pt_cmpR {op:CmpOp} {r:R2} (ho:OpR X (compareOp op) r) (ha:PE X a ta) (hb:PE X b tb) (hm:behindInMarks op b=false):PT X (.Compare a [op] [b] pos) (tTest (tOp r ta tb)):=by
  intro pins s σ H Q I h
  refine wpAny_isTrue_Compare1 (thn (ha pins s σ H _ I h) fun v s1 ⟨x,H1,I1,r1,q1⟩=>thn (hb pins s1 σ H1 _ I1 q1) fun u s2 ⟨y,H2,I2,r2,q2⟩ =>
    thn (ho pins s2 σ H2 x y v u _ I2 r1 r2 q2) fun c s3 ⟨z,H3,I3,r3,k,e,q3⟩ => ?_) hm
  subst e
  cases r3
  exact wpAny_truthy_bool ⟨H3,I3,q3⟩
noncomputable def tChain (r r':R2) (ta tb tc:TE):TE:=fun σ H Q=>ta σ H fun x H1=>tb σ H1 fun y H2=>r x y H2 fun z H3=>∃ k,z = .bl k ∧
  (if k=true then tc σ H3 fun w' H4=>r' y w' H4 Q else Q (.bl false) H3)
theorem pt_chain {op op':CmpOp} {r r':R2} (ho:OpR X (compareOp op) r) (ho':OpR X (compareOp op') r') (ha:PE X a ta) (hb:PE X b tb) (hc:PE X c tc)
    (hm:lastMarks [op,op'] [b,c]=false:=by with_unfolding_all rfl):PT X (.Compare a [op,op'] [b,c] pos) (tTest (tChain r r' ta tb tc)):=by
  intro pins s σ H Q I h
  refine isTrue_chain (thn (ha pins s σ H _ I h) fun v s1 ⟨x,H1,I1,r1,q1⟩=>test_link (thn (hb pins s1 σ H1 _ I1 q1) fun u s2 ⟨y,H2,I2,r2,q2⟩ =>
    thn (ho pins s2 σ H2 x y v u _ I2 r1 r2 q2) fun d s3 ⟨z,H3,I3,r3,k,e,q3⟩ => ?_)) hm
  subst e
  cases r3
  refine wpAny_truthy_bool ?_
  cases k with
  | false =>
    obtain ⟨k',e',q'⟩:=q3
    cases e'
    exact ite_ff ⟨H3,I3,q'⟩
  | true =>
    refine ite_tt (test_last (thn (hc pins s3 σ H3 _ I3 q3) fun w' s4 ⟨z',H4,I4,r4,q4⟩=>thn (ho' pins s4 σ H4 y z' u w' _ I4 r2 r4 q4) fun d' s5 ⟨z2,H5,I5,r5,k2,e2,q5⟩ => ?_))
    subst e2
    cases r5
    exact wpAny_truthy_bool ⟨H5,I5,q5⟩

theorem line63:(sizeLine:Nat) < 2 ^ 63:=by rw [sizeLine_eq];decide

inductive J_op_add_str (x:V) (y:V) (H:Hp) (Q:VK):Prop
  | mk:∀ i j,(x = .str i)→(y = .str j)→(i.length+j.length≤sizeLine)→(Q (.str (i ++ j)) H)→J_op_add_str x y H Q
theorem op_add_str:OpR X (binaryOp .Add) (fun x y H Q=>J_op_add_str x y H Q):=by
  intro pins s σ H x y v u Q I rx ry h
  obtain ⟨i,j,rfl,rfl,hz,q⟩:=h
  obtain ⟨t,rfl⟩:=rx
  obtain ⟨t',rfl⟩:=ry
  exact add_str (fun t' tk=>⟨.str (i ++ j),H,I.tok _,⟨_,rfl⟩,q⟩) hz


theorem vals1 {x:V} {us:List Value} (r:Vals [x] us):∃ u,us = [u]∧RelV x u:=by
  cases r with
  | cons r1 r2=>cases r2;exact ⟨_,rfl,r1⟩
theorem vals2 {x y:V} {us:List Value} (r:Vals [x,y] us):∃ u w',us = [u,w']∧RelV x u∧RelV y w':=by
  cases r with
  | cons r1 r2 =>
    cases r2 with
    | cons r3 r4=>cases r4;exact ⟨_,_,rfl,r1,r3⟩
inductive J_call_max2 (xs:List V) (H:Hp) (Q:VK):Prop
  | mk:∀ i j,(xs = [.int i,.int j])→(Q (.int (if j > i then j else i)) H)→J_call_max2 xs H Q
theorem call_max2 (hc:X.calm=true):CallR X (.builtin "max") (fun xs H Q=>J_call_max2 xs H Q):=by
  intro pins s σ H xs us Q I r h
  obtain ⟨i,j,rfl,q⟩:=h
  obtain ⟨u,w',rfl,⟨t,rfl⟩,⟨t',rfl⟩⟩:=vals2 r
  refine max_two_ints (I.ok.hd hc) fun h' tk k=>⟨_,H,I.kept k,?_,q⟩
  by_cases hj:j > i
  · rw [if_pos hj,if_pos hj];exact ⟨_,rfl⟩
  · rw [if_neg hj,if_neg hj];exact ⟨_,rfl⟩
end
end L2

namespace L2
open PySem PySem.Spec PyProof.Rows

structure ObjM (h:Heap) (x dx C:Addr) (mA:Str→Option Value):Prop where
  obj:h.get? x=some (PySem.W.instObj C dx)
  ns:h.Ns1 dx mA
  ne:dx≠x

theorem lookIn_ns {h:Heap} {dx:Addr} {mA:Str→Option Value} (n:h.Ns1 dx mA):∃ od,h.get? dx=some od∧∀ name,PySem.W.lookIn name od=some (mA name):=by
  obtain ⟨o,es,ep,ho,hd,hk,_,hm⟩:=n
  refine ⟨o,ho,fun name => ?_⟩
  have e:=hm name
  unfold nsFind findBy at e
  rw [← Array.find?_toList] at e
  unfold PySem.W.lookIn
  rw [hd]
  dsimp only
  split
  · rename_i y q
    rw [q] at e
    exact congrArg some e
  · rename_i q
    rw [q] at e
    have a:es.toList.any (·.refKey)=false:=by
      rw [List.any_eq_false]
      intro y hy
      obtain ⟨z,t,hkey⟩:=hk y (Array.mem_toList_iff.mp hy)
      simp [DictEntry.refKey,hkey]
    have a':¬ es.toList.any (·.refKey)=true:=by rw [a];exact Bool.false_ne_true
    rw [if_neg a']
    exact congrArg some e

theorem ObjM.look {h:Heap} {x dx C:Addr} {mA:Str→Option Value} (I:ObjM h x dx C mA):∃ od,PySem.W.InstAt h x (PySem.W.instObj C dx) C (some od)∧∀ name,PySem.W.lookIn name od=some (mA name) :=
  let ⟨od,ho,hl⟩:=lookIn_ns I.ns
  ⟨od,⟨I.obj,rfl,rfl,ho⟩,hl⟩

section
variable {prog:Program} {w:World} {A:Around} {E:Value→Shared→Prop} {s:Shared} {K:PySem.W.Frag} {x dx C f:Addr} {mA:Str→Option Value} {name:Str} {v:Value}

theorem get_map {expr:Bool} {Q:Value→Shared→Prop} (X:K.In s.heap) (I:ObjM s.heap x dx C mA) (hg:PySem.W.plainGet K C name=true) (hh:PySem.W.hasDictIn K C=true)
    (ha:PySem.W.findIn K (.ref C) name=some none) (hv:mA name=some v) (hv':PySem.W.handedIn v=true) (h:Q v { s with toks:=s.toks+1 }) :
    wpAny (model prog w) A (getAttr (.ref x) name expr) Q E s:=by
  obtain ⟨od,J,hl⟩:=I.look
  exact PySem.W.get_value X J (PySem.W.plainGet_of hg).1 (PySem.W.findObj_own hh ha rfl (by rw [hl,hv])) hv' h



theorem set_map {ns:List Str} {Q:Unit→Shared→Prop} (X:K.In s.heap) (I:ObjM s.heap x dx C mA)
    (hs:PySem.W.findIn K (.ref C) "__setattr__" = some (some (.builtin "object.__setattr__"))) (hp:PySem.W.plainOver K C=true) (ht:PySem.W.takerIn K C name=some none) (hh:PySem.W.hasDictIn K C=true)
    (hw:PySem.Within mA ns) (hsz:ns.length≤sizeLine)
    (h:∀ h',ObjM h' x dx C (fun y=>if y=name then some v else mA y)→Heap.SameBut dx s.heap h'→Q () { s with heap:=h',toks:=s.toks+2 }) :
    wpAny (model prog w) A (setAttr (.ref x) name v) Q E s:=by
  obtain ⟨od,J,hl⟩:=I.look
  refine PySem.W.set_plain X J hs (PySem.W.osa_open (s := { s with toks:=s.toks+1 }) (r:=none) X J hp ht fun b => ?_)
  obtain ⟨cd,hc,hd'⟩:=PySem.W.any_some hh
  have hx:s.heap.get? x=some ⟨.ref C,some dx,.plain, #[]⟩:=I.obj
  refine wpAny_bind (wpAny_pure (wpAny_bind (wpAny_bind (wpAny_loadPart hx (wpAny_bind (PySem.W.Looks.here (s := { s with toks:=s.toks+1 }) (PySem.W.looks_clsIn X hc) ?_))))))
  rw [hd']
  refine wpAny_pure (a:=some dx) (wpAny_bind (wpAny_pure (wpAny_bind ?_)))
  refine wpAny_nsSet1 (s := { s with toks:=s.toks+1 }) I.ns fun h' hn2 hs2 => ?_
  obtain ⟨oD,esD,epD,hoD,hdD,hcD⟩:=hn2.count (PySem.Within.cons name v hw)
  refine wpAny_bind (wpAny_lookBehind hoD (by rw [hdD];exact pastItsLine_dict (Nat.le_trans hcD (by rw [List.length_cons];omega))) ?_)
  exact wpAny_pure (h _ ⟨(hs2.2 _ (Ne.symm I.ne)).trans I.obj,hn2,I.ne⟩ hs2)

theorem make_map {R:Result→Shared→Prop} {vs:List Value} {kw:List (Str × Value)} (X:K.In s.heap) (hm:PySem.W.makesIn K C=true)
    (hi:PySem.W.findIn K (.ref C) "__init__" = some (some (.ref f))) (hf:PySem.W.typeIn K (.ref f)=some (.type "function"))
    (h:codeAny (model prog w) (A.under (.builtin "type.__call__" ⟨.ref C :: vs,kw⟩)) (.call (.ref f) ⟨.ref (s.heap.objs.size+1) :: vs,kw⟩) (PySem.W.InitBack (s.heap.objs.size+1) R)
      { s with heap:=(s.heap.push PySem.W.emptyDict).push (PySem.W.instObj C s.heap.objs.size) }) :
    codeAny (model prog w) A (.call (.ref C) ⟨vs,kw⟩) R s:=by
  obtain ⟨hh,g,d,t,os⟩:=s
  exact PySem.W.make_core (PySem.W.makes_of X hm) (PySem.W.looks_findIn X hi) (fun self=>PySem.W.bind_fn X self hf) (.inl rfl) h
end

noncomputable def putF (f:Str) (v:V):List (Str × V)→List (Str × V)
  | [] => [(f,v)]
  | (g,x) :: r=>if g=f then (g,v) :: r else (g,x) :: putF f v r
theorem lookup_putF (f g:Str) (v:V):∀ fs:List (Str × V),(putF f v fs).lookup g=if g=f then some v else fs.lookup g
  | []=>by
    show List.lookup g [(f,v)]=_
    by_cases h:g=f
    · have hb:(g == f)=true:=beq_iff_eq.mpr h
      simp only [List.lookup,hb,if_pos h]
    · have hb:(g == f)=false:=beq_eq_false_iff_ne.mpr h
      simp only [List.lookup,hb,if_neg h]
  | (k,x) :: r=>by
    have ih:=lookup_putF f g v r
    rw [show putF f v ((k,x) :: r)=(if k=f then (k,v) :: r else (k,x) :: putF f v r) from rfl]
    by_cases hk:k=f
    · rw [if_pos hk]
      by_cases h:g=k
      · have hb:(g == k)=true:=beq_iff_eq.mpr h
        simp only [List.lookup,hb,if_pos (h.trans hk)]
      · have hb:(g == k)=false:=beq_eq_false_iff_ne.mpr h
        simp only [List.lookup,hb,if_neg (fun e:g=f=>h (e.trans hk.symm))]
    · rw [if_neg hk]
      by_cases h:g=k
      · have hb:(g == k)=true:=beq_iff_eq.mpr h
        simp only [List.lookup,hb,if_neg (fun e:g=f=>hk (h.symm.trans e))]
      · have hb:(g == k)=false:=beq_eq_false_iff_ne.mpr h
        simp only [List.lookup,hb]
        exact ih
theorem keys_putF (f:Str) (v:V):∀ fs:List (Str × V),f∈(putF f v fs).map (·.1)∧∀ g,g∈fs.map (·.1)→g∈(putF f v fs).map (·.1)
  | []=>⟨by simp [putF],fun g h=>by simp at h⟩
  | (k,x) :: r=>by
    obtain ⟨i1,i2⟩:=keys_putF f v r
    rw [show putF f v ((k,x) :: r)=(if k=f then (k,v) :: r else (k,x) :: putF f v r) from rfl]
    by_cases hk:k=f
    · rw [if_pos hk]
      subst hk
      exact ⟨by simp,fun g h=>by simpa using h⟩
    · rw [if_neg hk]
      refine ⟨?_,fun g h => ?_⟩
      · rw [List.map_cons]
        exact List.mem_cons_of_mem _ i1
      · rw [List.map_cons] at h ⊢
        rcases List.mem_cons.mp h with e | e
        · exact List.mem_cons.mpr (.inl e)
        · exact List.mem_cons_of_mem _ (i2 g e)
theorem length_putF (f:Str) (v:V):∀ fs:List (Str × V),(putF f v fs).length≤fs.length+1
  | []=>by simp [putF]
  | (k,x) :: r=>by
    have ih:=length_putF f v r
    rw [show putF f v ((k,x) :: r)=(if k=f then (k,v) :: r else (k,x) :: putF f v r) from rfl]
    by_cases hk:k=f
    · rw [if_pos hk,List.length_cons,List.length_cons];omega
    · rw [if_neg hk,List.length_cons,List.length_cons];omega

theorem RelO.some_of {v:V} {o:Option Value} (r:RelO (some v) o):∃ u,o=some u∧RelV v u:=by
  cases o with
  | none=>exact (show False from r).elim
  | some u=>exact ⟨u,rfl,r⟩
theorem handed_of {v:V} {u:Value} (r:RelV v u):PySem.W.handedIn u=true:=by
  cases v with
  | non=>cases (show u=Value.none from r);rfl
  | bl b=>cases (show u=Value.bool b from r);rfl
  | int i=>obtain ⟨t,e⟩:=(show ∃ t,u=Value.int i t from r);cases e;rfl
  | str x=>obtain ⟨t,e⟩:=(show ∃ t,u=Value.str x t from r);cases e;rfl
  | byt b=>obtain ⟨t,e⟩:=(show ∃ t,u=Value.bytes b t from r);cases e;rfl
  | flt b=>obtain ⟨t,e⟩:=(show ∃ t,u=Value.float b t from r);cases e;rfl
  | ref a=>cases (show u=Value.ref a from r);rfl
  | ty n=>cases (show u=Value.type n from r);rfl

section
variable {P:Program} {w:World} {H H':Hp} {h h':Heap} {a C dx:Addr} {fs fs':List (Str × V)}
theorem ins_get (hok:HOk P w H h) (e:H a=some (.ins C dx fs)):∃ mA,ObjM h a dx C mA∧(∀ f,RelO (fs.lookup f) (mA f))∧PySem.Within mA (fs.map (·.1))∧fs.length≤1000∧H dx=some (.own a):=by
  obtain ⟨d,z,ne,ob,mA,n,r,q⟩:=(show ObjOk P w H h a (.ins C dx fs) from hok a _ e)
  exact ⟨mA,⟨ob,n,ne⟩,r,q,z,d⟩
end

structure Cls (K:PySem.W.Frag) (C:Addr):Prop where
  pg:PySem.W.plainGet K C Str.empty=true
  hd:PySem.W.hasDictIn K C=true
  po:PySem.W.plainOver K C=true
  sa:PySem.W.findIn K (.ref C) "__setattr__" = some (some (.builtin "object.__setattr__"))
theorem Cls.get {K:PySem.W.Frag} {C:Addr} (c:Cls K C) (f:Str):PySem.W.plainGet K C f=true:=c.pg
noncomputable def NoAttr (K:PySem.W.Frag) (C:Addr) (f:Str):Prop:=PySem.W.findIn K (.ref C) f=some none
theorem NoAttr.taker {K:PySem.W.Frag} {C:Addr} {f:Str} (n:NoAttr K C f):PySem.W.takerIn K C f=some none:=by
  unfold PySem.W.takerIn
  rw [show PySem.W.findIn K (.ref C) f=some none from n]
  rfl

section
variable {X:Cx} {pins:List (Addr × Obj)} {σ : St} {H:Hp} {s:Shared} {a C dx:Addr} {fs:List (Str × V)} {f:Str} {v:V} {A:Around} {E:Value→Shared→Prop}

theorem getattr_ok {b:Bool} {Q:Value→Shared→Prop} (I:Inv X pins σ H s) (e:H a=some (.ins C dx fs)) (c:Cls X.K C) (n:NoAttr X.K C f) (l:fs.lookup f=some v)
    (h:∀ u s',Inv X pins σ H s'→RelV v u→Q u s'):wpAny (model X.prog X.w) A (getAttr (.ref a) f b) Q E s:=by
  obtain ⟨mA,O,r,_,_,_⟩:=ins_get I.hok e
  obtain ⟨u,hu,ru⟩:=RelO.some_of (v:=v) (o:=mA f) (by rw [← l];exact r f)
  exact get_map I.kIn O (c.get f) c.hd n hu (handed_of ru) (h u _ (I.tok _) ru)



theorem setattr_ok {y:V} {u:Value} {Q:Unit→Shared→Prop} (I:Inv X pins σ H s) (e:H a=some (.ins C dx fs)) (c:Cls X.K C) (n:NoAttr X.K C f) (hl:fs.length < 1000) (ry:RelV y u)
    (h:∀ s',Inv X pins σ (upd H a (.ins C dx (putF f y fs))) s'→Q () s'):wpAny (model X.prog X.w) A (setAttr (.ref a) f u) Q E s:=by
  obtain ⟨mA,O,r,wi,_,ho⟩:=ins_get I.hok e
  have hz:(fs.map (·.1)).length≤sizeLine:=by rw [List.length_map,sizeLine_eq];omega
  refine set_map I.kIn O c.sa c.po n.taker c.hd wi hz fun h' O' sb=>h _ ?_
  have hd:∃ o,h'.get? dx=some o:=let ⟨o,_,_,e',_⟩:=O'.ns; ⟨o,e'⟩
  refine I.write (x:=a) (e:=dx) (by rw [e];exact True.intro) (.inr ho) (fun b q hb z=>(sb.2 b hb).trans z) hd ?_
  refine ⟨by rw [upd_ne O.ne];exact ho,?_,O.ne,O'.obj,_,O'.ns,fun g => ?_,fun g hg => ?_⟩
  · have:=length_putF f y fs;omega
  · show RelO ((putF f y fs).lookup g) (if g=f then some u else mA g)
    rw [lookup_putF]
    by_cases q:g=f
    · rw [if_pos q,if_pos q];exact ry
    · rw [if_neg q,if_neg q];exact r g
  · by_cases q:g=f
    · rw [q];exact (keys_putF f y fs).1
    · refine (keys_putF f y fs).2 g (wi g fun z=>hg ?_)
      show (if g=f then some u else mA g)=none
      rw [if_neg q];exact z

theorem Inv.made (I:Inv X pins σ H s):Inv X pins σ (upd (upd H s.heap.objs.size (.own (s.heap.objs.size+1))) (s.heap.objs.size+1) (.ins C s.heap.objs.size []))
    { s with heap:=(s.heap.push PySem.W.emptyDict).push (PySem.W.instObj C s.heap.objs.size) }:=by
  have e1:(s.heap.push PySem.W.emptyDict).get? s.heap.objs.size=some PySem.W.emptyDict:=Heap.get?_push_size s.heap rfl
  have e2:((s.heap.push PySem.W.emptyDict).push (PySem.W.instObj C s.heap.objs.size)).get? (s.heap.objs.size+1)=some (PySem.W.instObj C s.heap.objs.size):=by
    have:=Heap.get?_push_size (s.heap.push PySem.W.emptyDict) (o:=PySem.W.instObj C s.heap.objs.size) rfl
    rwa [Heap.size_push] at this
  have e3:(s.heap.push PySem.W.emptyDict).Ns s.heap.objs.size (fun _=>none):=⟨PySem.W.emptyDict, #[],_,e1,rfl,(fun e he=>absurd he (by simp)),fun _=>rfl⟩
  have I1:=I.laid (a:=s.heap.objs.size) (o := .own (s.heap.objs.size+1)) (h':=s.heap.push PySem.W.emptyDict) (t':=s.toks) (fun b u q=>Heap.get?_push_of_some _ q) (Nat.le_refl _) ⟨_,e1⟩
  refine I1.laid (a:=s.heap.objs.size+1) (o := .ins C s.heap.objs.size []) (t':=s.toks) (fun b u q=>Heap.get?_push_of_some _ q) (Nat.le_of_eq (Heap.size_push _ _)) ?_
  have ne:s.heap.objs.size≠s.heap.objs.size+1:=Nat.ne_of_lt (Nat.lt_succ_self _)
  refine ⟨by rw [upd_ne ne,upd_same],Nat.zero_le _,ne,e2,fun _=>none,(Heap.Ns1.of_empty e3).at fun o q=>Heap.get?_push_of_some _ q,fun _=>True.intro,fun y hy=>absurd rfl hy⟩

theorem attr_of {prog:Program} {w:World} {env:Env} {e:Expr} {f:Str} {pos:Pos} {s:Shared} {Q:Value→Shared→Prop} (hb:attributeBase e f env (eval e env)=eval e env)
    (h:wpAny (model prog w) A (eval e env) (fun o s₁ => wpAny (model prog w) A (getAttr o f true) Q E s₁) E s):wpAny (model prog w) A (eval (.Attribute e f pos) env) Q E s :=
  Attribute_any_ h (by rw [arm_eval_Attribute,hb])
end

inductive RFld (K:PySem.W.Frag) (f:Str) (x:V) (H:Hp) (Q:VK):Prop
  | mk (a C dx:Addr) (fs:List (Str × V)) (v:V) (hx:x = .ref a) (h:H a=some (.ins C dx fs)) (c:Cls K C) (n:NoAttr K C f) (l:fs.lookup f=some v) (q:Q v H):RFld K f x H Q
noncomputable def tFld (K:PySem.W.Frag) (ta:TE) (f:Str):TE:=fun σ H Q=>ta σ H fun x H1=>RFld K f x H1 Q
inductive J_sFld (K:PySem.W.Frag) (f:Str) (D:Ends) (σ : St) (y:V) (x:V) (H2:Hp):Prop
  | mk:∀ a C dx fs,(x = .ref a)→(H2 a=some (.ins C dx fs))→(Cls K C)→(NoAttr K C f)→(fs.length < 1000)→(D.nx σ (upd H2 a (.ins C dx (putF f y fs))))→J_sFld K f D σ y x H2
noncomputable def sFld (K:PySem.W.Frag) (ta tv:TE) (f:Str):TS:=fun D σ H=>tv σ H fun y H1=>ta σ H1 fun x H2=>J_sFld K f D σ y x H2

section
variable {X:Cx} {o e value:Expr} {f:Str} {pos pos' tpos:Pos} {ta tv:TE}
theorem pe_fld (he:PE X e ta) (hb:attributeBase e f X.env (eval e X.env)=eval e X.env):PE X (.Attribute e f pos) (tFld X.K ta f):=by
  intro pins s σ H Q I h
  refine attr_of hb (thn (he pins s σ H _ I h) fun u s1 ⟨x,H1,I1,rx,a,C,dx,fs,v,ex,ea,c,n,l,q⟩ => ?_)
  subst ex
  obtain rfl:u=Value.ref a:=rx
  exact getattr_ok I1 ea c n l fun u' s2 I2 ru=>⟨v,H1,I2,ru,q⟩
theorem ps_fld (ha:PE X o ta) (hv:PE X value tv) (hs:swapsWith value (some (.Attribute o f pos')) pos.line X.env=pure false):PS X (.Assign [.Attribute o f pos'] value pos) (sFld X.K ta tv f):=by
  intro pins s σ H D I h
  refine plainObj_wpAny_Assign_Attribute (thn (hv pins s σ H _ I h) fun u s1 ⟨y,H1,I1,ry,q⟩=>thn (ha pins s1 σ H1 _ I1 q) fun ov s2 ⟨x,H2,I2,rx,a,C,dx,fs,ex,ea,c,n,l,q2⟩ => ?_) hs
  subst ex
  obtain rfl:ov=Value.ref a:=rx
  exact setattr_ok I2 ea c n l ry fun s3 I3=>⟨σ,_,I3,q2⟩

end

section
variable {X:Cx} {pins:List (Addr × Obj)} {σ : St} {H:Hp} {s:Shared} {A:Around} {E:Value→Shared→Prop} {Q:Value→Shared→Prop} {c:Value} {b:Bool}
inductive TyOf (K:PySem.W.Frag) (H:Hp):V→Value→Prop where
  | non:TyOf K H .non (.type "NoneType")
  | bl (x:Bool):TyOf K H (.bl x) (.type "bool")
  | int (i:Int):TyOf K H (.int i) (.type "int")
  | str (x:Str):TyOf K H (.str x) (.type "str")
  | flt (x:UInt64):TyOf K H (.flt x) (.type "float")
  | lst {a:Addr} {xs:List V} (e:H a=some (.lst xs)):TyOf K H (.ref a) (.type "list")
  | frz {a:Addr} {o:Obj} {xs:List V} (e:H a=some (.frz o (.lst xs))):TyOf K H (.ref a) (.type "list")
  | tup {a:Addr} {xs:List V} (e:H a=some (.tup xs)):TyOf K H (.ref a) (.type "tuple")
  | dK {a:Addr} {kvs:List (Key × V)} (e:H a=some (.dK kvs)):TyOf K H (.ref a) (.type "dict")
  | dT {a:Addr} {kvs:List (List Key × V)} (e:H a=some (.dT kvs)):TyOf K H (.ref a) (.type "dict")
  | ins {a C dx:Addr} {fs:List (Str × V)} (e:H a=some (.ins C dx fs)) (cl:Cls K C) (ha:PySem.W.findIn K (.ref C) "__class__" = some (some (.builtin "object.__class__")))
      (hn:PySem.W.specialIn K (.builtin "object.__class__") "__get__" = some (some (.builtin "getset_descriptor.__get__"))) (htk:PySem.W.takesIn K (.builtin "object.__class__")=some true)
      (hm:PySem.W.mroIn K C (.type "object")=some true):TyOf K H (.ref a) (.ref C)
theorem isinst_ok {x:V} {u t:Value} (I:Inv X pins σ H s) (rx:RelV x u) (ty:TyOf X.K H x t) (e:PySem.W.kitOne X.K t c=some b) (h:∀ tk,Q (.bool b) { s with toks:=tk }) :
    wpAny (model X.prog X.w) A (call (.builtin "isinstance") [u,c]) Q E s:=by
  cases ty with
  | non=>cases (show u=Value.none from rx);exact PySem.W.kia_one PySem.W.kitx_none I.kIn True.intro e (fun z=>nomatch z) h
  | bl y=>cases (show u=Value.bool y from rx);exact PySem.W.kia_one PySem.W.kitx_bool I.kIn True.intro e (fun z=>nomatch z) h
  | int i=>obtain ⟨t,q⟩:=(show ∃ t,u=Value.int i t from rx);cases q;exact PySem.W.kia_one PySem.W.kitx_int I.kIn True.intro e (fun z=>nomatch z) h
  | str y=>obtain ⟨t,q⟩:=(show ∃ t,u=Value.str y t from rx);cases q;exact PySem.W.kia_one PySem.W.kitx_str I.kIn True.intro e (fun z=>nomatch z) h
  | flt y=>obtain ⟨t,q⟩:=(show ∃ t,u=Value.float y t from rx);cases q;exact PySem.W.kia_one PySem.W.kitx_float I.kIn True.intro e (fun z=>nomatch z) h
  | @lst a xs ea =>
    cases (show u=Value.ref a from rx)
    obtain ⟨_,_,n,_,h1⟩:=(show ObjOk X.prog X.w H s.heap a (.lst xs) from I.hok a _ ea)
    exact PySem.W.kia_one PySem.W.kitx_list I.kIn ⟨_,h1,rfl⟩ e (fun z=>nomatch z) h
  | @frz a ob xs ea =>
    cases (show u=Value.ref a from rx)
    obtain ⟨_,_,_,n,_,h1⟩:=(show ObjOk X.prog X.w H s.heap a (.frz ob (.lst xs)) from I.hok a _ ea)
    exact PySem.W.kia_one PySem.W.kitx_list I.kIn ⟨_,h1,rfl⟩ e (fun z=>nomatch z) h
  | @tup a xs ea =>
    cases (show u=Value.ref a from rx)
    obtain ⟨_,_,_,p⟩:=(show ObjOk X.prog X.w H s.heap a (.tup xs) from I.hok a _ ea)
    obtain ⟨o,h1,h2,_⟩:=p
    exact PySem.W.kia_one PySem.W.kitx_tuple I.kIn ⟨o,h1,h2⟩ e (fun z=>nomatch z) h
  | @dK a kvs ea =>
    cases (show u=Value.ref a from rx)
    obtain ⟨_,_,vs,_,p⟩:=(show ObjOk X.prog X.w H s.heap a (.dK kvs) from I.hok a _ ea)
    obtain ⟨o,es,ep,h1,h2,_⟩:=p
    exact PySem.W.kia_one PySem.W.kitx_dict I.kIn ⟨o,h1,h2.1⟩ e (fun z=>nomatch z) h
  | @dT a kvs ea =>
    cases (show u=Value.ref a from rx)
    obtain ⟨_,_,xs,_,o,es,ep,h1,h2,_⟩:=(show ObjOk X.prog X.w H s.heap a (.dT kvs) from I.hok a _ ea)
    exact PySem.W.kia_one PySem.W.kitx_dict I.kIn ⟨o,h1,h2.1⟩ e (fun z=>nomatch z) h
  | @ins a C dx fs ea cl ha hn htk hm =>
    cases (show u=Value.ref a from rx)
    obtain ⟨mA,O,_⟩:=ins_get I.hok ea
    obtain ⟨od,J,_⟩:=O.look
    exact PySem.W.kia_one (PySem.W.kitx_own (cl.get _) cl.hd ha hn htk hm) I.kIn J e (fun z=>nomatch z) h
end
end L2

namespace L2
open PySem PySem.Spec PyProof.Rows

structure Room (k:Nat) (A:Around):Prop where
  hd:A.handled=none
  dp:A.depth+3 * k+5 < recursionLimit
  un:A.units+16 * k+200 < cLine
theorem Room.mono {j k:Nat} {A:Around} (r:Room k A) (h:j≤k):Room j A:=⟨r.hd,by have:=r.dp;omega,by have:=r.un;omega⟩
theorem Room.deeper {k:Nat} {A:Around} (r:Room (k+1) A) (env:Env):Room k (A.deeper env) :=
  ⟨r.hd,by have:=r.dp;show A.depth+1+3 * k+5 < _;omega,by have:=r.un;show A.units+3+16 * k+200 < _;omega⟩
theorem make_depth {A:Around} {C:Addr} {us:List Value} {kw:List (Str × Value)}:(A.under (.builtin "type.__call__" ⟨.ref C :: us,kw⟩)).depth=A.depth+1:=by
  first | rfl | simp [Around.under,Code.weight,Code.isCreation,Code.isGuard,Code.isCaller,Code.frames,Code.isFrame,guardIds]
theorem make_units {A:Around} {C:Addr} {us:List Value} {kw:List (Str × Value)}:(A.under (.builtin "type.__call__" ⟨.ref C :: us,kw⟩)).units=A.units+1:=by
  first | rfl | simp [Around.under,Code.cUnits,Code.frames,Code.isFrame]
theorem Room.make {k:Nat} {A:Around} (r:Room (k+1) A) (C:Addr) (us:List Value) (kw:List (Str × Value)):Room k (A.under (.builtin "type.__call__" ⟨.ref C :: us,kw⟩)) :=
  ⟨r.hd,by have:=r.dp;rw [make_depth];omega,by have:=r.un;rw [make_units];omega⟩
theorem Room.depth {k:Nat} {A:Around} (r:Room k A):A.depth < recursionLimit:=by have:=r.dp;omega
theorem Room.units {k:Nat} {A:Around} (r:Room k A):A.units+64 < cLine:=by have:=r.un;omega
theorem Room.units0 {k:Nat} {A:Around} (r:Room k A):A.units < cLine:=by have:=r.un;omega

noncomputable def tNil:TA:=fun _ H Q=>Q [] H
noncomputable def tCons (ta:TE) (tr:TA):TA:=fun σ H Q=>ta σ H fun x H1=>tr σ H1 fun xs H2=>Q (x :: xs) H2
section
variable {X:Cx} {e:Expr} {es:List Expr} {te:TE} {t:TA} {pos:Pos}
theorem pa_nil:PA X [] tNil:=fun _ _ _ _ H Q I h=>Calls.spliced_nil ⟨[],H,I,.nil,h⟩
theorem pa_cons (ha:PE X e te) (hr:PA X es t) (hs:starEach (e :: es) X.env=(false,eval e X.env) :: starEach es X.env:=by rfl):PA X (e :: es) (tCons te t):=by
  intro pos pins s σ H Q I h
  rw [hs]
  show wpAny _ _ (spliced ((false,eval e X.env) :: backTo pos (starEach es X.env))) _ _ s
  refine Calls.spliced_cons (thn (ha pins s σ H _ I h) fun u s1 ⟨x,H1,I1,r1,q1⟩ => ?_)
  exact thn (hr pos pins s1 σ H1 _ I1 q1) fun us s2 ⟨xs,H2,I2,r2,q2⟩=>⟨x :: xs,H2,I2,.cons r1 r2,q2⟩

noncomputable def tTup (t:TA):TE:=fun σ H Q=>t σ H fun xs H1=>xs.length≤sizeLine∧∀ p,H1 p=none→Q (.ref p) (upd H1 p (.tup xs))
noncomputable def tLst (t:TA):TE:=fun σ H Q=>t σ H fun xs H1=>xs.length≤sizeLine∧∀ p,H1 p=none→Q (.ref p) (upd H1 p (.lst xs))
theorem pe_tup {x1} (h:PA X es t):PE X (.Tuple es x1 pos) (tTup t):=by
  intro pins s σ H Q I hq
  refine wpAny_Tuple_spliced (thn (h pos pins s σ H _ I hq) fun us s1 ⟨xs,H1,I1,r,z,q⟩=>⟨by rw [← r.length];exact z,?_⟩)
  have hf:H1 s1.heap.objs.size=none:=I1.hok.fresh (Nat.le_refl _)
  refine ⟨.ref s1.heap.objs.size,upd H1 s1.heap.objs.size (.tup xs),I1.laid (t':=s1.toks) (fun b u e=>Heap.get?_push_of_some _ e) (Nat.le_refl _) ?_,rfl,q _ hf⟩
  exact ⟨z,us,r,⟨_,Heap.get?_push_size _ rfl,rfl,_,rfl,rfl⟩⟩
theorem pe_lst (h:PA X es t):PE X (.List es pos) (tLst t):=by
  intro pins s σ H Q I hq
  refine wpAny_List_spliced (thn (h pos pins s σ H _ I hq) fun us s1 ⟨xs,H1,I1,r,z,q⟩=>⟨by rw [← r.length];exact z,?_⟩)
  have hf:H1 s1.heap.objs.size=none:=I1.hok.fresh (Nat.le_refl _)
  refine ⟨.ref s1.heap.objs.size,upd H1 s1.heap.objs.size (.lst xs),I1.laid (t':=s1.toks) (fun b u e=>Heap.get?_push_of_some _ e) (Nat.le_refl _) ?_,rfl,q _ hf⟩
  exact ⟨z,us,0,r,Heap.get?_push_size _ rfl⟩
end

noncomputable abbrev Sp:=List V→Hp→VK→XK→Prop
noncomputable abbrev CXT:=List Env→Hp→Shared→XK→Value→Shared→Prop

structure Env0 (P:Program) (w:World) (K:PySem.W.Frag) (mg:Str→Option Value) (base:Heap) (A:Around) (outer:List Env) (s:Shared) (H:Hp):Prop where
  frames:A.frames=some outer
  mod:Mod K mg base
  bs:∀ b o,base.get? b=some o→s.heap.get? b=some o∧H b=none
  bsz:base.objs.size≤s.heap.objs.size
  funs:s.heap.FunFrames base outer
  frf:∀ b∈frs outer,H b=none
  hok:HOk P w H s.heap
  bare:AllBare s.gens
noncomputable def CE (outer:List Env) (P:Program) (w:World) (H:Hp) (s:Shared) (Q:VK) (u:Value) (s':Shared):Prop :=
  ∃ v H',s'.os=s.os∧AllBare s'.gens∧Un (frs outer) [] H H' s.heap s'.heap∧HOk P w H' s'.heap∧RelV v u∧Q v H'
noncomputable def CR (CX:CXT) (outer:List Env) (P:Program) (w:World) (H:Hp) (s:Shared) (Q:VK) (E:XK) (r:Result) (s':Shared):Prop :=
  match r with
  | .ok (.ret u)=>CE outer P w H s Q u s'
  | .ok _=>False
  | .error e=>CX outer H s E e s'
structure FnOk (P:Program) (w:World) (K:PySem.W.Frag) (mg:Str→Option Value) (base:Heap) (CX:CXT) (k:Nat) (f:Addr) (fd:FuncData) (ps:List Str) (sp:Sp):Prop where
  len:∀ vs H Q E,sp vs H Q E→vs.length=ps.length
  run:∀ (A:Around) (outer:List Env) (s:Shared) (H:Hp) (args:Args) (us:List Value) (vs:List V) (Q:VK) (E:XK),Room k A→Env0 P w K mg base A outer s H→BindsTo s fd args (ps.zip us)→Vals vs us→sp vs H Q E →
    codeAny (model P w) A (.call (.ref f) args) (CR CX outer P w H s Q E) s

theorem Env0.make {P:Program} {w:World} {K:PySem.W.Frag} {mg:Str→Option Value} {base:Heap} {A:Around} {outer:List Env} {s:Shared} {H:Hp} (e:Env0 P w K mg base A outer s H) (C:Addr) (us:List Value) (kw:List (Str × Value)) :
    Env0 P w K mg base (A.under (.builtin "type.__call__" ⟨.ref C :: us,kw⟩)) outer s H:=⟨by first | exact e.frames | (simpa [Around.under,Code.envs,Code.isFrame,pushEnvs] using e.frames),e.mod,e.bs,e.bsz,e.funs,e.frf,e.hok,e.bare⟩

section
variable {X:Cx} {pins:List (Addr × Obj)} {σ : St} {H:Hp} {s s':Shared}
theorem Inv.env0 (I:Inv X pins σ H s):Env0 X.prog X.w X.K X.mg X.base X.A X.stack s H :=
  ⟨I.ok.frames,I.ok.mod,I.bs,Nat.le_trans I.ok.bsz I.sz,I.stack,I.stkFree,I.hok,I.bare⟩
theorem Inv.after {Q:VK} {u:Value} (I:Inv X pins σ H s) (h:CE X.stack X.prog X.w H s Q u s'):EP X pins σ Q u s':=by
  obtain ⟨v,H',os,bare,un,hok,r,q⟩:=h
  obtain ⟨hh,g,d,t,os'⟩:=s'
  obtain rfl:os'=s.os:=os
  exact ⟨v,H',I.call (h':=hh) (g':=g) (d':=d) (t':=t) (ch := []) un hok bare (fun b z=>absurd z (by simp)),r,q⟩
end

noncomputable def tCall (sp:Sp) (dvs:List V) (E:XK) (t:TA):TE:=fun σ H Q=>t σ H fun vs H1=>sp (vs ++ dvs) H1 Q E
noncomputable def tMake (C:Addr) (sp:Sp) (dvs:List V) (E:XK) (t:TA):TE:=fun σ H Q=>t σ H fun vs H1=>∀ x dx,H1 x=none→H1 dx=none→dx≠x →
  sp (.ref x :: (vs ++ dvs)) (upd (upd H1 dx (.own x)) x (.ins C dx [])) (fun v H2=>v = .non∧Q (.ref x) H2) E

noncomputable def Binds (K:PySem.W.Frag) (fd:FuncData) (ps:List Str) (ds:List Value):Prop :=
  ∀ (s:Shared) (us:List Value),K.In s.heap→(us ++ ds).length=ps.length→BindsTo s fd ⟨us, []⟩ (ps.zip (us ++ ds))
theorem Binds.all {K:PySem.W.Frag} {fd:FuncData} {ps:List Str} (h:∀ us:List Value,us.length=ps.length→bindArgs fd ⟨us, []⟩=pure (ps.zip us)):Binds K fd ps []:=fun s us _ hl=>by
  rw [List.append_nil] at hl ⊢
  exact .of_eq (h us hl)

noncomputable def Passes (CX:CXT) (X:Cx) (E:XK):Prop := ∀ (pins:List (Addr × Obj)) (σ : St) (H:Hp) (s:Shared) (e:Value) (s':Shared),Inv X pins σ H s→CX X.stack H s E e s'→X.xe e s'

section
variable {X:Cx} {CX:CXT} {k:Nat} {f C:Addr} {fd:FuncData} {ps:List Str} {sp:Sp} {dvs:List V} {ds:List Value} {E:XK} {x m:Str} {p pos apos:Pos} {e o:Expr} {es:List Expr} {ta:TE} {t:TA}

theorem run_fn {pins:List (Addr × Obj)} {σ : St} {H:Hp} {s:Shared} {Q:VK} {us:List Value} {vs:List V} (F:FnOk X.prog X.w X.K X.mg X.base CX k f fd ps sp) (hr:Room k X.A) (hb:Binds X.K fd ps ds) (hd:Vals dvs ds) (hx:Passes CX X E)
    (I:Inv X pins σ H s) (r:Vals vs us) (h:sp (vs ++ dvs) H Q E):wpAny (model X.prog X.w) X.A (call (.ref f) us) (EP X pins σ Q) X.xe s:=by
  have r2:Vals (vs ++ dvs) (us ++ ds):=r.append hd
  have hl:(us ++ ds).length=ps.length:=by rw [← r2.length];exact F.len _ _ _ _ h
  refine wpAny_call (codeAny_mono (F.run X.A X.stack s H ⟨us, []⟩ (us ++ ds) (vs ++ dvs) Q E hr I.env0 (hb s us I.kIn hl) r2 h) fun r s' hq => ?_)
  cases r with
  | error e=>exact hx pins σ H s e s' I hq
  | ok fl =>
    cases fl with
    | ret u=>exact I.after hq
    | next=>exact False.elim hq
    | brk=>exact False.elim hq
    | cont=>exact False.elim hq

theorem pe_call (F:FnOk X.prog X.w X.K X.mg X.base CX k f fd ps sp) (hr:Room k X.A) (hg:Gl X x) (hm:X.mg x=some (.ref f)) (hk:PySem.W.keepIn X.K (.ref f)=true) (hb:Binds X.K fd ps ds) (hd:Vals dvs ds) (hx:Passes CX X E)
    (ha:PA X (e :: es) t) (hdb:(x == ("__debug__" : Str))=false:=by decide) (he:starEach (e :: es) X.env=(false,eval e X.env) :: starEach es X.env:=by rfl) (hpl:(backTo pos (starEach es X.env)).any (·.1)=false:=by rfl) :
    PE X (.Call (.Name x p) (e :: es) [] pos) (tCall sp dvs E t):=by
  intro pins s σ H Q I h
  refine wpAny_Call_Name_kw (ld_glob I hg hm ?_ hdb)
  refine PySem.W.callWith_K (h₀ := X.base) I.ok.mod.kin hk (thn (ha pos pins s σ H _ I h) fun us s1 ⟨vs,H1,I1,r,q⟩=>⟨I1.kIn,?_⟩) he hpl
  exact run_fn F hr hb hd hx I1 r q


structure Mk (K:PySem.W.Frag) (C f:Addr):Prop where
  makes:PySem.W.makesIn K C=true
  init:PySem.W.findIn K (.ref C) "__init__" = some (some (.ref f))
  fn:PySem.W.isFn K (.ref f)=true
  kp:PySem.W.keepIn K (.ref C)=true

end

section
variable {X:Cx} {CX:CXT} {k:Nat} {f C:Addr} {fd:FuncData} {ps ks:List Str} {sp:Sp} {E:XK} {x m:Str} {p pos apos kpos:Pos} {e o:Expr} {es:List Expr} {kws:List Keyword} {te ta:TE} {t tk:TA} {nm:Option Str}

variable {g:List Value→List Value→List Value} {gV:List V→List V→List V}
end

structure FnScope (N P:List Str) (sc:Scope):Prop where
  kind:sc.kind = .function
  co:sc.isCoroutine=false
  gen:sc.isGenerator=false
  nd:N.Nodup
  pre:N.take P.length=P
  par:∀ x∈P,sc.names.lookup x=some .local∨sc.names.lookup x=some .cell
  nofree:∀ y∈sc.names,y.2 ≠ .free

theorem bindL_out {kindOf:Str→Option NameKind} {x:Str}:∀ {binds:List (Str × Value)} {m:Str→Option Value},(∀ v,(x,v) ∉ binds)→bindL kindOf binds m x=m x
  | [],_,_=>rfl
  | (n,v) :: r,m,h=>by
    unfold bindL
    rw [bindL_out fun w hw=>h w (List.mem_cons_of_mem _ hw)]
    split
    · have:x≠n:=by rintro rfl;exact h v List.mem_cons_self
      simp [this]
    · rfl
theorem bindC_out {kindOf:Str→Option NameKind} {x:Str}:∀ {binds:List (Str × Value)} {m:Str→Option Value},(∀ v,(x,v) ∉ binds)→bindC kindOf binds m x=m x
  | [],_,_=>rfl
  | (n,v) :: r,m,h=>by
    unfold bindC
    rw [bindC_out fun w hw=>h w (List.mem_cons_of_mem _ hw)]
    split
    · rfl
    · have:x≠n:=by rintro rfl;exact h v List.mem_cons_self
      simp [this]
theorem bindL_get {kindOf:Str→Option NameKind} {x:Str} {v:Value}:∀ {P:List Str} {vs:List Value} {i:Nat} {m:Str→Option Value},P.Nodup→P[i]? = some x→vs[i]? = some v→kindOf x=some .local →
    bindL kindOf (P.zip vs) m x=some v
  | [],_,_,_,_,h,_,_=>by simp at h
  | _ :: _, [],_,_,_,_,h,_=>by simp at h
  | p :: P,w :: vs,0,m,nd,h1,h2,hk=>by
    simp at h1 h2;subst h1;subst h2
    show bindL kindOf ((p,w) :: P.zip vs) m p=_
    unfold bindL
    rw [bindL_out fun v hv=>(List.nodup_cons.mp nd).1 (List.of_mem_zip hv).1,if_pos hk]
    simp
  | p :: P,w :: vs,i+1,m,nd,h1,h2,hk=>by
    show bindL kindOf ((p,w) :: P.zip vs) m x=_
    unfold bindL
    exact bindL_get (i:=i) (List.nodup_cons.mp nd).2 (by simpa using h1) (by simpa using h2) hk
theorem bindC_get {kindOf:Str→Option NameKind} {x:Str} {v:Value}:∀ {P:List Str} {vs:List Value} {i:Nat} {m:Str→Option Value},P.Nodup→P[i]? = some x→vs[i]? = some v→kindOf x≠some .local →
    bindC kindOf (P.zip vs) m x=some v
  | [],_,_,_,_,h,_,_=>by simp at h
  | _ :: _, [],_,_,_,_,h,_=>by simp at h
  | p :: P,w :: vs,0,m,nd,h1,h2,hk=>by
    simp at h1 h2;subst h1;subst h2
    show bindC kindOf ((p,w) :: P.zip vs) m p=_
    unfold bindC
    rw [bindC_out fun v hv=>(List.nodup_cons.mp nd).1 (List.of_mem_zip hv).1,if_neg hk]
    simp
  | p :: P,w :: vs,i+1,m,nd,h1,h2,hk=>by
    show bindC kindOf ((p,w) :: P.zip vs) m x=_
    unfold bindC
    exact bindC_get (i:=i) (List.nodup_cons.mp nd).2 (by simpa using h1) (by simpa using h2) hk

noncomputable def start (N:List Str) (vs:List V):St:=vs.map some ++ List.replicate (N.length - vs.length) none

noncomputable def cxOf (CX:CXT) (P:Program) (w:World) (K:PySem.W.Frag) (mg:Str→Option Value) (base:Heap) (N:List Str) (qual:Str) (scope:Scope) (f:Addr) (cd:Value) (A:Around) (outer:List Env) (s:Shared) (H:Hp) (E:XK):Cx where
  prog:=P
  w:=w
  K:=K
  mg:=mg
  base:=base
  A:=A.deeper (envOfC qual scope s.heap.objs.size f cd)
  N:=N
  s₀ := s
  H₀ := H
  env:=envOfC qual scope s.heap.objs.size f cd
  outer:=outer
  stack:=envOfC qual scope s.heap.objs.size f cd :: outer
  ex := []
  calm:=true
  fn:=fun _=>true
  pn := []
  xe:=fun e s'=>wpAny (model P w) (A.deeper (envOfC qual scope s.heap.objs.size f cd)) (leaving (envOfC qual scope s.heap.objs.size f cd) e) (fun _ s''=>CX outer H s E e s'') (fun e' s''=>CX outer H s E e' s'') s'

theorem cell_has {sc:Scope} {n:Nat} {x:Str} (h:sc.names.lookup x=some .cell):∃ c,(cellsFrom n sc.names []).lookup x=some c:=by
  have q:=PySem.W.cellsFrom_some sc.names n [] (.inl h)
  exact Option.isSome_iff_exists.mp q

theorem inv_start {CX:CXT} {P:Program} {w:World} {K:PySem.W.Frag} {mg:Str→Option Value} {base:Heap} {N ps:List Str} {qual:Str} {scope:Scope} {f:Addr} {cd:Value} {A:Around} {outer:List Env} {s s1:Shared} {H:Hp} {E:XK} {us:List Value} {vs:List V}
    (S:FnScope N ps scope) (hd:A.handled=none) (e0:Env0 P w K mg base A outer s H) (hl:vs.length=ps.length) (r:Vals vs us)
    (x:InCallC s s.heap.objs.size (bindL (envOfC qual scope s.heap.objs.size f cd).kindOf (ps.zip us) fun _=>none) (cellsFrom (s.heap.objs.size+1) scope.names []) (bindC (envOfC qual scope s.heap.objs.size f cd).kindOf (ps.zip us) fun _=>none) s1) :
    Inv (cxOf CX P w K mg base N qual scope f cd A outer s H E) [] (start N vs) H s1:=by
  have hpl:ps.length≤N.length:=by have:=congrArg List.length S.pre;rw [List.length_take] at this;omega
  obtain ⟨h1,tk,rfl,hk⟩:=x.done
  have noA:∀ b:Addr,b ∉ (cxOf CX P w K mg base N qual scope f cd A outer s H E).ex:=fun b z=>absurd (show b∈([]:List Addr) from z) (by simp)
  refine ⟨⟨e0.mod,S.kind,rfl,rfl,Nat.le_refl _,fun y z c h1 h2 => ?_,fun y hy => ?_,fun y c _ h => ?_,fun _=>hd,Around.frames_deeper e0.frames,.inr ⟨rfl,rfl⟩,fun b z=>absurd z (noA b),e0.bs,e0.bsz,fun b _ _=>noA b,fun b z=>absurd z (noA b),e0.funs,e0.frf⟩,
    rfl,e0.bare,Un.kept hk,⟨_,x.toInCall.ns,fun i y v h1 h2 h3 => ?_⟩,fun y c h=>⟨_,x.cell y c h⟩,e0.hok.fresh (Nat.le_refl _),fun y c h => ?_,fun p hp=>absurd (show p∈([]:List (Addr × Obj)) from hp) (by simp),e0.hok.kept hk,?_⟩
  · exact name_of_addr x.apart (PySem.mem_of_lookup h1) (PySem.mem_of_lookup h2)
  · have hy:scope.names.lookup y=some .cell∨scope.names.lookup y=some .free:=hy
    rcases hy with hy | hy
    · exact cell_has hy
    · exact absurd rfl (S.nofree _ (PySem.mem_of_lookup hy))
  · exact Nat.le_of_lt (x.above y c (PySem.mem_of_lookup h))
  · have hi:i < vs.length:=by
      unfold start at h2
      by_cases hi:i < vs.length
      · exact hi
      · rw [List.getElem?_append_right (by simpa using hi)] at h2
        rw [List.getElem?_replicate] at h2
        split at h2 <;> cases h2
    have ha:vs[i]? = some v:=by
      unfold start at h2
      rw [List.getElem?_append_left (by simpa using hi),List.getElem?_map] at h2
      cases e:vs[i]? with
      | none=>rw [e] at h2;cases h2
      | some a=>rw [e] at h2;cases h2;rfl
    obtain ⟨u,hu,rv⟩:=r.get ha
    have hp:ps[i]? = some y:=by
      rw [← S.pre,List.getElem?_take_of_lt (by omega)];exact h1
    have ndP:ps.Nodup:=by rw [← S.pre];exact S.nd.sublist (List.take_sublist _ _)
    refine ⟨u,rv,?_⟩
    rcases S.par y (List.mem_of_getElem? hp) with k | k
    · exact .inl ⟨k,bindL_get ndP hp hu k⟩
    · obtain ⟨c,e⟩:=cell_has (n:=s.heap.objs.size+1) k
      refine .inr ⟨.inl k,c,e,?_⟩
      have q:=x.cell y c e
      rw [bindC_get ndP hp hu (by show scope.names.lookup y≠_;rw [k];decide)] at q
      exact q
  · exact e0.hok.fresh (Nat.le_of_lt (x.above y c (PySem.mem_of_lookup h)))
  · unfold start
    show _=N.length
    rw [List.length_append,List.length_map,List.length_replicate]
    omega

theorem fn_of {CX:CXT} {P:Program} {w:World} {K:PySem.W.Frag} {mg:Str→Option Value} {base:Heap} {k:Nat} {f:Addr} {name qual:Str} {params:Arguments} {body:List Stmt} {scope:Scope} {dV kV doc pm cdv ct oc:Value} {an od:Option Addr}
    {osl:Array (Option Value)} {N ps:List Str} {sp:Sp} (lk:K.lookup f=some ⟨oc,od,.func (PySem.W.fnOf name qual params body scope dV kV doc pm an cdv ct),osl⟩) (hcd:PySem.W.codeIn K cdv qual=true) (S:FnScope N ps scope)
    (len:∀ vs H Q E,sp vs H Q E→vs.length=ps.length)
    (hbody:∀ (A:Around) (outer:List Env) (s:Shared) (H:Hp) (vs:List V) (Q:VK) (E:XK),Room k (A.deeper (envOfC qual scope s.heap.objs.size f cdv))→sp vs H Q E →
      ∃ t,PSs (cxOf CX P w K mg base N qual scope f cdv A outer s H E) body t∧t { nx:=fun _ H'=>Q .non H',rt:=Q } (start N vs) H) :
    FnOk P w K mg base CX (k+1) f (PySem.W.fnOf name qual params body scope dV kV doc pm an cdv ct) ps sp:=by
  refine ⟨len,fun A outer s H args us vs Q E hr e0 hb r hsp => ?_⟩
  have hl:=len _ _ _ _ hsp
  have KX:K.In s.heap:=e0.mod.kin.keeps fun b o e=>(e0.bs b o e).1
  have lim:s.heap.NoLimit:=e0.mod.nolimit.keeps fun b o e=>(e0.bs b o e).1
  have hkind:∀ y∈ps.zip us,scope.names.lookup y.1=some .local∨(scope.names.lookup y.1=some .cell∧((cellsFrom (s.heap.objs.size+1) scope.names []).lookup y.1).isSome=true):=fun ⟨n,v⟩ hy=>by
    rcases S.par n (List.of_mem_zip hy).1 with q | q
    · exact .inl q
    · exact .inr ⟨q,PySem.W.cellsFrom_some _ _ _ (.inl q)⟩
  refine codeAny_call_function hr.depth (KX _ _ lk) rfl S.co S.gen rfl (PySem.W.codeRec_of KX hcd) (hb _ _ _ _ ?_)
  refine wpAny_newFunctionEnv_cells S.kind hkind fun env he s1 x => ?_
  subst he
  refine ⟨lim.keeps x.toInCall.keep,codeAny_func ?_⟩
  obtain ⟨t,ht,hq⟩:=hbody A outer s H vs Q E (hr.deeper _) hsp
  have I:Inv (cxOf CX P w K mg base N qual scope f cdv A outer s H E) [] (start N vs) H s1:=inv_start S hr.hd e0 hl r x
  refine wpAny_mono (ht [] s1 (start N vs) H _ I hq) (fun fl s' hs => ?_) fun e s' hs=>hs
  have fin:∀ {σ':St} {H':Hp} {v:V} {u:Value},Inv (cxOf CX P w K mg base N qual scope f cdv A outer s H E) [] σ' H' s'→RelV v u→Q v H'→CE outer P w H s Q u s' :=
    fun {σ' H' v u} J rv q=>⟨v,H',J.os,J.bare,J.base,J.hok,rv,q⟩
  cases fl with
  | ret u =>
    obtain ⟨v, σ',H',J,rv,q⟩:=hs
    exact fin J rv q
  | next =>
    obtain ⟨σ',H',J,q⟩:=hs
    exact fin (v:=V.non) (u:=Value.none) J rfl q
  | brk =>
    obtain ⟨_,_,_,q⟩:=hs
    exact False.elim q
  | cont =>
    obtain ⟨_,_,_,q⟩:=hs
    exact False.elim q
end L2

namespace L2
open PySem PySem.Spec PyProof.Rows
section
variable {X:Cx} {x:Str} {p pos:Pos} {e:Expr} {es:List Expr} {t:TA} {id T:String} {r:List V→Hp→VK→Prop}

noncomputable def tCB (r:List V→Hp→VK→Prop) (t:TA):TE:=fun σ H Q=>t σ H fun vs H1=>r vs H1 Q
theorem pe_callB (hc:CallR X (.builtin id) r) (hg:Gl X x) (hm:X.mg x=none) (hv:bootBuiltins x=some (.builtin id)) (ha:PA X (e :: es) t) (hn:x ≠ "__name__" := by decide) (hdb:(x == ("__debug__" : Str))=false:=by decide)
    (he:starEach (e :: es) X.env=(false,eval e X.env) :: starEach es X.env:=by rfl) (hpl:(backTo pos (starEach es X.env)).any (·.1)=false:=by rfl):PE X (.Call (.Name x p) (e :: es) [] pos) (tCB r t):=by
  intro pins s σ H Q I h
  refine wpAny_Call_Name_kw (ld_blt I hg hm hv ?_ hn hdb)
  exact PyProof.Rows.callWith_builtin1 (thn (ha pos pins s σ H _ I h) fun us s1 ⟨vs,H1,I1,r1,q1⟩=>hc pins s1 σ H1 vs us Q I1 r1 q1) he hpl
theorem pe_callTy (hc:CallR X (.type T) r) (hg:Gl X x) (hm:X.mg x=none) (hv:bootBuiltins x=some (.type T)) (ha:PA X (e :: es) t) (hn:x ≠ "__name__" := by decide) (hdb:(x == ("__debug__" : Str))=false:=by decide)
    (he:starEach (e :: es) X.env=(false,eval e X.env) :: starEach es X.env:=by rfl) (hpl:(backTo pos (starEach es X.env)).any (·.1)=false:=by rfl):PE X (.Call (.Name x p) (e :: es) [] pos) (tCB r t):=by
  intro pins s σ H Q I h
  refine wpAny_Call_Name_kw (ld_blt I hg hm hv ?_ hn hdb)
  exact PyProof.Rows.callWith_type1 (thn (ha pos pins s σ H _ I h) fun us s1 ⟨vs,H1,I1,r1,q1⟩=>hc pins s1 σ H1 vs us Q I1 r1 q1) he hpl
end
end L2

namespace HT
open PySem PyProof.Rows



section
open PySem.SeqAt
open PySem.AutoSeq1 (wpAny_loadPart')
open PySem.MeetsSeq PySem.MeetsSeq2 PySem.MeetsSeq3

end

section
variable {prog:Program} {w:World} {A:Around} {E:Value→Shared→Prop} {s:Shared}



noncomputable def sIx (n d:Nat):Option Int→Nat
  | none=>d
  | some v=>if v < 0 then (v+(n:Int)).toNat else min v.toNat n
theorem sIx_none (n d:Nat):sIx n d none=d:=rfl
theorem sIx_nat (n d k:Nat):sIx n d (some (k:Int))=min k n:=by
  show (if (k:Int) < 0 then ((k:Int)+(n:Int)).toNat else min (k:Int).toNat n)=min k n
  rw [if_neg (by omega),Int.toNat_natCast]
theorem sIx_le (n d:Nat) (hd:d≤n) (o:Option Int):sIx n d o≤n:=by
  cases o with
  | none=>exact hd
  | some v =>
    show (if v < 0 then (v+(n:Int)).toNat else min v.toNat n)≤n
    by_cases hv:v < 0
    · rw [if_pos hv];omega
    · rw [if_neg hv];exact Nat.min_le_right _ _

end
end HT

namespace L2
open PySem PySem.Spec PyProof.Rows

noncomputable abbrev TO:=St→Hp→(Option Int→Hp→Prop)→Prop
noncomputable def PO (X:Cx) (e:Option Expr) (t:TO):Prop :=
  ∀ (pins:List (Addr × Obj)) (s:Shared) (σ : St) (H:Hp) (Q:Option Int→Hp→Prop),Inv X pins σ H s→t σ H Q →
    wpAny (model X.prog X.w) X.A (evalPart e X.env) (fun u s'=>∃ o H',Inv X pins σ H' s'∧IsPart u o∧Q o H') X.xe s
noncomputable def tNoPart:TO:=fun _ H Q=>Q none H
inductive J_tPart (Q:Option Int→Hp→Prop) (x:V) (H1:Hp):Prop
  | mk:∀ i,(x = .int i)→(Q (some i) H1)→J_tPart Q x H1
noncomputable def tPart (t:TE):TO:=fun σ H Q=>t σ H fun x H1=>J_tPart Q x H1


section
variable {X:Cx} {e:Expr} {te:TE} {lo hi:Option Expr} {tl th:TO} {pos p2:Pos}

theorem po_none:PO X none tNoPart:=by
  intro pins s σ H Q I h
  rw [evalPart_none]
  exact wpAny_pure ⟨none,H,I,.none,h⟩
theorem po_some (h:PE X e te):PO X (some e) (tPart te):=by
  intro pins s σ H Q I hw
  rw [evalPart_some]
  refine thn (h pins s σ H _ I hw) fun u s1 ⟨x,H1,I1,r1,q1⟩ => ?_
  obtain ⟨i,rfl,q⟩:=q1
  obtain ⟨t,rfl⟩:=r1
  exact ⟨some i,H1,I1,.int i t,q⟩

noncomputable def SlR (X:Cx) (r:V→Option Int→Option Int→Hp→VK→Prop):Prop :=
  ∀ (pins:List (Addr × Obj)) (s:Shared) (σ : St) (H:Hp) (x:V) (v vl vu:Value) (lo hi:Option Int) (sl:Addr) (Q:VK),Inv X pins σ H s→RelV x v→s.heap.IsSliceOf sl vl vu .none→IsPart vl lo→IsPart vu hi→r x lo hi H Q →
    ∃ T id,typeLookup (.type T) "__getitem__" = pure (some (.builtin id))∧s.TypeIs v T∧wpAny (model X.prog X.w) X.A (getItem v (.ref sl)) (EP X pins σ Q) X.xe s
noncomputable def tSl (r:V→Option Int→Option Int→Hp→VK→Prop) (te:TE) (tl th:TO):TE:=fun σ H Q=>te σ H fun x H1=>tl σ H1 fun l H2=>th σ H2 fun u H3=>r x l u H3 Q
theorem pe_slice {r:V→Option Int→Option Int→Hp→VK→Prop} (hr:SlR X r) (he:PE X e te) (hl:PO X lo tl) (hu:PO X hi th):PE X (.Subscript e (.Slice lo hi none p2) pos) (tSl r te tl th):=by
  intro pins s σ H Q I h
  refine Subscript_ (thn (he pins s σ H _ I h) fun v s1 ⟨x,H1,I1,r1,q1⟩ => ?_)
  refine wpAny_Slice (thn (hl pins s1 σ H1 _ I1 q1) fun vl s2 ⟨l,H2,I2,pl,q2⟩=>thn (hu pins s2 σ H2 _ I2 q2) fun vu s3 ⟨u,H3,I3,pu,q3⟩ => ?_)
  rw [evalPart_none]
  refine wpAny_pure ?_
  have I4:Inv X pins σ H3 { s3 with heap:=s3.heap.push { cls := .type "slice",data := .fields #[vl,vu,.none] } }:=I3.kept (t':=s3.toks) fun b ob q=>Heap.get?_push_of_some _ q
  obtain ⟨T,id,hT,ht,hg⟩:=hr pins { s3 with heap:=s3.heap.push { cls := .type "slice",data := .fields #[vl,vu,.none] } } σ H3 x v vl vu l u s3.heap.objs.size Q I4 r1 (Heap.IsSliceOf.new ..) pl pu q3
  show wpAny (model X.prog X.w) X.A (subscriptTail e (.Slice lo hi none p2) v (.ref s3.heap.objs.size)) (EP X pins σ Q) X.xe { s3 with heap:=s3.heap.push { cls := .type "slice",data := .fields #[vl,vu,.none] } }
  exact tail_any (ops := [.ref s3.heap.objs.size,v]) ht hT hg (by with_unfolding_all rfl)

noncomputable def cutV (xs:List V) (lo hi:Option Int):List V:=(xs.drop (HT.sIx xs.length 0 lo)).take (HT.sIx xs.length xs.length hi - HT.sIx xs.length 0 lo)
theorem cutV_length (xs:List V) (lo hi:Option Int):(cutV xs lo hi).length≤xs.length:=by
  unfold cutV
  rw [List.length_take,List.length_drop]
  omega

end
end L2

namespace L2
open PySem PySem.Spec PyProof.Rows

noncomputable def ixN (n:Nat) (i:Int):Option Nat:=if 0≤i then (if i < n then some i.toNat else none) else if -(n:Int)≤i then some (i+n).toNat else none
noncomputable def atI {α : Type} (xs:List α) (i:Int):Option α := (ixN xs.length i).bind fun j=>xs[j]?
theorem ixN_seq {n:Nat} {i:Int} {j:Nat} (h:ixN n i=some j):seqIndex? i n=some j∧j < n ∧ -(n:Int)≤i∧i < n:=by
  unfold ixN at h
  by_cases h0:0≤i
  · rw [if_pos h0] at h
    by_cases h1:i < n
    · rw [if_pos h1] at h
      have e:i.toNat=j:=Option.some.inj h
      exact ⟨by rw [seqIndex_of h0 h1,e],by omega,by omega,h1⟩
    · rw [if_neg h1] at h;cases h
  · rw [if_neg h0] at h
    by_cases h1 : -(n:Int)≤i
    · rw [if_pos h1] at h
      have e:(i+n).toNat=j:=Option.some.inj h
      exact ⟨by rw [seqIndex_neg (by omega) h1,e],by omega,h1,by omega⟩
    · rw [if_neg h1] at h;cases h
theorem atI_get {α : Type} {xs:List α} {i:Int} {v : α} (h:atI xs i=some v):∃ j,seqIndex? i xs.length=some j∧xs[j]? = some v∧j < xs.length ∧ -(xs.length:Int)≤i∧i < xs.length:=by
  unfold atI at h
  cases e:ixN xs.length i with
  | none=>rw [e] at h;cases h
  | some j =>
    rw [e] at h
    obtain ⟨h1,h2,h3,h4⟩:=ixN_seq e
    exact ⟨j,h1,h,h2,h3,h4⟩
theorem atI_nat {α : Type} {xs:List α} {j:Nat} {v : α} (h:xs[j]? = some v):atI xs (j:Int)=some v:=by
  have hj:j < xs.length:=(List.getElem?_eq_some_iff.mp h).1
  have e:ixN xs.length (j:Int)=some j:=by
    unfold ixN
    rw [if_pos (by omega),if_pos (by omega)];simp
  unfold atI;rw [e];exact h

noncomputable def PlainIx (b:Expr):Prop := ∀ o i,subscripted b false o i=operate [o,i] (getItem o i)
noncomputable def IxR (X:Cx) (r:R2):Prop :=
  ∀ (value slice:Expr) (pins:List (Addr × Obj)) (s:Shared) (σ : St) (H:Hp) (x y:V) (v u:Value) (Q:VK),Inv X pins σ H s→RelV x v→RelV y u→r x y H Q →
    subscripted slice false v u=operate [v,u] (getItem v u)→wpAny (model X.prog X.w) X.A (subscriptTail value slice v u) (EP X pins σ Q) X.xe s
noncomputable def MtR (X:Cx) (id:String) (r:V→List V→Hp→VK→Prop):Prop :=
  ∀ (pins:List (Addr × Obj)) (s:Shared) (σ : St) (H:Hp) (x:V) (xs:List V) (v:Value) (us:List Value) (Q:VK),Inv X pins σ H s→RelV x v→Vals xs us→r x xs H Q →
    wpAny (model X.prog X.w) X.A (call (.builtin id) (v :: us)) (EP X pins σ Q) X.xe s
section
variable {X:Cx} {a b:Expr} {ta tb:TE} {pos:Pos}
theorem pe_ix {r:R2} (hr:IxR X r) (ha:PE X a ta) (hb:PE X b tb) (hs:PlainIx b):PE X (.Subscript a b pos) (tOp r ta tb):=by
  intro pins s σ H Q I h
  exact Subscript_ (binT ha hb I h fun v u s2 x y H2 I2 rx ry q=>hr a b pins s2 σ H2 x y v u Q I2 rx ry q (hs _ _))

inductive RIxL (K:PySem.W.Frag) (x y:V) (H:Hp) (Q:VK):Prop
  | mk (p:Addr) (xs:List V) (i:Int) (v:V) (hx:x = .ref p) (hy:y = .int i) (hS:SqL K H p xs) (he:atI xs i=some v) (q:Q v H):RIxL K x y H Q
noncomputable def rIxL (K:PySem.W.Frag):R2:=fun x y H Q=>RIxL K x y H Q
inductive RIxT (K:PySem.W.Frag) (x y:V) (H:Hp) (Q:VK):Prop
  | mk (p:Addr) (xs:List V) (i:Int) (v:V) (hx:x = .ref p) (hy:y = .int i) (hS:SqT K H p xs) (he:atI xs i=some v) (q:Q v H):RIxT K x y H Q
noncomputable def rIxT (K:PySem.W.Frag):R2:=fun x y H Q=>RIxT K x y H Q
inductive J_rIxS (x:V) (y:V) (H:Hp) (Q:VK):Prop
  | mk:∀ z i c,(x = .str z)→(y = .int i)→(z.length≤sizeLine)→(atI z.cps.toList i=some c)→(Q (.str ⟨#[c]⟩) H)→J_rIxS x y H Q
noncomputable def rIxS:R2:=fun x y H Q=>J_rIxS x y H Q
theorem ix_list:IxR X (rIxL X.K):=by
  intro value slice pins s σ H x y v u Q I rx ry h hs
  obtain ⟨p,xs,i,z,rfl,rfl,hq,he,q⟩:=h
  cases rx
  obtain ⟨t,rfl⟩:=ry
  obtain ⟨its,r,pl,hz⟩:=I.list hq
  obtain ⟨j,h1,h2,h3,h4,h5⟩:=atI_get he
  obtain ⟨w,ew,rw'⟩:=r.get h2
  have hl:=r.length
  have hn:=line63
  have fin:EP X pins σ Q w s:=⟨z,H,I,rw',q⟩
  by_cases h0:0≤i
  · have hj:i.toNat=j:=by
      rw [seqIndex_of h0 h5] at h1
      exact Option.some.inj h1
    exact item_listR pl.isList h0 (by omega) (by rw [hj];simpa using ew) fin hs
  · have hj:(i+(its.toArray.size:Int)).toNat=j:=by
      rw [seqIndex_neg (by omega) h4] at h1
      rw [List.size_toArray, ← hl]
      exact Option.some.inj h1
    exact subscriptTail_builtinR (x:=w) pl.isList.typeIs slot_list_getitem.lookup
      (wpAny_getItem_list_neg (Q:=fun r s'=>r=w∧EP X pins σ Q r s') pl.isList (by omega) (by rw [List.size_toArray] <;> omega) (by omega) (by rw [hj];simpa using ew) ⟨rfl,fin⟩) hs
theorem ix_tup:IxR X (rIxT X.K):=by
  intro value slice pins s σ H x y v u Q I rx ry h hs
  obtain ⟨p,xs,i,z,rfl,rfl,hq,he,q⟩:=h
  cases rx
  obtain ⟨t,rfl⟩:=ry
  obtain ⟨its,r,pl,hz⟩:=I.tuple hq
  obtain ⟨j,h1,h2,h3,h4,h5⟩:=atI_get he
  obtain ⟨w,ew,rw'⟩:=r.get h2
  have hl:=r.length
  have hn:=line63
  have fin:EP X pins σ Q w s:=⟨z,H,I,rw',q⟩
  exact subscriptTail_builtinR (x:=w) pl.typeIs slot_tuple_getitem.lookup
    (getItem_tuple (j:=j) (Q:=fun r s'=>r=w∧EP X pins σ Q r s') pl (by omega) (by omega) (by rw [List.size_toArray, ← hl];exact h1) (by simpa using ew) ⟨rfl,fin⟩) hs
theorem ix_str:IxR X rIxS:=by
  intro value slice pins s σ H x y v u Q I rx ry h hs
  obtain ⟨z,i,c,rfl,rfl,hz,he,q⟩:=h
  obtain ⟨t,rfl⟩:=rx
  obtain ⟨t',rfl⟩:=ry
  obtain ⟨j,h1,h2,h3,h4,h5⟩:=atI_get he
  have hl:z.cps.toList.length=z.length:=by simp [Str.length]
  rw [hl] at h1 h4 h5
  have hn:=line63
  exact tail_any (typeIs_str s z t) slot_str_getitem.lookup (getItem_str (c:=c) (by
    have e1:decide (i < -(2 ^ 63:Int))=false:=decide_eq_false (by omega)
    have e2:decide (i ≥ 2 ^ 63)=false:=decide_eq_false (by omega)
    rw [e1,e2,Bool.or_false]) (by rw [h1];simpa using h2) ⟨.str ⟨#[c]⟩,H,I.tok _,⟨_,rfl⟩,q⟩) hs

theorem mapSeq_set (its:List Value) (n j:Nat) (u:Value):Obj.mapSeq (·.setIfInBounds j u) { cls := .type "list",data := .seq its.toArray n }={ cls := .type "list",data := .seq (its.set j u).toArray n }:=by
  simp [Obj.mapSeq]
theorem Inv.lst {pins:List (Addr × Obj)} {σ : St} {H:Hp} {s:Shared} {p:Addr} {xs:List V} (I:Inv X pins σ H s) (h:H p=some (.lst xs)) :
    ∃ (its:List Value) (n:Nat),Vals xs its∧s.heap.get? p=some { cls := .type "list",data := .seq its.toArray n }∧xs.length≤sizeLine:=by
  obtain ⟨z,its,n,r,e⟩:=I.hok p _ h
  exact ⟨its,n,r,e,z⟩
theorem Inv.lstUpd {pins:List (Addr × Obj)} {σ : St} {H:Hp} {s:Shared} {p:Addr} {xs ys:List V} {its its':List Value} {n n':Nat} {f:Obj→Obj} (I:Inv X pins σ H s) (h:H p=some (.lst xs))
    (ho:s.heap.get? p=some { cls := .type "list",data := .seq its.toArray n }) (hf:f { cls := .type "list",data := .seq its.toArray n }={ cls := .type "list",data := .seq its'.toArray n' }) (r:Vals ys its') (hz:ys.length≤sizeLine) (t:Nat) :
    Inv X pins σ (upd H p (.lst ys)) { s with heap:=s.heap.update p f,toks:=t }:=by
  have e:(s.heap.update p f).get? p=some { cls := .type "list",data := .seq its'.toArray n' }:=by
    rw [Heap.get?_update_self f ho (by rw [hf] <;> rfl),hf]
  refine I.write (x:=p) (e:=p) (by rw [h];trivial) (.inl rfl) (fun b u hb q=>(Heap.get?_update_other _ _ (Ne.symm hb)).trans q) ⟨_,e⟩ ?_
  exact ⟨hz,its',n',r,e⟩
inductive J_rSetL (o:V) (i:V) (v:V) (H:Hp) (Q:Hp→Prop):Prop
  | mk:∀ p xs k j,(o = .ref p)→(i = .int k)→(H p=some (.lst xs))→(ixN xs.length k=some j)→(Q (upd H p (.lst (xs.set j v))))→J_rSetL o i v H Q
noncomputable def rSetL:V→V→V→Hp→(Hp→Prop)→Prop:=fun o i v H Q=>J_rSetL o i v H Q
theorem set_list:PSet X rSetL:=by
  intro pins s σ H o i v ov iv u Q I ro ri rv h
  obtain ⟨p,xs,k,j,rfl,rfl,hp,hj,q⟩:=h
  cases ro
  obtain ⟨t,rfl⟩:=ri
  obtain ⟨its,n,r,ho,hz⟩:=I.lst hp
  obtain ⟨h1,h2,h3,h4⟩:=ixN_seq hj
  have hl:=r.length
  have hn:=line63
  have I':Inv X pins σ (upd H p (.lst (xs.set j v))) { s with heap:=s.heap.update p (Obj.mapSeq (·.setIfInBounds j u)) } :=
    I.lstUpd hp ho (mapSeq_set its n j u) (r.set rv j) (by rw [List.length_set];exact hz) s.toks
  by_cases h0:0≤k
  · have hk:k.toNat=j:=by
      rw [seqIndex_of h0 h4] at h1
      exact Option.some.inj h1
    exact PySem.W.ki_setAt ho h0 (by omega) (by rw [List.size_toArray, ← hl];exact h4) (by rw [hk];exact ⟨_,I',q⟩)
  · have hk:(k+(its.toArray.size:Int)).toNat=j:=by
      rw [seqIndex_neg (by omega) h3] at h1
      rw [List.size_toArray, ← hl]
      exact Option.some.inj h1
    exact PySem.W.ki_setBack ho (by omega) (by rw [List.size_toArray, ← hl];exact h3) (by omega) (by rw [hk];exact ⟨_,I',q⟩)

theorem slice_bounds (lo hi:Option Int) (n:Nat):(sliceBounds lo hi none n).1=((HT.sIx n 0 lo:Nat):Int)∧(sliceBounds lo hi none n).2.1=((HT.sIx n n hi:Nat):Int)∧(sliceBounds lo hi none n).2.2=1:=by
  refine ⟨?_,?_,rfl⟩
  · cases lo with
    | none=>simp [sliceBounds,HT.sIx]
    | some i =>
      simp only [sliceBounds,HT.sIx,Option.getD_none,show (1:Int) > 0 by decide,if_true]
      by_cases h:i < 0
      · simp only [h,if_true] <;> omega
      · simp only [h,if_false] <;> omega
  · cases hi with
    | none=>simp [sliceBounds,HT.sIx]
    | some i =>
      simp only [sliceBounds,HT.sIx,Option.getD_none,show (1:Int) > 0 by decide,if_true]
      by_cases h:i < 0
      · simp only [h,if_true] <;> omega
      · simp only [h,if_false] <;> omega
theorem slicePick_cut (its:List Value) (lo hi:Option Int):slicePick its.toArray lo hi none=((its.drop (HT.sIx its.length 0 lo)).take (HT.sIx its.length its.length hi - HT.sIx its.length 0 lo)).toArray:=by
  obtain ⟨h1,h2,h3⟩:=slice_bounds lo hi its.toArray.size
  unfold slicePick
  rw [h1,h2,h3]
  simp only [sliceRange_one,pick_run,List.size_toArray] <;> rfl
inductive J_rSlL (K:PySem.W.Frag) (x:V) (lo:Option Int) (hi:Option Int) (H:Hp) (Q:VK):Prop
  | mk:∀ a xs,(x = .ref a)→(SqL K H a xs)→(∀ p,H p=none→Q (.ref p) (upd H p (.lst (cutV xs lo hi))))→J_rSlL K x lo hi H Q
noncomputable def rSlL (K:PySem.W.Frag):V→Option Int→Option Int→Hp→VK→Prop:=fun x lo hi H Q=>J_rSlL K x lo hi H Q
theorem sl_list:SlR X (rSlL X.K):=by
  intro pins s σ H x v vl vu lo hi sl Q I rx hs pl pu h
  obtain ⟨a,xs,rfl,hx,q⟩:=h
  cases rx
  obtain ⟨its,r,ht,hz⟩:=I.list hx
  have hlen:=r.length
  refine ⟨"list",_,slot_list_getitem.lookup,ht.isList.typeIs,?_⟩
  refine wpAny_getItem_list_slice ht.isList hs pl pu .none (by simp) ?_ (by rw [List.size_toArray] <;> omega)
  rw [slicePick_cut, ← hlen]
  refine ⟨.ref s.heap.objs.size,_,I.laid (t':=s.toks) (o := .lst (cutV xs lo hi)) (fun b ob q=>Heap.get?_push_of_some _ q) (Nat.le_refl _) ?_,rfl,q _ (I.hok.fresh (Nat.le_refl _))⟩
  exact ⟨Nat.le_trans (cutV_length xs lo hi) hz,_,0,(r.drop (HT.sIx xs.length 0 lo)).take (HT.sIx xs.length xs.length hi - HT.sIx xs.length 0 lo),Heap.get?_push_size _ rfl⟩

noncomputable def flatV:V→Bool
  | .non=>true
  | .bl _=>true
  | .int _=>true
  | .str _=>true
  | _=>false
noncomputable def eqV:V→V→Bool
  | .non,.non=>true
  | .bl a,.bl b=>a == b
  | .bl a,.int b=>(if a then 1 else 0) == b
  | .int a,.bl b=>a == (if b then 1 else 0)
  | .int a,.int b=>a == b
  | .str a,.str b=>a == b
  | _,_=>false
theorem eqAt_V {A:Around} {s:Shared} {y x:V} {u v:Value} (ry:RelV y u) (rx:RelV x v) (fy:flatV y=true) (fx:flatV x=true):SeqAt.EqAt A s u v (eqV y x):=by
  cases y with
  | non =>
    cases ry
    cases x with
    | non=>cases rx;exact SeqAt.EqAt.same _
    | bl b=>cases rx;exact SeqAt.EqAt.none_bool b
    | int b=>obtain ⟨t,rfl⟩:=rx;exact SeqAt.EqAt.none_int b t
    | str b=>obtain ⟨t,rfl⟩:=rx;exact SeqAt.EqAt.none_str b t
    | _=>exact absurd (show false=true from fx) Bool.false_ne_true
  | bl a =>
    cases ry
    cases x with
    | non=>cases rx;exact SeqAt.EqAt.bool_none a
    | bl b=>cases rx;exact SeqAt.EqAt.bool_bool a b
    | int b=>obtain ⟨t,rfl⟩:=rx;exact SeqAt.EqAt.bool_int a b t
    | str b=>obtain ⟨t,rfl⟩:=rx;exact SeqAt.EqAt.bool_str a b t
    | _=>exact absurd (show false=true from fx) Bool.false_ne_true
  | int a =>
    obtain ⟨t',rfl⟩:=ry
    cases x with
    | non=>cases rx;exact SeqAt.EqAt.int_none a t'
    | bl b=>cases rx;exact SeqAt.EqAt.int_bool a t' b
    | int b=>obtain ⟨t,rfl⟩:=rx;exact SeqAt.EqAt.int_int a t' b t
    | str b=>obtain ⟨t,rfl⟩:=rx;exact SeqAt.EqAt.int_str a t' b t
    | _=>exact absurd (show false=true from fx) Bool.false_ne_true
  | str a =>
    obtain ⟨t',rfl⟩:=ry
    cases x with
    | non=>cases rx;exact SeqAt.EqAt.str_none a t'
    | bl b=>cases rx;exact SeqAt.EqAt.str_bool a t' b
    | int b=>obtain ⟨t,rfl⟩:=rx;exact SeqAt.EqAt.str_int a t' b t
    | str b=>obtain ⟨t,rfl⟩:=rx;exact SeqAt.EqAt.str_str a t' b t
    | _=>exact absurd (show false=true from fx) Bool.false_ne_true
  | _=>exact absurd (show false=true from fy) Bool.false_ne_true
noncomputable def eqU (x:V) (u:Value):Bool:=match u with
  | .none=>eqV .non x
  | .bool b=>eqV (.bl b) x
  | .int i _=>eqV (.int i) x
  | .str z _=>eqV (.str z) x
  | _=>false
theorem eqU_of {x y:V} {u:Value} (r:RelV y u) (f:flatV y=true):eqU x u=eqV y x:=by
  cases y with
  | non=>cases r;rfl
  | bl b=>cases r;rfl
  | int i=>obtain ⟨t,rfl⟩:=r;rfl
  | str z=>obtain ⟨t,rfl⟩:=r;rfl
  | _=>exact absurd (show false=true from f) Bool.false_ne_true
theorem any_eqU {x:V}:∀ {xs:List V} {us:List Value},Vals xs us→xs.all flatV=true→us.any (eqU x)=xs.any fun y=>eqV y x
  | _,_,.nil,_=>rfl
  | y :: xs,u :: us,.cons r t,f=>by
    rw [List.all_cons,Bool.and_eq_true] at f
    rw [List.any_cons,List.any_cons,eqU_of r f.1,any_eqU t f.2]
theorem mem_eqAt {A:Around} {s:Shared} {x:V} {v:Value} (rx:RelV x v) (fx:flatV x=true):∀ {xs:List V} {us:List Value},Vals xs us→xs.all flatV=true→∀ u∈us,SeqAt.EqAt A s u v (eqU x u)
  | _,_,.nil,_=>fun u hu=>by cases hu
  | y :: xs,u :: us,.cons r t,f=>fun u' hu=>by
    rw [List.all_cons,Bool.and_eq_true] at f
    rcases List.mem_cons.mp hu with rfl | hu
    · rw [eqU_of r f.1];exact eqAt_V r rx f.1 fx
    · exact mem_eqAt rx fx t f.2 u' hu
noncomputable def inV (x:V) (xs:List V):Bool:=xs.any fun y=>eqV y x
inductive J_rIn (K:PySem.W.Frag) (neg:Bool) (x:V) (y:V) (H:Hp) (Q:VK):Prop
  | mk:∀ p xs,(y = .ref p)→((SqL K H p xs∨SqT K H p xs))→(flatV x=true)→(xs.all flatV=true)→(Q (.bl (if neg then !inV x xs else inV x xs)) H)→J_rIn K neg x y H Q
noncomputable def rIn (K:PySem.W.Frag) (neg:Bool):R2:=fun x y H Q=>J_rIn K neg x y H Q
theorem op_notIn_seq:OpR X (compareOp .NotIn) (rIn X.K true):=by
  intro pins s σ H x y v u Q I rx ry h
  obtain ⟨p,xs,rfl,hq,fx,fs,q⟩:=h
  cases ry
  rcases hq with hq | hq
  · obtain ⟨its,r,pl,hz⟩:=I.list hq
    refine SeqAt.notIn_listAt (eqU x) pl.isList (fun w hw=>mem_eqAt rx fx r fs w (by simpa using hw)) ⟨.bl _,H,I,rfl,?_⟩
    rw [show its.toArray.any (eqU x)=its.any (eqU x) by simp,any_eqU r fs]
    exact q
  · obtain ⟨its,r,pl,hz⟩:=I.tuple hq
    refine SeqAt.notIn_tupleAt (eqU x) pl (fun w hw=>mem_eqAt rx fx r fs w (by simpa using hw)) ⟨.bl _,H,I,rfl,?_⟩
    rw [show its.toArray.any (eqU x)=its.any (eqU x) by simp,any_eqU r fs]
    exact q
inductive J_op_notIn_str (x:V) (y:V) (H:Hp) (Q:VK):Prop
  | mk:∀ i j,(x = .str i)→(y = .str j)→(Q (.bl (!(!(Builtin.Str.occurrences j i 0 j.length 1).isEmpty))) H)→J_op_notIn_str x y H Q
theorem op_notIn_str:OpR X (compareOp .NotIn) (fun x y H Q=>J_op_notIn_str x y H Q):=by
  intro pins s σ H x y v u Q I rx ry h
  obtain ⟨i,j,rfl,rfl,q⟩:=h
  obtain ⟨t,rfl⟩:=rx
  obtain ⟨t',rfl⟩:=ry
  exact notIn_str ⟨.bl _,H,I,rfl,q⟩

inductive J_len (K:PySem.W.Frag) (xs:List V) (H:Hp) (Q:VK):Prop
  | mk:∀ p ys,(xs = [.ref p])→(SqL K H p ys∨SqT K H p ys)→(Q (.int ys.length) H)→J_len K xs H Q
theorem call_len_seq:CallR X (.builtin "len") (fun xs H Q=>J_len X.K xs H Q):=by
  intro pins s σ H xs us Q I r h
  obtain ⟨p,ys,rfl,hq,q⟩:=h
  obtain ⟨u,rfl,rx⟩:=vals1 r
  cases rx
  have hn:=line63
  rcases hq with hq | hq
  · obtain ⟨its,r',pl,hz⟩:=I.list hq
    have hlen:=r'.length
    exact Calls.call_len_list pl.isList (by simp only [List.size_toArray] <;> omega) ⟨.int ys.length,H,I.tok _,⟨s.toks+1,by rw [List.size_toArray,hlen]⟩,q⟩
  · obtain ⟨its,r',pl,hz⟩:=I.tuple hq
    have hlen:=r'.length
    exact len_tuple pl (by simp only [List.size_toArray] <;> omega) ⟨.int ys.length,H,I.tok _,⟨s.toks+1,by rw [List.size_toArray,hlen]⟩,q⟩
inductive J_call_len_str (xs:List V) (H:Hp) (Q:VK):Prop
  | mk:∀ z,(xs = [.str z])→(z.length≤sizeLine)→(Q (.int z.length) H)→J_call_len_str xs H Q
theorem call_len_str:CallR X (.builtin "len") (fun xs H Q=>J_call_len_str xs H Q):=by
  intro pins s σ H xs us Q I r h
  obtain ⟨z,rfl,hz,q⟩:=h
  obtain ⟨u,rfl,t,rfl⟩:=vals1 r
  have hn:=line63
  exact len_str (by omega) ⟨.int z.length,H,I.tok _,⟨_,rfl⟩,q⟩
inductive J_call_list_of (kK:PySem.W.Frag) (xs:List V) (H:Hp) (Q:VK):Prop
  | mk:∀ p ys,(xs = [.ref p])→((SqL kK H p ys∨SqT kK H p ys))→(∀ l,H l=none→Q (.ref l) (upd H l (.lst ys)))→J_call_list_of kK xs H Q
theorem call_list_of:CallR X (.type "list") (fun xs H Q=>J_call_list_of X.K xs H Q):=by
  intro pins s σ H xs us Q I r h
  obtain ⟨p,ys,rfl,hq,q⟩:=h
  obtain ⟨u,rfl,rx⟩:=vals1 r
  cases rx
  have fin:∀ (its:List Value),Vals ys its→ys.length≤sizeLine→∀ (h':Heap) (c':Nat),(∀ b o',s.heap.get? b=some o'→h'.get? b=some o') →
      h'.get? s.heap.objs.size=some { cls := .type "list",dict:=none,data := .seq its.toArray c',slots := #[] }→EP X pins σ Q (.ref s.heap.objs.size) { s with heap:=h' }:=fun its r' hz h' c' kp e =>
    ⟨.ref s.heap.objs.size,_,I.laid (t':=s.toks) kp (Nat.le_refl _) (show ObjOk X.prog X.w _ h' _ (.lst ys) from ⟨hz,its,c',r',e⟩),rfl,q _ (I.hok.fresh (Nat.le_refl _))⟩
  rcases hq with hq | hq
  · obtain ⟨its,r',pl,hz⟩:=I.list hq
    have hlen:=r'.length
    obtain ⟨o,ho,hc,n,hd⟩:=pl.isList
    exact call_list_seq p (.inl rfl) ho hc hd (fun h' c' kp e=>fin its r' hz h' c' kp e) (by simp only [List.size_toArray] <;> omega)
  · obtain ⟨its,r',pl,hz⟩:=I.tuple hq
    have hlen:=r'.length
    obtain ⟨o,ho,hc,n,hd⟩:=pl
    exact call_list_seq p (.inr rfl) ho hc hd (fun h' c' kp e=>fin its r' hz h' c' kp e) (by simp only [List.size_toArray] <;> omega)
inductive J_call_tuple_of (kK:PySem.W.Frag) (xs:List V) (H:Hp) (Q:VK):Prop
  | mk:∀ p ys,(xs = [.ref p])→(((SqL kK H p ys∧∀ l,H l=none→Q (.ref l) (upd H l (.tup ys)))∨(SqT kK H p ys∧Q (.ref p) H)))→J_call_tuple_of kK xs H Q
theorem call_tuple_of:CallR X (.type "tuple") (fun xs H Q=>J_call_tuple_of X.K xs H Q):=by
  intro pins s σ H xs us Q I r h
  obtain ⟨p,ys,rfl,h⟩:=h
  obtain ⟨u,rfl,rx⟩:=vals1 r
  cases rx
  rcases h with ⟨hq,q⟩ | ⟨hq,q⟩
  · obtain ⟨its,r',pl,hz⟩:=I.list hq
    have hlen:=r'.length
    refine call_tuple_list pl.isList (fun h' kp => ?_) (by simp only [List.size_toArray] <;> omega)
    have I1:Inv X pins σ H { s with heap:=h' }:=I.kept (t':=s.toks) kp
    have I2:Inv X pins σ (upd H h'.objs.size (.tup ys)) { s with heap:=h'.push { cls := .type "tuple",data := .seq its.toArray } } :=
      I1.laid (t':=s.toks) (fun b o e=>Heap.get?_push_of_some _ e) (Nat.le_refl _) (show ObjOk X.prog X.w _ _ _ (.tup ys) from ⟨hz,its,r',IsTupN.new _ _⟩)
    exact ⟨.ref h'.objs.size,_,I2,rfl,q _ (I1.hok.fresh (Nat.le_refl _))⟩
  · obtain ⟨its,r',pl,hz⟩:=I.tuple hq
    exact call_tuple_same pl ⟨.ref p,H,I,rfl,q⟩

noncomputable def tyV (K:PySem.W.Frag) (T:String) (x:V) (H:Hp):Prop:=match x with
  | .str _=>T = "str"
  | .int _=>T = "int"
  | .ref p=>(T = "list" ∧ ∃ xs,SqL K H p xs)∨(T = "tuple" ∧ ((∃ o,K.lookup p=some o∧o.cls = .type "tuple" ∧ o.dict=none)∨∃ xs,H p=some (.tup xs))) ∨
      (T = "dict" ∧ ((∃ kvs,H p=some (.dK kvs))∨∃ kvs,H p=some (.dT kvs)))∨(T = "set" ∧ ∃ S n,H p=some (.set S n))
  | _=>False
theorem tyV_is {pins:List (Addr × Obj)} {σ : St} {H:Hp} {s:Shared} {T:String} {x:V} {v:Value} (I:Inv X pins σ H s) (r:RelV x v) (ty:tyV X.K T x H) :
    s.TypeIs v T∧∀ a,v = .ref a→∃ ob,s.heap.get? a=some ob∧ob.dict=none:=by
  cases x with
  | str z =>
    obtain ⟨t,rfl⟩:=r
    cases (show T = "str" from ty)
    exact ⟨typeIs_str s z t,fun _ e=>nomatch e⟩
  | int i =>
    obtain ⟨t,rfl⟩:=r
    cases (show T = "int" from ty)
    exact ⟨typeIs_int s i t,fun _ e=>nomatch e⟩
  | ref p =>
    cases r
    rcases ty with ⟨rfl,xs,hq⟩ | ⟨rfl,⟨o,hk,hc,hd⟩ | ⟨xs,hk⟩⟩ | ⟨rfl,hk⟩ | ⟨rfl,S,n,hk⟩
    · obtain ⟨its,_,pl,_⟩:=I.list hq
      refine ⟨pl.isList.typeIs,fun a e => ?_⟩
      cases e
      obtain ⟨o,n,e,c,hd,_⟩:=pl
      exact ⟨o,e,hd⟩
    · refine ⟨⟨o,I.kIn p o hk,hc⟩,fun a e => ?_⟩
      cases e
      exact ⟨o,I.kIn _ o hk,hd⟩
    · obtain ⟨_,_,_,o,e,c,n,d,hd⟩:=I.hok p _ hk
      refine ⟨⟨o,e,c⟩,fun a e2 => ?_⟩
      cases e2
      exact ⟨o,e,hd⟩
    · have z:∃ o,s.heap.get? p=some o∧o.ExactDict:=by
        rcases hk with ⟨kvs,hk⟩ | ⟨kvs,hk⟩
        · obtain ⟨_,_,_,_,o,_,_,e,ex,_⟩:=I.hok p _ hk
          exact ⟨o,e,ex⟩
        · obtain ⟨_,_,_,_,o,_,_,e,ex,_⟩:=I.hok p _ hk
          exact ⟨o,e,ex⟩
      obtain ⟨o,e,ex⟩:=z
      refine ⟨⟨o,e,ex.1⟩,fun a e2 => ?_⟩
      cases e2
      exact ⟨o,e,ex.2.1⟩
    · obtain ⟨o,_,_,_,e,ex,_⟩:=I.hok p _ hk
      refine ⟨⟨o,e,ex.1⟩,fun a e2 => ?_⟩
      cases e2
      exact ⟨o,e,ex.2.1⟩
  | _=>exact False.elim ty
noncomputable def tBM (K:PySem.W.Frag) (T:String) (r:V→List V→Hp→VK→Prop) (to:TE) (t:TA):TE:=fun σ H Q=>to σ H fun x H1=>tyV K T x H1∧t σ H1 fun xs H2=>r x xs H2 Q
variable {o e:Expr} {es:List Expr} {to:TE} {t:TA} {name:Str} {apos cpos:Pos} {T id:String} {r:V→List V→Hp→VK→Prop}
theorem pe_bm (pa:PlainAttrs T) (slot:Slot T name id) (hty:typeOf (.builtin id)=pure (.type "method_descriptor")) (hm:MtR X id r) (ho:PE X o to) (ha:PA X (e :: es) t)
    (hbase:attributeBase o name X.env (eval o X.env)=eval o X.env:=by rfl)
    (hfew:((backTo cpos (starEach (e :: es) X.env)).all (fun x => !x.1) && (backToKw cpos (keywordEach [] X.env)).all (fun x=>x.1.isSome)
      && decide ((e :: es).length+([]:List Keyword).length+(if ([]:List Keyword).isEmpty then 0 else 1) < 30))=true:=by rfl)
    (hline:(apos.endLine == cpos.line)=true:=by rfl) (hs:starEach (e :: es) X.env=(false,eval e X.env) :: starEach es X.env:=by rfl) (hplain:(backTo cpos (starEach es X.env)).any (·.1)=false:=by rfl) :
    PE X (.Call (.Attribute o name apos) (e :: es) [] cpos) (tBM X.K T r to t):=by
  intro pins s σ H Q I h
  refine wpAny_Call_method_late hbase hfew hline rfl (thn (ho pins s σ H _ I h) fun v s1 ⟨x,H1,I1,r1,ty,q1⟩ => ?_)
  obtain ⟨h1,h2⟩:=tyV_is I1 r1 ty
  refine ⟨T,id,pa,slot,hty,h1,h2,?_⟩
  have hA:=ha cpos pins s1 σ H1 _ I1 q1
  rw [hs] at hA ⊢
  refine Calls.callWith_builtin (by show (false || (backTo cpos (starEach es X.env)).any (·.1))=false;rw [hplain] <;> rfl) (Calls.evalArgs_plain ?_)
  exact thn hA fun us s2 ⟨vs,H2,I2,r2,q2⟩=>hm pins s2 σ H2 x vs v us Q I2 r1 r2 q2
/- xs.append(e),list.index on a module's tuple .. are MtR facts of 06m -/
end
end L2

namespace L2
open PySem PySem.Spec PyProof.Rows

noncomputable def MtM (X:Cx) (id:String) (r:V→List V→Hp→VK→Prop):Prop :=
  ∀ (pins:List (Addr × Obj)) (s:Shared) (σ : St) (H:Hp) (x:V) (xs:List V) (v:Value) (us:List Value) (Q:VK),Inv X pins σ H s→RelV x v→Vals xs us→r x xs H Q →
    wpAny (model X.prog X.w) X.A (call (.builtin id) (v :: us)) (EP X pins σ Q) X.xe s

theorem Vals.one:∀ {x:V} {us:List Value},Vals [x] us→∃ u,us = [u]∧RelV x u
  | _,_,.cons r .nil=>⟨_,rfl,r⟩

section
variable {X:Cx} {pins:List (Addr × Obj)} {σ : St} {H:Hp} {s:Shared} {l b:Addr} {xs ys zs:List V}

theorem Inv.lset {its its':List Value} {n:Nat} {f:Array Value→Array Value} {t':Nat} (I:Inv X pins σ H s) (hH:H l=some (.lst xs))
    (e:s.heap.get? l=some { cls := .type "list",data := .seq its.toArray n }) (hf:f its.toArray=its'.toArray) (hv:Vals ys its') (hz:ys.length≤sizeLine) :
    Inv X pins σ (upd H l (.lst ys)) { s with heap:=s.heap.update l (Obj.mapSeq f),toks:=t' }:=by
  have q:=PySem.IsL.update e f
  rw [hf] at q
  refine I.write (x:=l) (e:=l) (by rw [hH];exact trivial) (.inl rfl) (fun b' u hb hu=>(Heap.get?_update_other s.heap (Obj.mapSeq f) (Ne.symm hb)).trans hu) ⟨_,q⟩ ?_
  exact ⟨hz,its',_,hv,q⟩
theorem Inv.lnew {its:List Value} {t':Nat} (I:Inv X pins σ H s) (hv:Vals ys its) (hz:ys.length≤sizeLine) :
    Inv X pins σ (upd H s.heap.objs.size (.lst ys)) { s with heap:=s.heap.push { cls := .type "list",data := .seq its.toArray },toks:=t' } :=
  I.laid (fun _ _ q=>Heap.get?_push_of_some _ q) (Nat.le_refl _) ⟨hz,its,0,hv,Heap.get?_push_size _ rfl⟩
theorem Inv.lstM (I:Inv X pins σ H s) (hH:H l=some (.lst xs)):xs.length≤sizeLine∧∃ (its:List Value) (n:Nat),Vals xs its∧xs.length=its.length∧s.heap.get? l=some { cls := .type "list",data := .seq its.toArray n }:=by
  obtain ⟨z,its,n,r,e⟩:=I.hok l _ hH
  exact ⟨z,its,n,r,r.length,e⟩

end

section
variable {X:Cx}

inductive J_rAppend (x:V) (vs:List V) (H:Hp) (Q:VK):Prop
  | mk:∀ l xs y,(x = .ref l)→(vs = [y])→(H l=some (.lst xs))→(xs.length < sizeLine)→(Q .non (upd H l (.lst (xs ++ [y]))))→J_rAppend x vs H Q
noncomputable def rAppend:V→List V→Hp→VK→Prop:=fun x vs H Q=>J_rAppend x vs H Q
theorem mt_append:MtM X "list.append" rAppend:=by
  intro pins s σ H x vs v us Q I rx rv h
  obtain ⟨l,xs,y,rfl,rfl,hH,hz,q⟩:=h
  cases rx
  obtain ⟨u,rfl,ru⟩:=rv.one
  obtain ⟨z,its,n,r,hl,e⟩:=I.lstM hH
  refine call_meets F.slot_list_append ⟨_,e,rfl⟩ F.entry_list_append (F.args_list_append_2 _ _) (PySem.list_append l its.toArray n u (by rw [List.size_toArray];omega)) ⟨e,?_⟩
  refine ⟨.non,_,I.lset (its':=its ++ [u]) hH e (by simp) (r.append (.cons ru .nil)) ?_,rfl,q⟩
  rw [List.length_append,List.length_singleton]
  omega







end

section
variable {prog:Program} {w:World} {A:Around} {E:Value→Shared→Prop} {s:Shared}
end

section
variable {X:Cx}
end
end L2

namespace Att
open PySem PySem.W PySem.Calls PyProof.Rows

theorem ints_of_wellAll {P:Params} {h:Heap}:∀ (ns:List Int) (vs:List Value),WellAll P h vs (ns.map WData.int)→IntsAre vs ns:=by
  intro ns
  induction ns with
  | nil =>
    intro vs w
    rw [List.map_nil] at w
    cases w
    exact .nil
  | cons n ns ih =>
    intro vs w
    rw [List.map_cons] at w
    cases w with
    | cons a b =>
      cases a
      exact .cons _ _ (ih _ b)

theorem script_of {l:OpenLaw} {n:Nat} (hn:l.most=some n) {P:Params} {h:Heap} {args:List WData} {vals:List Value}
    (hpre:l.row.toRowW.claim.pre args=true) (hwl:WellAll P h vals args) :
    ∃ a vs ns,vals = [Value.ref a]∧args = [WData.list (ns.map WData.int)]∧h.get? a=some { cls := .type "list",data := .seq vs.toArray }∧IntsAre vs ns∧ns.length≤n:=by
  have hsh:WShape.hasAll [] args [.list .int]=true:=(pre_splitW hpre).1
  have hc:l.pre.holds [] { args:=args }=true:=(pre_splitW hpre).2
  obtain ⟨d,r,rfl,h1,h2⟩:=hasAllW_cons hsh
  obtain rfl:=hasAllW_nil h2
  obtain ⟨xs,rfl,h3⟩:=hasW_list h1
  obtain ⟨ns,rfl⟩:=items_int h3
  have hlen:ns.length≤n:=by
    unfold OpenLaw.pre at hc
    have h4:(WTm.not (.lt (.lit (.int (n:Int))) (.len (.arg 0)))).holds [] { args := [.list (ns.map .int)] }=true:=by
      have h4:=(holds_andW hc).1
      rw [hn] at h4
      exact h4
    have h5:=condW_of h4 (w_not (w_lt w_lit (w_len_list (w_arg rfl))))
    rw [List.length_map] at h5
    refine Nat.le_of_not_lt fun q => ?_
    have q':(n:Int) < ((ns.length:Nat):Int):=by omega
    first
      | (rw [decide_eq_true q'] at h5;exact absurd h5 (by decide))
      | (simp at h5;omega)
  cases hwl with
  | cons w1 w2 =>
    cases w2
    cases w1 with
    | list ho hall=>exact ⟨_,_,ns,rfl,rfl,ho,ints_of_wellAll ns _ hall,hlen⟩

theorem post_true (l:OpenLaw) (args:List WData):l.row.toRowW.claim.post args (.bool true) args=true :=
  postW_of (r:=l.row.toRowW) (X:=(true == true))
    (show WShape.has [] (.bool true) .bool=true by first | rfl | decide | simp [WShape.has,WShape.arms,WShape.armsAll])
    (show (WTm.eq .res (.lit (.bool true))).value [] { args:=args,res:=some (.bool true),after:=args }=some (.bool (true == true)) from w_eq_bool (w_res rfl) w_lit) rfl




section
variable {prog:Program} {w:World} {A:Around} {E:Value→Shared→Prop} {s:Shared} {K:Frag}






end
end Att

namespace L2
open PySem PySem.Spec PyProof.Rows

theorem vals_ints:∀ {vs:List Value} {ns:List Int},IntsAre vs ns→Vals (ns.map V.int) vs
  | _,_,.nil => .nil
  | _,_,.cons n t h => .cons ⟨t,rfl⟩ (vals_ints h)

noncomputable def Only (H:Hp):Prop := ∀ b,H b=none∨∃ o xs,H b=some (.frz o (.lst xs))

theorem law_call {P:Program} {w:World} {K:PySem.W.Frag} {mg mb:Str→Option Value} {CX:CXT} {k:Nat} {fa a:Addr} {fd:FuncData} {x:Str} {sp:Sp} {s₁ : Shared} {vs:List Value} {ns:List Int}
    (KX:K.In s₁.heap) (hns:s₁.heap.Ns mainGlobals mg) (hb:s₁.heap.Ns builtinsNs mb) (hbb:∀ x:Str,x ≠ "__name__" → mb x=bootBuiltins x) (hlim:s₁.heap.NoLimit) (hg:s₁.gens = #[])
    (ha:s₁.heap.get? a=some { cls := .type "list",data := .seq vs.toArray }) (hi:IntsAre vs ns) (hl:ns.length≤sizeLine) (hr:Room k callerA)
    (F:∀ base:Heap,K.In base→base.Ns mainGlobals mg→FnOk P w K mg base CX k fa fd [x] sp) (hbind:∀ (s:Shared) (u:Value),BindsTo s fd ⟨[u], []⟩ [(x,u)])
    (hsp:∀ H:Hp,Only H→SqL K H a (ns.map V.int)→sp [.ref a] H (fun v _=>v = .bl true) fun _ _ _=>False)
    (hCX:∀ H e s',CX [] H s₁ (fun _ _ _=>False) e s'→False) :
    codeAny (model P w) callerA (.call (.ref fa) ⟨[.ref a], []⟩) (fun r s'=>r = .ok (.ret (.bool true))∧OldK s₁.heap s'.heap∧s'.os=s₁.os∧AllBare s'.gens) s₁ := by
  have rv:=vals_ints hi
  have lenV:=hi.length
  -- from an abstract heap in which nothing but the script may be tracked
  have core:∀ H:Hp,Only H→SqL K H a (ns.map V.int)→HOk P w H s₁.heap→(∀ b,H b≠none→b=a)→(H a≠none→K.lookup a=none) →
      codeAny (model P w) callerA (.call (.ref fa) ⟨[.ref a], []⟩) (fun r s'=>r = .ok (.ret (.bool true))∧OldK s₁.heap s'.heap∧s'.os=s₁.os∧AllBare s'.gens) s₁ := by
    intro H hO hS hok hA hK
    have base_of:∀ {b:Addr} {o:Obj},s₁.heap.get? b=some o→H b=none→(hidT s₁.heap H).get? b=some o:=fun e n=>hidT_get e n
    have noA:∀ {b:Addr} {o:Obj} {es:Array DictEntry} {ep:Nat},s₁.heap.get? b=some o→o.data = .dict es ep→H b=none:=fun {b o es ep} e d=>by
      cases q:H b with
      | none=>rfl
      | some u =>
        have e':b=a:=hA b (by rw [q];simp)
        subst e'
        rw [ha] at e;cases e
        have d':Data.seq vs.toArray _=Data.dict es ep:=d
        cases d'
    have nsK:∀ {b:Addr} {m:Str→Option Value},s₁.heap.Ns b m→(hidT s₁.heap H).Ns b m:=fun {b m} ⟨o,es,ep,e,d,r⟩=>⟨o,es,ep,base_of e (noA e d),d,r⟩
    have hKb:K.In (hidT s₁.heap H):=fun b o e=>base_of (KX b o e) (by
      cases q:H b with
      | none=>rfl
      | some u =>
        have e':b=a:=hA b (by rw [q];simp)
        subst e'
        rw [hK (by rw [q];simp)] at e;cases e)
    have hM:Mod K mg (hidT s₁.heap H):=⟨hKb,nsK hns,⟨mb,nsK hb,hbb⟩,let ⟨mc,h1,h2⟩:=hlim; ⟨mc,nsK h1,h2⟩⟩
    have e0:Env0 P w K mg (hidT s₁.heap H) callerA [] s₁ H:=⟨rfl,hM,fun b o e=>of_hidT e,Nat.le_of_eq (hidT_size _ _),trivial,fun b hb=>absurd (show b∈([]:List Addr) from hb) (by simp),hok,.of_eq hg⟩
    refine codeAny_mono ((F _ hKb (nsK hns)).run callerA [] s₁ H ⟨[.ref a], []⟩ [.ref a] [.ref a] _ _ hr e0 (hbind s₁ (.ref a)) (.cons rfl .nil) (hsp H hO hS)) fun r s' h => ?_
    cases r with
    | error e=>exact (hCX H e s' h).elim
    | ok fl =>
      cases fl with
      | next=>exact False.elim h
      | brk=>exact False.elim h
      | cont=>exact False.elim h
      | ret u =>
        obtain ⟨v,H',os,bare,un,hok',r',q⟩:=h
        have q':v = .bl true:=q
        subst q'
        obtain rfl:u=Value.bool true:=r'
        refine ⟨rfl,OldK.of_keep fun b o e => ?_,os,bare⟩
        cases q:H b with
        | none=>exact un.keep b o e q (by intro z;exact absurd (show b∈([]:List Addr) from z) (by simp)) (by simp)
        | some u =>
          rcases hO b with z | ⟨ob,xs,z⟩
          · rw [q] at z;cases z
          · have z2:=un.frzs b ob _ z
            obtain ⟨e1,_⟩:=hok b _ z
            obtain ⟨e2,_⟩:=hok' b _ z2
            rw [e] at e1;cases e1
            exact e2
  cases hk:K.lookup a with
  | some o =>
    -- the script is one of the module's own objects
    have e:=KX a o hk
    rw [ha] at e
    cases e
    refine core (fun _=>none) (fun _ => .inl rfl) (.inr ⟨_,vs.toArray,_,hk,rfl,rfl,rfl,by rw [List.size_toArray,lenV];exact hl,by simpa using rv⟩) (fun b u z=>by have z':(none:Option HO)=some u:=z;cases z') (fun b z=>absurd rfl z) fun z=>absurd rfl z
  | none =>
    refine core (fun b=>if b=a then some (.frz { cls := .type "list",data := .seq vs.toArray } (.lst (ns.map V.int))) else none) (fun b => ?_) (.inl (.inr ⟨{ cls := .type "list",data := .seq vs.toArray },if_pos rfl⟩)) (fun b u z => ?_) (fun b z => ?_) fun _=>hk
    · by_cases hb:b=a
      · exact .inr ⟨_,_,if_pos hb⟩
      · exact .inl (if_neg hb)
    · by_cases hb:b=a
      · have z':=(if_pos hb).symm.trans z
        cases z'
        subst hb
        exact ⟨ha,by rw [List.length_map];exact hl,vs,_,rv,ha⟩
      · have z':=(if_neg hb).symm.trans z
        cases z'
    · by_cases hb:b=a
      · exact hb
      · exact absurd (if_neg hb) z
end L2

namespace L2
open PySem PySem.Spec PyProof.Rows


end L2



namespace L2
open PySem PySem.Spec PyProof.Rows

noncomputable def inClass (s:Stmt) (j:Nat):Stmt:=match s with
  | .ClassDef _ _ _ body _ _ _ _ _ _ _=>body.getD j (.Pass ⟨0,0,0,0⟩)
  | _ => .Pass ⟨0,0,0,0⟩
noncomputable def defArgs (s:Stmt):Arguments:=match s with
  | .FunctionDef _ a _ _ _ _ _ _ _ _=>a
  | _=>{ posonlyargs := [],args := [],vararg:=none,kwonlyargs := [],kw_defaults := [],kwarg:=none,defaults := [] }
noncomputable def defBody (s:Stmt):List Stmt:=match s with
  | .FunctionDef _ _ b _ _ _ _ _ _ _=>b
  | _ => []
noncomputable def defScope (s:Stmt):Scope:=match s with
  | .FunctionDef _ _ _ _ _ _ sc _ _ _=>sc
  | _=>{ kind := .function,names := [],isGenerator:=false,isCoroutine:=false }

noncomputable abbrev CX0:CXT:=fun _ _ _ _ _ _=>False
noncomputable abbrev E0:XK:=fun _ _ _=>False
theorem pass0 {X:Cx}:Passes CX0 X E0:=fun _ _ _ _ _ _ _ h=>h.elim

structure Fun (K:PySem.W.Frag) (x qual:Str) (st:Stmt) (f:Addr) (fd:FuncData):Prop where
  ex:∃ (oc:Value) (od:Option Addr) (kV doc pm:Value) (an:Option Addr) (cdv ct:Value) (osl:Array (Option Value)),
    fd=PySem.W.fnOf x qual (defArgs st) (defBody st) (defScope st) .none kV doc pm an cdv ct∧K.lookup f=some ⟨oc,od,.func fd,osl⟩∧PySem.W.codeIn K cdv qual=true
  kp:PySem.W.keepIn K (.ref f)=true
section
variable {P:Program} {w:World} {K:PySem.W.Frag} {mg:Str→Option Value} {base:Heap}
theorem Fun.ok {x qual:Str} {st:Stmt} {f:Addr} {fd:FuncData} {N ps:List Str} {k:Nat} {sp:Sp} (F:Fun K x qual st f fd) (S:FnScope N ps (defScope st)) (len:∀ vs H Q E,sp vs H Q E→vs.length=ps.length)
    (hbody:∀ (cdv:Value) (A:Around) (outer:List Env) (s:Shared) (H:Hp) (vs:List V) (Q:VK) (E:XK),Room k (A.deeper (envOfC qual (defScope st) s.heap.objs.size f cdv))→sp vs H Q E →
      ∃ t,PSs (cxOf CX0 P w K mg base N qual (defScope st) f cdv A outer s H E).nox (defBody st) t∧t { nx:=fun _ H'=>Q .non H',rt:=Q } (start N vs) H):FnOk P w K mg base CX0 (k+1) f fd ps sp:=by
  obtain ⟨oc,od,kV,doc,pm,an,cdv,ct,osl,rfl,lk,hcd⟩:=F.ex
  refine fn_of lk hcd S len fun A outer s H vs Q E hr hsp => ?_
  obtain ⟨t,h,q⟩:=hbody cdv A outer s H vs Q E hr hsp
  exact ⟨t,h.nox,q⟩
theorem Fun.binds {x qual:Str} {st:Stmt} {f:Addr} {fd:FuncData} {ps:List Str} (F:Fun K x qual st f fd)
    (h:∀ (kV doc pm:Value) (an:Option Addr) (cdv ct:Value) (us:List Value),us.length=ps.length→bindArgs (PySem.W.fnOf x qual (defArgs st) (defBody st) (defScope st) .none kV doc pm an cdv ct) ⟨us, []⟩=pure (ps.zip us)):Binds K fd ps []:=by
  obtain ⟨oc,od,kV,doc,pm,an,cdv,ct,osl,rfl,lk,hcd⟩:=F.ex
  exact .all (h kV doc pm an cdv ct)
theorem fun_mk {x qual:Str} {st:Stmt} {f:Addr} {oc:Value} {od an:Option Addr} {osl:Array (Option Value)} {kV doc pm cdv ct:Value} (l:K.lookup f=some ⟨oc,od,.func (PySem.W.fnOf x qual (defArgs st) (defBody st) (defScope st) .none kV doc pm an cdv ct),osl⟩)
    (c:PySem.W.codeIn K cdv qual=true) (k:PySem.W.keepIn K (.ref f)=true):Fun K x qual st f (PySem.W.fnOf x qual (defArgs st) (defBody st) (defScope st) .none kV doc pm an cdv ct):=⟨⟨oc,od,kV,doc,pm,an,cdv,ct,osl,rfl,l,c⟩,k⟩
end
theorem hu_of {A:Around} {k:Nat} (hr:Room k A):A.units+1 < cLine:=Nat.lt_of_le_of_lt (Nat.add_le_add_left (by decide:1≤64) _) hr.units
theorem small1000 {n:Nat} (h:n≤1000):n < sizeLine:=Nat.lt_of_le_of_lt h (by decide)

section
variable {X:Cx}
theorem pv (i:Nat) {x:Str} {pos:Pos} (hN:X.N[i]? = some x:=by rfl) (hv:Vis X.env.scope x:=by first | exact Or.inl rfl | exact Or.inr (Or.inl rfl) | exact Or.inr (Or.inr rfl)) (hd:(x == ("__debug__" : Str))=false:=by decide)
    (hcd:(x == ("__classdict__" : Str))=false:=by decide):PE X (.Name x pos) (tVar i):=pe_var hN hv hd hcd
end

theorem iteF {A B:Prop} (h:B):if false=true then A else B:=by
  rw [if_neg Bool.false_ne_true]
  exact h
theorem iteT {A B:Prop} (h:A):if true=true then A else B:=by
  rw [if_pos rfl]
  exact h

noncomputable def Same (H H':Hp):Prop := ∀ b o,H b=some o→H' b=some o
theorem Same.refl (H:Hp):Same H H:=fun _ _ h=>h
theorem Same.trans {H H1 H2:Hp} (a:Same H H1) (b:Same H1 H2):Same H H2:=fun c o h=>b c o (a c o h)
theorem Same.free {H H':Hp} (e:Same H H') {l:Addr} (h:H' l=Option.none):H l=Option.none:=by
  cases q:H l with
  | none=>rfl
  | some o =>
    rw [e l o q] at h
    cases h
theorem Same.seq {K:PySem.W.Frag} {H H':Hp} {a:Addr} {xs:List V} (e:Same H H') (h:SqL K H a xs):SqL K H' a xs:=by
  rcases h with (h | ⟨o,h⟩) | h
  · exact .inl (.inl (e _ _ h))
  · exact .inl (.inr ⟨o,e _ _ h⟩)
  · exact .inr h

end L2
namespace L2
open PySem PySem.Spec PyProof.Rows

section
variable {X:Cx} {pins:List (Addr × Obj)} {σ : St} {H:Hp} {s:Shared} {h':Heap}
end

section
variable {X:Cx}

end


section
variable {X:Cx}
theorem foldl_cps (a:Array Nat):∀ (k:Nat) (acc:Array Nat),((List.replicate k a).foldl (· ++ ·) acc).toList=acc.toList ++ (List.replicate k a.toList).flatten
  | 0,acc=>by simp
  | k+1,acc=>by
    rw [List.replicate_succ,List.foldl_cons,foldl_cps a k,List.replicate_succ,List.flatten_cons,Array.toList_append,List.append_assoc]
noncomputable def timesS (z:Str) (n:Nat):Str:=⟨(List.replicate n z.cps.toList).flatten.toArray⟩
theorem timesS_len (z:Str) (n:Nat):(timesS z n).length=n * z.length:=by
  unfold timesS Str.length
  simp [List.length_flatten]
inductive J_op_mul_str (x:V) (y:V) (H:Hp) (Q:VK):Prop
  | mk:∀ z n,(x = .str z)→(y = .int n)→(1≤n)→(n≤1000)→(z.length≤1000)→(Q (.str (timesS z n.toNat)) H)→J_op_mul_str x y H Q
theorem op_mul_str:OpR X (binaryOp .Mult) (fun x y H Q=>J_op_mul_str x y H Q):=by
  intro pins s σ H x y v u Q I rx ry h
  obtain ⟨z,n,rfl,rfl,h1,h2,h3,q⟩:=h
  obtain ⟨t,rfl⟩:=rx
  obtain ⟨t',rfl⟩:=ry
  have e0:(⟨(List.replicate n.toNat z.cps).foldl (· ++ ·) #[]⟩:Str)=timesS z n.toNat:=by
    unfold timesS
    congr 1
    apply Array.toList_inj.mp
    rw [foldl_cps]
    simp
  have hlen:(timesS z n.toNat).length≤sizeLine:=by
    rw [timesS_len]
    have:n.toNat≤1000:=by omega
    have:=Nat.mul_le_mul this h3
    exact Nat.le_trans this (by decide)
  have e1:(n == 1 || z.length == 0)=true→timesS z n.toNat=z:=fun hc=>by
    unfold timesS
    rcases Bool.or_eq_true_iff.mp hc with hc | hc
    · have:n=1:=by simpa using hc
      subst this
      simp
    · have hz:z.length=0:=by simpa using hc
      have hz':z.cps = #[]:=Array.eq_empty_of_size_eq_zero hz
      cases z with
      | mk c =>
        simp only at hz'
        subst hz'
        simp
  refine PySem.P.mul_str (by
      have h1':¬ n < -(2 ^ 63:Int):=by omega
      have h2':¬ n ≥ 2 ^ 63:=by omega
      rw [decide_eq_false h1',decide_eq_false h2'];rfl) (fun _ _ => ?_) (fun _ _ => ?_) ?_
  · have e:((2:Int) ^ 63 - 1)=9223372036854775807:=by decide
    rw [e]
    have h4:(1000:Int)≤(9223372036854775807:Int) / n:=by
      refine (Int.le_ediv_iff_mul_le (by omega)).mpr ?_
      omega
    omega
  · unfold Builtin.Str.tooLong
    rw [timesS_len] at hlen
    exact decide_eq_false (by rw [Nat.mul_comm];omega)
  · rw [if_neg (by omega)]
    by_cases hc:(n == 1 || z.length == 0)=true
    · rw [if_pos hc]
      exact ⟨.str z,H,I,⟨_,rfl⟩,by rw [e1 hc] at q;exact q⟩
    · rw [if_neg hc]
      exact ⟨by rw [e0];exact hlen,⟨.str _,H,I.tok _,⟨_,rfl⟩,by rw [e0];exact q⟩⟩
inductive J_rSlS (x:V) (lo:Option Int) (hi:Option Int) (H:Hp) (Q:VK):Prop
  | mk:∀ z,(x = .str z)→(z.length≤sizeLine)→(Q (.str (Txt.slice z lo hi)) H)→J_rSlS x lo hi H Q
noncomputable def rSlS:V→Option Int→Option Int→Hp→VK→Prop:=fun x lo hi H Q=>J_rSlS x lo hi H Q
theorem sl_str:SlR X rSlS:=by
  intro pins s σ H x v vl vu lo hi sl Q I rx hs pl pu h
  obtain ⟨z,rfl,hz,q⟩:=h
  obtain ⟨t,rfl⟩:=rx
  refine ⟨"str",_,F.slot_str_getitem.lookup,typeIs_str _ _ _,?_⟩
  obtain ⟨o,ho,hc,hd⟩:=hs
  have fin:∀ t' k,EP X pins σ Q (.str (Txt.slice z lo hi) t') { s with toks:=k }:=fun t' k=>⟨.str _,H,I.tok _,⟨_,rfl⟩,q⟩
  cases pl with
  | none =>
    cases pu with
    | none=>exact wpAny_getItem_str_slice (l:=none) (u:=none) (st:=none) ⟨o,ho,hc,hd⟩ rfl (post_val_or_str ⟨Nat.le_trans (Txt.slice_le z _ _) hz,fin⟩)
    | int j uj=>exact wpAny_getItem_str_slice (l:=none) (u:=some (j,uj)) (st:=none) ⟨o,ho,hc,hd⟩ rfl (post_val_or_str ⟨Nat.le_trans (Txt.slice_le z _ _) hz,fin⟩)
  | int i ui =>
    cases pu with
    | none=>exact wpAny_getItem_str_slice (l:=some (i,ui)) (u:=none) (st:=none) ⟨o,ho,hc,hd⟩ rfl (post_val_or_str ⟨Nat.le_trans (Txt.slice_le z _ _) hz,fin⟩)
    | int j uj=>exact wpAny_getItem_str_slice (l:=some (i,ui)) (u:=some (j,uj)) (st:=none) ⟨o,ho,hc,hd⟩ rfl (post_val_or_str ⟨Nat.le_trans (Txt.slice_le z _ _) hz,fin⟩)
inductive J_call_isT (kK:PySem.W.Frag) (xs:List V) (H:Hp) (Q:VK):Prop
  | mk:∀ x T t b,(xs = [x,.ty T])→(TyOf kK H x t)→(PySem.W.kitOne kK t (.type T)=some b)→(Q (.bl b) H)→J_call_isT kK xs H Q
theorem call_isT:CallR X (.builtin "isinstance") (fun xs H Q=>J_call_isT X.K xs H Q):=by
  intro pins s σ H xs us Q I r h
  obtain ⟨x,T,t,b,rfl,ty,e,q⟩:=h
  obtain ⟨u,w',rfl,rx,ry⟩:=vals2 r
  cases ry
  exact isinst_ok I rx ty e fun tk=>⟨.bl b,H,I.tok _,rfl,q⟩
end
end L2
namespace L2
open PySem PySem.Spec PyProof.Rows

noncomputable def capsOf (cells:List (Str × Addr)):List (Str × NameKind)→List (Str × Addr)→List (Str × Addr)
  | [],acc=>acc
  | (n,k) :: r,acc=>if k == .free then (match cells.lookup n with | some c=>capsOf cells r ((n,c) :: acc) | none=>capsOf cells r acc) else capsOf cells r acc
theorem capsOf_cells {cells:List (Str × Addr)}:∀ {names:List (Str × NameKind)} {acc:List (Str × Addr)} {x:Str} {c:Addr},(∀ x c,acc.lookup x=some c→cells.lookup x=some c)→(capsOf cells names acc).lookup x=some c→cells.lookup x=some c
  | [],_,x,c,ha,h=>ha x c h
  | (n,k) :: r,acc,x,c,ha,h=>by
    unfold capsOf at h
    by_cases hk:(k == NameKind.free)=true
    · rw [if_pos hk] at h
      cases e:cells.lookup n with
      | none =>
        rw [e] at h
        exact capsOf_cells ha h
      | some d =>
        rw [e] at h
        refine capsOf_cells (fun y z hy => ?_) h
        rw [List.lookup_cons] at hy
        cases q:y == n with
        | true =>
          rw [q] at hy
          have:y=n:=by simpa using q
          rw [this,e];exact hy
        | false =>
          rw [q] at hy
          exact ha y z hy
    · rw [if_neg hk] at h
      exact capsOf_cells ha h
theorem capsOf_acc {cells:List (Str × Addr)}:∀ {names:List (Str × NameKind)} {acc:List (Str × Addr)} {x:Str},(acc.lookup x).isSome=true→((capsOf cells names acc).lookup x).isSome=true
  | [],_,_,h=>h
  | (n,k) :: r,acc,x,h=>by
    unfold capsOf
    by_cases hk:(k == NameKind.free)=true
    · rw [if_pos hk]
      cases e:cells.lookup n with
      | none=>exact capsOf_acc h
      | some d =>
        refine capsOf_acc ?_
        rw [List.lookup_cons]
        cases q:x == n with
        | true=>rfl
        | false=>exact h
    · rw [if_neg hk];exact capsOf_acc h
theorem capsOf_has {cells:List (Str × Addr)}:∀ {names:List (Str × NameKind)} {acc:List (Str × Addr)} {x:Str},(x,NameKind.free)∈names→(cells.lookup x).isSome=true→((capsOf cells names acc).lookup x).isSome=true
  | [],_,_,h,_=>nomatch h
  | (n,k) :: r,acc,x,h,hc=>by
    unfold capsOf
    rcases List.mem_cons.mp h with e | h
    · cases e
      rw [if_pos (show (NameKind.free == NameKind.free)=true from rfl)]
      cases e:cells.lookup n with
      | none=>rw [e] at hc;cases hc
      | some d =>
        refine capsOf_acc ?_
        rw [List.lookup_cons]
        simp
    · by_cases hk:(k == NameKind.free)=true
      · rw [if_pos hk]
        cases e:cells.lookup n with
        | none=>exact capsOf_has h hc
        | some d=>exact capsOf_has h hc
      · rw [if_neg hk];exact capsOf_has h hc
theorem caps_cells {cells:List (Str × Addr)} {names:List (Str × NameKind)} {x:Str} {c:Addr} (h:(capsOf cells names []).lookup x=some c):cells.lookup x=some c :=
  capsOf_cells (fun _ _ z=>by simp at z) h
theorem forIn_caps {env:Env}:∀ (names:List (Str × NameKind)) (acc:List (Str × Addr)),(∀ y∈names,y.2 = .free→∃ c,env.cells.lookup y.1=some c) →
    (forIn names acc fun x r=>match x with
      | (name,kind)=>if (kind == NameKind.free)=true then (do let c ← cellOf env name;pure (ForInStep.yield ((name,c) :: r))) else pure (ForInStep.yield r):Sem (List (Str × Addr)))=pure (capsOf env.cells names acc)
  | [],acc,_=>rfl
  | (n,k) :: r,acc,h=>by
    have hr:∀ y∈r,y.2 = .free→∃ c,env.cells.lookup y.1=some c:=fun y hy=>h y (List.mem_cons_of_mem _ hy)
    rw [List.forIn_cons]
    by_cases hk:(k == NameKind.free)=true
    · have ek:k = .free:=by simpa using hk
      obtain ⟨c,hc⟩:=h (n,k) List.mem_cons_self ek
      have e1:cellOf env n=pure c:=by
        have hc':env.cells.lookup n=some c:=hc
        unfold cellOf
        rw [hc']
      unfold capsOf
      rw [if_pos hk]
      have hc':env.cells.lookup n=some c:=hc
      rw [hc']
      simp only [hk,if_true,e1]
      exact forIn_caps r ((n,c) :: acc) hr
    · unfold capsOf
      rw [if_neg hk]
      simp only [hk]
      exact forIn_caps r acc hr
theorem closure_caps {scope:Scope} {env:Env} (h:∀ y∈scope.names,y.2 = .free→∃ c,env.cells.lookup y.1=some c):closureFor scope env=pure (capsOf env.cells scope.names []):=by
  have e:=forIn_caps scope.names [] h
  unfold closureFor
  show (Bind.bind (forIn scope.names [] fun x r=>match x with
      | (name,kind)=>if (kind == NameKind.free)=true then (do let c ← cellOf env name;pure (ForInStep.yield ((name,c) :: r))) else pure (ForInStep.yield r):Sem (List (Str × Addr))) fun r=>pure r)=_
  rw [e]
  rfl

theorem relabel_free {scope:Scope} {env:Env} {x:Str} (hc:∀ y∈scope.names,y.2 ≠ .cell) (h:(relabel scope env).names.lookup x=some .cell∨(relabel scope env).names.lookup x=some .free):(x,NameKind.free)∈scope.names:=by
  unfold relabel at h
  simp only at h
  generalize scope.names=names at h hc
  induction names with
  | nil=>rcases h with h | h <;> cases h
  | cons y r ih =>
    obtain ⟨n,k⟩:=y
    have hr:∀ y∈r,y.2≠NameKind.cell:=fun y hy=>hc y (List.mem_cons_of_mem _ hy)
    rw [List.map_cons] at h
    by_cases hk:(k == NameKind.free && env.scope.kind == .function && env.kindOf n == some .cell)=true
    · simp only [hk,if_true,List.lookup_cons] at h
      cases q:x == n with
      | true =>
        have e:x=n:=by simpa using q
        have ek:k = .free:=by
          have:=(Bool.and_eq_true_iff.mp (Bool.and_eq_true_iff.mp hk).1).1
          simpa using this
        rw [e,ek];exact List.mem_cons_self
      | false =>
        rw [q] at h
        exact List.mem_cons_of_mem _ (ih h hr)
    · simp only [hk,Bool.false_eq_true,if_false,List.lookup_cons] at h
      cases q:x == n with
      | true =>
        rw [q] at h
        have e:x=n:=by simpa using q
        have hk0:k ≠ .cell:=hc (n,k) List.mem_cons_self
        rcases h with h | h
        · exact absurd (Option.some.inj h) hk0
        · rw [e,Option.some.inj h];exact List.mem_cons_self
      | false =>
        rw [q] at h
        exact List.mem_cons_of_mem _ (ih h hr)

theorem relabel_of_free {scope:Scope} {env:Env} {x:Str} (h:scope.names.lookup x=some .free):(relabel scope env).names.lookup x=some .cell∨(relabel scope env).names.lookup x=some .free:=by
  unfold relabel
  simp only
  generalize scope.names=names at h
  induction names with
  | nil=>cases h
  | cons y r ih =>
    obtain ⟨n,k⟩:=y
    rw [List.map_cons]
    rw [List.lookup_cons] at h
    by_cases hk:(k == NameKind.free && env.scope.kind == .function && env.kindOf n == some .cell)=true
    · simp only [hk,if_true,List.lookup_cons]
      cases q:x == n with
      | true=>exact .inl rfl
      | false=>rw [q] at h;exact ih h
    · simp only [hk,Bool.false_eq_true,if_false,List.lookup_cons]
      cases q:x == n with
      | true=>rw [q] at h;exact .inr h
      | false=>rw [q] at h;exact ih h

noncomputable def cxComp (X:Cx) (scope:Scope) (N:List Str) (fp:List Addr) (s:Shared) (H:Hp):Cx :=
  { X with N:=N,s₀ := s,H₀ := H,env:=compEnvC scope (capsOf X.env.cells scope.names []) s.heap.objs.size X.env,outer:=X.stack,ex:=fp,fn:=fun _=>false,pn := [],xe:=fun _ _=>False }

structure CompScope (X:Cx) (scope:Scope) (own:List Str) (caps:List (Str × Nat)):Prop where
  kind:scope.kind = .function
  nocell:∀ y∈scope.names,y.2 ≠ .cell
  locs:∀ y∈scope.names,y.2 = .local→scope.names.lookup y.1=some .local
  frees:∀ y∈scope.names,y.2 = .free→X.env.kindOf y.1=some .cell
  own:∀ x∈own,scope.names.lookup x=some .local
  caps:∀ p∈caps,X.N[p.2]? = some p.1∧X.env.kindOf p.1=some .cell∧scope.names.lookup p.1=some .free

noncomputable def capt (σ : St) (caps:List (Str × Nat)):St:=caps.map fun p=>(σ[p.2]?).join
section
variable {X:Cx} {scope:Scope} {own:List Str} {caps:List (Str × Nat)} {pins:List (Addr × Obj)} {σ : St} {H:Hp} {s:Shared} {fp:List Addr}
theorem comp_ok (S:CompScope X scope own caps) (I:Inv X pins σ H s) (hf:∀ b∈fp,FpOk X pins H b) (hl:∀ b∈fp,b < s.heap.objs.size):(cxComp X scope (own ++ caps.map (·.1)) fp s H).Ok where
  mod:=I.ok.mod
  kind:=S.kind
  glob:=I.ok.glob
  blt:=I.ok.blt
  above:=Nat.le_refl _
  inj:=fun x y c h1 h2=>I.ok.inj x y c (caps_cells h1) (caps_cells h2)
  has:=fun x h=>by
    have hm:=relabel_free S.nocell h
    obtain ⟨c,hc⟩:=I.ok.has x (.inl (S.frees _ hm rfl))
    exact Option.isSome_iff_exists.mp (capsOf_has hm (by rw [hc];rfl))
  cab:=fun x c h _=>nomatch h
  hd:=I.ok.hd
  frames:=I.ok.frames
  stk := .inl rfl
  exf:=fun b hb=>⟨Nat.ne_of_lt (hl b hb),fun x c h=>(hf b hb).2.2.2.2.1 x c (caps_cells h)⟩
  bs:=I.bs
  bsz:=Nat.le_trans I.ok.bsz I.sz
  noex:=fun b o e hb=>by
    rcases (hf b hb).2.2.2.1 with z | z
    · exact I.ok.noex b o e z
    · exact absurd (Nat.lt_of_lt_of_le (Nat.lt_of_lt_of_le (Heap.lt_size e) I.ok.bsz) z) (Nat.lt_irrefl _)
  exfs:=fun b hb z=>by
    rcases List.mem_cons.mp (I.stkSub b z) with e | e
    · exact (hf b hb).2.1 e
    · exact (hf b hb).2.2.1 e
  funs:=I.stack
  frf:=I.stkFree
theorem comp_start (S:CompScope X scope own caps) (I:Inv X pins σ H s) (hf:∀ b∈fp,FpOk X pins H b) (hl:∀ b∈fp,b < s.heap.objs.size) {h1:Heap} {m:Str→Option Value} {t:Nat} (hn:h1.Ns s.heap.objs.size m)
    (hk:∀ b o,s.heap.get? b=some o→h1.get? b=some o):Inv (cxComp X scope (own ++ caps.map (·.1)) fp s H) [] (List.replicate own.length none ++ capt σ caps) H { s with heap:=h1,toks:=t }:=by
  refine ⟨comp_ok S I hf hl,rfl,I.bare,Un.kept hk,⟨m,hn,fun i y v e1 e2 e3 => ?_⟩,fun x c e => ?_,I.hok.fresh (Nat.le_refl _),fun x c e=>I.freeC x c (caps_cells e),(fun p hp=>by cases hp),I.hok.kept hk,?_⟩
  · have hi:own.length≤i:=by
      by_cases hi:i < own.length
      · rw [List.getElem?_append_left (by simpa using hi),List.getElem?_replicate,if_pos hi] at e2
        cases e2
      · omega
    rw [List.getElem?_append_right (by simpa using hi),List.length_replicate] at e2
    unfold capt at e2
    rw [List.getElem?_map] at e2
    have e1':(own ++ caps.map (·.1))[i]? = some y:=e1
    rw [List.getElem?_append_right hi,List.getElem?_map] at e1'
    cases q:caps[i - own.length]? with
    | none=>rw [q] at e2;cases e2
    | some p =>
      rw [q] at e1' e2
      have ey:p.1=y:=Option.some.inj e1'
      have ev:(σ[p.2]?).join=some v:=Option.some.inj e2
      have eσ : σ[p.2]? = some (some v):=by
        cases z : σ[p.2]? with
        | none=>rw [z] at ev;cases ev
        | some w'=>rw [z] at ev;rw [show w'=some v from ev]
      obtain ⟨hN,hkind,hfree⟩:=S.caps p (List.mem_of_getElem? q)
      rw [ey] at hN hkind hfree
      obtain ⟨mX,hnX,hlX⟩:=I.loc
      obtain ⟨u,ru,lk⟩:=hlX p.2 y v hN eσ (.inr (.inl hkind))
      refine ⟨u,ru,?_⟩
      rcases lk with ⟨k1,_⟩ | ⟨_,c,hc,hcell⟩
      · rw [hkind] at k1;cases k1
      · have hm:=relabel_free S.nocell (relabel_of_free (env:=X.env) hfree)
        obtain ⟨c',hc'⟩:=Option.isSome_iff_exists.mp (capsOf_has (acc := []) hm (by rw [hc];rfl))
        have:=caps_cells hc'
        rw [hc] at this;cases this
        obtain ⟨o,ho,hd⟩:=hcell
        exact .inr ⟨relabel_of_free (env:=X.env) hfree,c,hc',⟨o,hk _ _ ho,hd⟩⟩
  · obtain ⟨v,o,ho,hd⟩:=I.cell x c (caps_cells e)
    exact ⟨v,o,hk _ _ ho,hd⟩
  · show _=(own ++ caps.map (·.1)).length
    simp [capt]
theorem comp_back {N:List Str} {τ : St} {H':Hp} {s':Shared} (I:Inv X pins σ H s) (J:Inv (cxComp X scope N fp s H) [] τ H' s') (hf:∀ b∈fp,FpOk X pins H b):Inv X pins σ H' s' :=
  I.call' (ch:=fp) J.os J.base J.hok J.bare fun b hb=>by
    obtain ⟨_,f1,_,f3,f4,f5⟩:=hf b hb
    exact ⟨f3,f1,f4,f5⟩


end
end L2
namespace L2
open PySem PySem.Spec PyProof.Rows

structure Has (P:Program) (w:World) (K:PySem.W.Frag) (mg:Str→Option Value) (base:Heap) (k:Nat) (x:Str) (ps:List Str) (sp:Sp):Prop where
  ex:∃ f fd,FnOk P w K mg base CX0 k f fd ps sp∧mg x=some (.ref f)∧PySem.W.keepIn K (.ref f)=true∧Binds K fd ps []
section
variable {X:Cx} {k k':Nat} {x:Str} {ps:List Str} {sp:Sp} {p pos:Pos} {e:Expr} {es:List Expr} {t:TA}
theorem pe_callH (h:Has X.prog X.w X.K X.mg X.base k x ps sp) (hr:Room k' X.A) (hk:k≤k') (hg:Gl X x) (ha:PA X (e :: es) t) (hdb:(x == ("__debug__" : Str))=false:=by decide)
    (he:starEach (e :: es) X.env=(false,eval e X.env) :: starEach es X.env:=by rfl) (hpl:(backTo pos (starEach es X.env)).any (·.1)=false:=by rfl) :
    PE X (.Call (.Name x p) (e :: es) [] pos) (tCall sp [] E0 t):=by
  obtain ⟨f,fd,F,hm,hkp,hb⟩:=h.ex
  exact pe_call F (hr.mono hk) hg hm hkp hb .nil pass0 ha hdb he hpl
end
structure Def (K:PySem.W.Frag) (mg:Str→Option Value) (x:Str) (st:Stmt) (ps:List Str):Prop where
  ex:∃ f fd,Fun K x x st f fd∧mg x=some (.ref f)∧Binds K fd ps []
theorem Def.has {P:Program} {w:World} {K:PySem.W.Frag} {mg:Str→Option Value} {base:Heap} {x:Str} {st:Stmt} {N ps:List Str} {k:Nat} {sp:Sp} (D:Def K mg x st ps) (S:FnScope N ps (defScope st)) (len:∀ vs H Q E,sp vs H Q E→vs.length=ps.length)
    (hbody:∀ (f:Addr) (cdv:Value) (A:Around) (outer:List Env) (s:Shared) (H:Hp) (vs:List V) (Q:VK) (E:XK),Room k (A.deeper (envOfC x (defScope st) s.heap.objs.size f cdv))→sp vs H Q E →
      ∃ t,PSs (cxOf CX0 P w K mg base N x (defScope st) f cdv A outer s H E).nox (defBody st) t∧t { nx:=fun _ H'=>Q .non H',rt:=Q } (start N vs) H):Has P w K mg base (k+1) x ps sp:=by
  obtain ⟨f,fd,F,hm,hb⟩:=D.ex
  exact ⟨f,fd,F.ok S len (hbody f),hm,F.kp,hb⟩

theorem same_new {H:Hp} {p:Addr} (h:H p=none) (o:HO):Same H (upd H p o):=fun b u q=>by rw [upd_ne (ne_of_none q h)];exact q
theorem Same.put {H0 H:Hp} {p:Addr} {o:HO} (e:Same H0 H) (h:H0 p=none):Same H0 (upd H p o):=fun b u q=>by rw [upd_ne (ne_of_none q h)];exact e b u q

noncomputable def checkComp (xsc:Scope) (xN:List Str) (scope:Scope) (own:List Str) (caps:List (Str × Nat)):Bool :=
  scope.names.all (fun y=>y.2 != .cell) && scope.names.all (fun y=>y.2 != .local || scope.names.lookup y.1 == some .local) && scope.names.all (fun y=>y.2 != .free || xsc.names.lookup y.1 == some .cell)
    && own.all (fun x=>scope.names.lookup x == some .local) && caps.all (fun p=>xN[p.2]? == some p.1 && xsc.names.lookup p.1 == some .cell && scope.names.lookup p.1 == some .free)
theorem comp_scope {X:Cx} {scope:Scope} {own:List Str} {caps:List (Str × Nat)} (xsc:Scope) (xN:List Str) (hx:X.env.scope=xsc) (hN:X.N=xN) (hk:scope.kind = .function) (c:checkComp xsc xN scope own caps=true):CompScope X scope own caps:=by
  unfold checkComp at c
  simp only [Bool.and_eq_true,List.all_eq_true,Bool.or_eq_true,bne_iff_ne,beq_iff_eq,ne_eq] at c
  obtain ⟨⟨⟨⟨c1,c2⟩,c3⟩,c4⟩,c5⟩:=c
  refine ⟨hk,c1,fun y hy e => ?_,fun y hy e => ?_,c4,fun p hp => ?_⟩
  · rcases c2 y hy with z | z
    · exact absurd e z
    · exact z
  · rcases c3 y hy with z | z
    · exact absurd e z
    · show X.env.scope.names.lookup y.1=_
      rw [hx];exact z
  · obtain ⟨⟨z1,z2⟩,z3⟩:=c5 p hp
    refine ⟨by rw [hN];exact z1,?_,z3⟩
    show X.env.scope.names.lookup p.1=_
    rw [hx];exact z2
structure Blt (mg:Str→Option Value):Prop where
  len_:mg "len" = none
  min_:mg "min" = none
  max_:mg "max" = none
  sum_:mg "sum" = none
  range_:mg "range" = none
  enumerate_:mg "enumerate" = none
  isinstance_:mg "isinstance" = none
  tuple_:mg "tuple" = none
  int_:mg "int" = none
  bool_:mg "bool" = none
  str_:mg "str" = none
  list_:mg "list" = none
theorem boot_max_:bootBuiltins "max" = some (.builtin "max"):=by decide +kernel
theorem boot_isinstance_:bootBuiltins "isinstance" = some (.builtin "isinstance"):=by decide +kernel
theorem boot_tuple_:bootBuiltins "tuple" = some (.type "tuple"):=by decide +kernel
theorem boot_int_:bootBuiltins "int" = some (.type "int"):=by decide +kernel
theorem boot_bool_:bootBuiltins "bool" = some (.type "bool"):=by decide +kernel
theorem boot_str_:bootBuiltins "str" = some (.type "str"):=by decide +kernel
theorem boot_list_:bootBuiltins "list" = some (.type "list"):=by decide +kernel
theorem Paired.at {α β : Type} {F : α → β → Prop}:∀ {l₁ : List α} {l₂ : List β} {i:Nat} {a : α},Paired F l₁ l₂ → l₁[i]? = some a→∃ b,l₂[i]? = some b∧F a b
  | _,_,_,_,.nil,e=>by simp at e
  | _,_,0,_,.cons h _,e=>by simp at e;subst e;exact ⟨_,rfl,h⟩
  | _,_,i+1,a,.cons _ t,e=>by
    obtain ⟨b,h1,h2⟩:=Paired.at (i:=i) (a:=a) t (by simpa using e)
    exact ⟨b,by simpa using h1,h2⟩
theorem pos' {j:Int} (h:decide (0 < j)=true:=by decide):0 < j:=of_decide_eq_true h
theorem div' {i j:Int} (h:(decide (0 < j) && decide (j < 1073741824))=true:=by decide):CDiv i j :=
  ⟨of_decide_eq_true (Bool.and_eq_true_iff.mp h).1,of_decide_eq_true (Bool.and_eq_true_iff.mp h).2⟩
theorem iteD {c A B:Prop} [Decidable c] (h1:c→A) (h2:¬ c→B):if decide c=true then A else B:=by
  by_cases h:c
  · rw [decide_eq_true h];exact iteT (h1 h)
  · rw [decide_eq_false h];exact iteF (h2 h)
theorem iteDN {c A B:Prop} [Decidable c] (h1:¬ c→A) (h2:c→B):if (!decide c)=true then A else B:=by
  by_cases h:c
  · rw [decide_eq_true h];exact iteF (h2 h)
  · rw [decide_eq_false h];exact iteT (h1 h)
end L2
namespace L2
open PySem PySem.Spec PyProof.Rows

noncomputable def F2 (h:Heap) (e:Addr) (x:Value):Prop := ∃ o vs,h.get? e=some o∧o.data = .fields vs∧vs[2]? = some x
noncomputable def Ctx0 (h:Heap) (e:Addr):Prop:=F2 h e .none
theorem F2.other {h:Heap} {e b:Addr} {x:Value} {f:Obj→Obj} (c:F2 h e x) (n:b≠e):F2 (h.update b f) e x:=by
  obtain ⟨o,vs,a,d,i⟩:=c
  exact ⟨o,vs,(Heap.get?_update_other _ _ n).trans a,d,i⟩
section
variable {M:Model} {A:Around} {E:Value→Shared→Prop} {s:Shared}
inductive Entered (l:List Env) (e:Addr) (oe:Obj) (L:Addr) (h h':Heap):Prop
  | mk (T:Addr) (oT:Obj) (ts:Array Value) (old:∀ b o,b≠e→b ∉ l.filterMap (·.frame)→h.get? b=some o→h'.get? b=some o) (slots:∀ b o,b≠e→h.get? b=some o→∃ sl,h'.get? b=some { o with slots:=sl })
    (own:h'.get? e=some (oe.mapFields (·.setIfInBounds 1 (.ref T)))) (new:h.get? T=none) (ne:T≠e) (size:h.objs.size≤T) (there:h'.get? T=some oT) (data:oT.data = .fields ts) (fl:ts[3]? = some (rawInt L)):Entered l e oe L h h'
theorem entry_on {base:Heap} {env:Env} {outer:List Env} {L e:Addr} {oe:Obj} {vs:Array Value} {hd:Value} {nx:Bool} {Q:Unit→Shared→Prop}
    (af:A.frames=some (env :: outer)) (ff:s.heap.FunFrames base (env :: outer)) (fL:env.frame=some L) (ge:s.heap.get? e=some oe) (gd:oe.data = .fields vs) (gz:1 < vs.size)
    (k:∀ h',Entered (env :: outer) e oe L s.heap h'→Q () { s with heap:=h' }) :
    wpAny M A (do let a ← frameOf env;let pl ← entryPlaceOf L nx;let b ← EntryCells.newEntry hd a .none (rawInt L) .none pl;setField (.ref e) 1 b) Q E s:=by
  have hne:e ∉ (env :: outer).filterMap (·.frame):=fun m=>by
    obtain ⟨_,o,q,nf⟩:=ff.mem m
    rw [ge] at q
    cases q
    exact nf vs gd
  refine wpAny_bind (wpAny_frameOf_fun af ff fL fun h1 sl => ?_)
  refine wpAny_bind (wpAny_entryPlaceOf fun pl hp => ?_)
  unfold EntryCells.newEntry newFields
  refine wpAny_bind (wpAny_newObj_type ?_ (hp.sizeOk5 _ _ _ _ _))
  have g1:h1.get? e=some oe:=(sl.2.1 e hne).trans ge
  generalize hO:({ cls := .type "traceback",dict:=none,data := .fields ([hd,.ref L,.none,rawInt L,.none] ++ (if pl.isEmpty then List.replicate 6 Value.none else pl)).toArray }:Obj)=oT
  have g2:=Heap.get?_push_of_some (h:=h1) oT g1
  refine wpAny_setField g2 gd gz (k _ ?_)
  have nT:h1.objs.size≠e:=Nat.ne_of_gt (Heap.lt_size g1)
  have dd:=Obj.data_mapFields gd (·.setIfInBounds 1 (Value.ref h1.objs.size))
  have up:∀ b o,b≠e→h1.get? b=some o→((h1.push oT).update e (Obj.mapFields (·.setIfInBounds 1 (Value.ref h1.objs.size)))).get? b=some o:=fun b o n q=>by
    rw [Heap.get?_update_other _ _ (Ne.symm n)]
    exact Heap.get?_push_of_some _ q
  refine ⟨h1.objs.size,oT,_,fun b o n m q=>up b o n ((sl.2.1 b m).trans q),fun b o n q => ?_,Heap.get?_update_self _ g2 (Obj.isFreed_of_fields dd),Heap.get?_none_of_le (Nat.le_of_eq sl.1.symm),nT,Nat.le_of_eq sl.1.symm,?_,(by rw [← hO]),?_⟩
  · obtain ⟨x,q'⟩:=sl.2.2 b o q
    exact ⟨x,up b _ n q'⟩
  · rw [Heap.get?_update_other _ _ (Ne.symm nT)]
    exact Heap.get?_push_size h1 (by rw [← hO];rfl)
  · first
      | (simp;done)
      | (rcases hp with rfl | ⟨_,_,_,_,_,_,_,rfl⟩ <;> simp)
theorem Entered.noted {base:Heap} {l:List Env} {e L:Addr} {oe:Obj} {vs:Array Value} {a0:Value} {h h':Heap} (x:Entered l e oe L h h') (kb:base.StaysIn h) (be:base.get? e=none) (ff:h.FunFrames base l) (gd:oe.data = .fields vs) (gz:1 < vs.size) (g0:vs[0]? = some a0) (ge:h.get? e=some oe) :
    Heap.NotedW base l e oe.cls a0 (rawInt L) h h':=by
  obtain ⟨T,oT,ts,old,slots,own,new,ne,size,there,data,fl⟩:=x
  have nr:∀ b o,h.get? b=some o→(∀ ws,o.data ≠ .fields ws)→b≠e:=fun b o q nf z=>by
    rw [z,ge] at q
    cases q
    exact nf vs gd
  refine ⟨fun b o q=>old b o (fun z=>by rw [z,be] at q;cases q) (fun m=>by rw [(ff.mem m).1] at q;cases q) (kb b o q),ff.of_keeps fun b o q nf => ?_,?_,fun b o q nf=>slots b o (nr b o q nf) q⟩
  · obtain ⟨sl,q'⟩:=slots b o (nr b o q nf) q
    exact ⟨_,q',rfl⟩
  · refine ⟨_,_,T,oT,ts,own,⟨Obj.cls_mapFields _ _,?_⟩,Obj.data_mapFields gd _,by simp [gz],?_,ne,there,data,fl⟩
    · rw [Array.getElem?_setIfInBounds_ne (by decide)];exact g0
    · cases q:base.get? T with
      | none=>rfl
      | some o=>have:=kb _ _ q;rw [new] at this;cases this
theorem Entered.ctx {l:List Env} {e L:Addr} {oe:Obj} {vs:Array Value} {h h':Heap} {y:Value} (x:Entered l e oe L h h') (gd:oe.data = .fields vs) (ge:h.get? e=some oe) (c:F2 h e y):F2 h' e y:=by
  obtain ⟨T,oT,ts,old,slots,own,new,ne,size,there,data,fl⟩:=x
  obtain ⟨o,ws,q1,q2,q3⟩:=c
  rw [ge] at q1
  cases q1
  rw [gd] at q2
  cases q2
  exact ⟨_,_,own,Obj.data_mapFields gd _,by rw [Array.getElem?_setIfInBounds_ne (by decide)];exact q3⟩
theorem note_new {base:Heap} {env:Env} {outer:List Env} {L e:Addr} {oe:Obj} {vs:Array Value} {a0:Value} {Q:Unit→Shared→Prop} (af:A.frames=some (env :: outer)) (ff:s.heap.FunFrames base (env :: outer)) (fL:env.frame=some L)
    (ge:s.heap.get? e=some oe) (kb:base.StaysIn s.heap) (be:base.get? e=none) (gd:oe.data = .fields vs) (g1:vs[1]? = some .none) (g0:vs[0]? = some a0)
    (k:∀ h',Heap.HeldW base (env :: outer) e oe.cls a0 L h'→s.heap.UpToSlots h'→(∀ y,F2 s.heap e y→F2 h' e y)→Q () { s with heap:=h' }):wpAny M A (noteFrame (.ref e) env) Q E s:=by
  have gz:=(Array.getElem?_eq_some_iff.mp g1).1
  unfold noteFrame
  simp only [fL]
  refine wpAny_bind (wpAny_field ge gd g1 ?_)
  rw [if_neg (by decide)]
  refine entry_on af ff fL ge gd gz fun h' x => ?_
  obtain ⟨n1,n2,n3,n4⟩:=x.noted kb be ff gd gz g0 ge
  exact k h' ⟨n1,be,n2,n3⟩ n4 fun y c=>x.ctx gd ge c
theorem note_on {base:Heap} {env:Env} {outer:List Env} {L e:Addr} {cls a0:Value} {Q:Unit→Shared→Prop} (af:A.frames=some (env :: outer)) (fL:env.frame=some L) (fl:Heap.FlyingW base (env :: outer) e cls a0 s.heap)
    (k:∀ h',Heap.HeldW base (env :: outer) e cls a0 L h'→s.heap.UpToSlots h'→(∀ y,F2 s.heap e y→F2 h' e y)→Q () { s with heap:=h' }):wpAny M A (noteFrame (.ref e) env) Q E s:=by
  obtain ⟨kb,be,ff,oe,vs,Tr,oT,ts,ge,⟨gc,g0⟩,gd,g1,bT,nTe,gT,dT,g3⟩:=fl
  subst gc
  have gz:=(Array.getElem?_eq_some_iff.mp g1).1
  unfold noteFrame
  simp only [fL]
  refine wpAny_bind (wpAny_field ge gd g1 ?_)
  rw [if_pos (show (Value.ref Tr != Value.none)=true by simp)]
  refine wpAny_bind (wpAny_field gT dT g3 ?_)
  rw [if_neg (show ¬ ((Value.none == rawInt L)=true) by simp [rawInt])]
  refine wpAny_bind (wpAny_setField gT dT (Array.getElem?_eq_some_iff.mp g3).1 ?_)
  have ot:∀ b,b≠Tr→(s.heap.update Tr (Obj.mapFields (·.setIfInBounds 3 Value.none))).get? b=s.heap.get? b:=fun b n=>Heap.get?_update_other _ _ (Ne.symm n)
  have nr:∀ b o,s.heap.get? b=some o→(∀ ws,o.data ≠ .fields ws)→b≠Tr:=fun b o q nf z=>by
    rw [z,gT] at q
    cases q
    exact nf ts dT
  have ff1:=ff.of_keeps (h':=s.heap.update Tr (Obj.mapFields (·.setIfInBounds 3 Value.none))) fun b o q nf=>⟨o,(ot b (nr b o q nf)).trans q,rfl⟩
  have kb1:base.StaysIn (s.heap.update Tr (Obj.mapFields (·.setIfInBounds 3 Value.none))):=fun b o q=>(ot b fun z=>by rw [z,bT] at q;cases q).trans (kb b o q)
  have ge1:=(ot e (Ne.symm nTe)).trans ge
  refine entry_on (s := { s with heap:=_ }) af ff1 fL ge1 gd gz fun h' x => ?_
  obtain ⟨n1,n2,n3,n4⟩:=x.noted kb1 be ff1 gd gz g0 ge1
  exact k h' ⟨n1,be,n2,n3⟩ (fun b o q nf=>n4 b o ((ot b (nr b o q nf)).trans q) nf) fun y c=>x.ctx gd ge1 (c.other nTe)
theorem flight_off {base:Heap} {l:List Env} {e:Addr} {cls a0 m:Value} {Q:Unit→Shared→Prop} (kb:base.StaysIn s.heap) (be:base.get? e=none) (ff:s.heap.FunFrames base l) (tr:s.heap.TracedAtW base e cls a0 m)
    (k:∀ h',Heap.FlyingW base l e cls a0 h'→s.heap.UpToSlots h'→(∀ y,F2 s.heap e y→F2 h' e y)→Q () { s with heap:=h' }):wpAny M A (setFlight (.ref e) none) Q E s:=by
  obtain ⟨oe,vs,Tr,oT,ts,ge,gc,gd,g1,bT,nTe,gT,dT,g3⟩:=tr
  have z3:=(Array.getElem?_eq_some_iff.mp g3).1
  have ot:∀ b,b≠Tr→(s.heap.update Tr (Obj.mapFields (·.setIfInBounds 3 ((none:Option Addr).elim Value.none fun f=>rawInt f)))).get? b=s.heap.get? b:=fun b n=>Heap.get?_update_other _ _ (Ne.symm n)
  have nr:∀ b o,s.heap.get? b=some o→(∀ ws,o.data ≠ .fields ws)→b≠Tr:=fun b o q nf z=>by
    rw [z,gT] at q
    cases q
    exact nf ts dT
  unfold setFlight
  refine wpAny_bind (wpAny_field ge gd g1 ?_)
  rw [if_pos (show (Value.ref Tr != Value.none)=true by simp)]
  refine wpAny_setField gT dT z3 (k _ ⟨fun b o q=>(ot b fun z=>by rw [z,bT] at q;cases q).trans (kb b o q),be,ff.of_keeps fun b o q nf=>⟨o,(ot b (nr b o q nf)).trans q,rfl⟩,?_⟩ (fun b o q nf=>⟨o.slots,(ot b (nr b o q nf)).trans q⟩) fun y c=>c.other nTe)
  exact ⟨oe,vs,Tr,_,_,(ot e (Ne.symm nTe)).trans ge,gc,gd,g1,bT,nTe,Heap.get?_update_self _ gT (Obj.isFreed_of_fields (Obj.data_mapFields dT _)),Obj.data_mapFields dT _,by simp [z3]⟩
theorem leave_on {base:Heap} {env:Env} {outer:List Env} {L e:Addr} {cls a0:Value} {Q:Unit→Shared→Prop} (af:A.frames=some (env :: outer)) (fL:env.frame=some L) (fl:Heap.FlyingW base (env :: outer) e cls a0 s.heap)
    (k:∀ h',Heap.FlyingW base outer e cls a0 h'→s.heap.UpToSlots h'→(∀ y,F2 s.heap e y→F2 h' e y)→Q () { s with heap:=h' }):wpAny M A (leaving env (.ref e)) Q E s:=by
  unfold leaving
  refine wpAny_bind (note_on af fL fl fun h1 hh sl c1 => ?_)
  obtain ⟨n1,n2,n3,n4⟩:=hh
  refine flight_off (s := { s with heap:=h1 }) n1 n2 n3 n4 fun h2 f2 sl2 c2 => ?_
  obtain ⟨m1,m2,⟨_,_,m3⟩,m4⟩:=f2
  exact k h2 ⟨m1,m2,m3,m4⟩ (sl.trans sl2) fun y c=>c2 y (c1 y c)
theorem leave_new {base:Heap} {env:Env} {outer:List Env} {L e:Addr} {oe:Obj} {vs:Array Value} {a0:Value} {Q:Unit→Shared→Prop} (af:A.frames=some (env :: outer)) (ff:s.heap.FunFrames base (env :: outer)) (fL:env.frame=some L)
    (ge:s.heap.get? e=some oe) (kb:base.StaysIn s.heap) (be:base.get? e=none) (gd:oe.data = .fields vs) (g1:vs[1]? = some .none) (g0:vs[0]? = some a0)
    (k:∀ h',Heap.FlyingW base outer e oe.cls a0 h'→s.heap.UpToSlots h'→(∀ y,F2 s.heap e y→F2 h' e y)→Q () { s with heap:=h' }):wpAny M A (leaving env (.ref e)) Q E s:=by
  unfold leaving
  refine wpAny_bind (note_new af ff fL ge kb be gd g1 g0 fun h1 hh sl c1 => ?_)
  obtain ⟨n1,n2,n3,n4⟩:=hh
  refine flight_off (s := { s with heap:=h1 }) n1 n2 n3 n4 fun h2 f2 sl2 c2 => ?_
  obtain ⟨m1,m2,⟨_,_,m3⟩,m4⟩:=f2
  exact k h2 ⟨m1,m2,m3,m4⟩ (sl.trans sl2) fun y c=>c2 y (c1 y c)
end
end L2
namespace L2
open PySem PySem.Spec PyProof.Rows

section
variable {P:Program} {w:World} {H H':Hp} {h h':Heap} {a:Addr} {o:HO}
theorem ObjOk.there (x:ObjOk P w H h a o):∃ ob,h.get? a=some ob:=by
  cases o with
  | lst xs=>obtain ⟨_,_,_,_,e⟩:=x;exact ⟨_,e⟩
  | tup xs=>obtain ⟨_,_,_,_,e,_⟩:=x;exact ⟨_,e⟩
  | dK kvs=>obtain ⟨_,_,_,_,o,_,_,e,_⟩:=x;exact ⟨_,e⟩
  | dT kvs=>obtain ⟨_,_,_,_,o,_,_,e,_⟩:=x;exact ⟨_,e⟩
  | set S n=>obtain ⟨o,_,_,_,e,_⟩:=x;exact ⟨_,e⟩
  | ins C dx fs=>obtain ⟨_,_,_,e,_⟩:=x;exact ⟨_,e⟩
  | own y=>exact x
  | xd fs=>obtain ⟨_,⟨_,_,_,e,_⟩,_⟩:=x;exact ⟨_,e⟩
  | rng lo hi=>obtain ⟨_,_,_,e⟩:=x;exact ⟨_,e⟩
  | frz ob u=>obtain ⟨e,_⟩:=x;exact ⟨_,e⟩
  | tbl ps=>exact ⟨_,(show h.get? a=some _ from x)⟩
  | met f y=>exact ⟨_,(show h.get? a=some _ from x)⟩
  | ext φ => obtain ⟨_,e,_⟩:=x;exact e
theorem HOk.notThere (x:HOk P w H h) (e:h.get? a=none):H a=none:=by
  cases q:H a with
  | none=>rfl
  | some u=>obtain ⟨ob,z⟩:=(x a u q).there;rw [e] at z;cases z
theorem HOk.part (x:HOk P w H h) (k:∀ b u v,H b=some u→h.get? b=some v→h'.get? b=some v):HOk P w H h':=fun a o e =>
  (x a o e).stay (fun b u hb q=>by
    rcases hb with z | z
    · subst z;exact k _ _ _ e q
    · exact k _ _ _ z q) (fun _ q=>q) fun _ _ q=>q
end
theorem Un.fly {fs:List Addr} {L:Addr} {H₀ H H':Hp} {h0 h h1 h2 B:Heap} (U1:Un fs [] H₀ H h0 h) (U2:Un (L :: fs) [] H H' h h1) (hL:h0.get? L=none)
    (cov:∀ b o,h.get? b=some o→b ∉ L :: fs→∃ o',B.get? b=some o') (k1:∀ b o,B.get? b=some o→h1.get? b=some o) (k2:∀ b o,B.get? b=some o→h2.get? b=some o)
    (sl:h1.UpToSlots h2) (nf:∀ b∈fs,∃ o,h1.get? b=some o∧∀ vs,o.data ≠ .fields vs):Un fs [] H₀ H' h0 h2:=by
  have nL:∀ b o,h0.get? b=some o→b ∉ fs→b ∉ L :: fs:=fun b o q hb z=>by
    rcases List.mem_cons.mp z with z | z
    · rw [z,hL] at q;cases q
    · exact hb z
  refine ⟨fun b o q n hb hx => ?_,fun b o q n hb hx => ?_,fun b o q n hx => ?_,fun b o q hx => ?_,fun b xs q=>U2.tups _ _ (U1.tups _ _ q),fun b o u q=>U2.frzs _ _ _ (U1.frzs _ _ _ q),fun b ps q => ?_⟩
  · have q1:=U1.keep b o q n hb hx
    have q2:=U2.keep b o q1 (U1.free b o q n hx) (nL b o q hb) hx
    obtain ⟨o',e⟩:=cov b o q1 (nL b o q hb)
    have e1:=k1 _ _ e
    rw [q2] at e1
    cases e1
    exact k2 _ _ e
  · obtain ⟨s1,q1⟩:=U1.slot b o q n hb hx
    obtain ⟨s2,q2⟩:=U2.slot b _ q1 (U1.free b o q n hx) (List.mem_cons_of_mem _ hb) hx
    obtain ⟨ob,q3,d⟩:=nf b hb
    rw [q2] at q3
    cases q3
    obtain ⟨s4,q4⟩:=sl b _ q2 d
    exact ⟨s4,q4⟩
  · obtain ⟨o1,q1⟩:=U1.there b o q hx
    exact U2.free b o1 q1 (U1.free b o q n hx) hx
  · by_cases hb:b∈fs
    · obtain ⟨ob,q3,d⟩:=nf b hb
      obtain ⟨s4,q4⟩:=sl b _ q3 d
      exact ⟨_,q4⟩
    · obtain ⟨o1,q1⟩:=U1.there b o q hx
      obtain ⟨o',e⟩:=cov b o1 q1 (nL b o q hb)
      exact ⟨_,k2 _ _ e⟩
  · obtain ⟨m1,e1⟩:=U1.tbls b ps q
    obtain ⟨m2,e2⟩:=U2.tbls b _ e1
    exact ⟨m1 ++ m2,by rw [e2,Array.append_assoc]⟩

noncomputable def CXE (P:Program) (w:World):CXT:=fun outer H s E e s'=>∃ (ea C:Addr) (a0:Value) (B:Heap) (H':Hp),e = .ref ea∧Heap.FlyingW B outer ea (.ref C) a0 s'.heap∧s'.os=s.os∧AllBare s'.gens ∧
  HOk P w H' B∧Un (frs outer) [] H H' s.heap s'.heap∧(∀ b o,s.heap.get? b=some o→b ∉ frs outer→∃ o',B.get? b=some o')∧∃ m:Option Addr,(m=none→Ctx0 s'.heap ea)∧E (.ref C) m H'

section
variable {P:Program} {w:World} {K:PySem.W.Frag} {mg:Str→Option Value} {base:Heap} {N:List Str} {qual:Str} {scope:Scope} {f:Addr} {cdv:Value} {A:Around} {outer:List Env} {s0 s:Shared} {H0 H:Hp} {E E':XK}
  {pins:List (Addr × Obj)} {σ : St} {CX:CXT}
theorem stack_frs {e:Env} {L:Addr} {l:List Env} (h:e.frame=some L):frs (e :: l)=L :: frs l:=by
  unfold frs
  rw [List.filterMap_cons,h]
theorem flies {h':Heap} {e C:Addr} {args:List Value} (I:Inv (cxOf (CXE P w) P w K mg base N qual scope f cdv A outer s0 H0 E) pins σ H s) (hx:Heap.MadeExcOf s.heap h' e (.ref C) args) (q:E (.ref C) none H) :
    (cxOf (CXE P w) P w K mg base N qual scope f cdv A outer s0 H0 E).xe (.ref e) { s with heap:=h' }:=by
  have fr:s.heap.FunFrames base (envOfC qual scope s0.heap.objs.size f cdv :: outer):=I.stack
  have sf:∀ b∈frs (envOfC qual scope s0.heap.objs.size f cdv :: outer),H b=none:=I.stkFree
  have hin:∀ env∈(envOfC qual scope s0.heap.objs.size f cdv :: outer),∀ b,env.frame=some b→b∈frs (envOfC qual scope s0.heap.objs.size f cdv :: outer):=fun env he b hb=>List.mem_filterMap.mpr ⟨env,he,hb⟩
  have es:frs (envOfC qual scope s0.heap.objs.size f cdv :: outer)=s0.heap.objs.size :: frs outer:=stack_frs rfl
  show wpAny _ _ (leaving _ _) _ _ _
  obtain ⟨t,gt,_,_⟩:=hx.there
  have ff:=(PySem.W.funFrames_hide fr hin).of_keeps (h':=h') fun b o z _=>⟨o,hx.keeps b o z,rfl⟩
  have kb:(PySem.W.hideAll s.heap (frs (envOfC qual scope s0.heap.objs.size f cdv :: outer))).StaysIn h':=fun b o z=>hx.keeps b o (PySem.W.of_hideAll _ z)
  have be:(PySem.W.hideAll s.heap (frs (envOfC qual scope s0.heap.objs.size f cdv :: outer))).get? e=none:=by
    cases z:(PySem.W.hideAll s.heap (frs (envOfC qual scope s0.heap.objs.size f cdv :: outer))).get? e with
    | none=>rfl
    | some o=>have:=PySem.W.of_hideAll _ z;rw [hx.new] at this;cases this
  refine leave_new (s := { s with heap:=h' }) (a0 := .ref t) I.ok.frames ff rfl gt kb be rfl rfl rfl ?_
  intro h'' x1 x4 x5
  have cov:∀ b o,s.heap.get? b=some o→b ∉ s0.heap.objs.size :: frs outer→(PySem.W.hideAll s.heap (frs (envOfC qual scope s0.heap.objs.size f cdv :: outer))).get? b=some o:=fun b o z hb=>PySem.W.hideAll_get _ z (by rw [es];exact hb)
  have Ib:Un (frs outer) [] H0 H s0.heap s.heap:=I.base
  refine ⟨e,C,.ref t,_,H,rfl,x1,I.os,I.bare,HOk.part I.hok fun b u v z1 z2=>PySem.W.hideAll_get _ z2 fun hm => ?_,?_,?_,none,fun _=>x5 _ ⟨_,_,gt,rfl,rfl⟩,q⟩
  · rw [sf b hm] at z1;cases z1
  · refine Un.fly (h:=s.heap) (h1:=h') (L:=s0.heap.objs.size) Ib (Un.kept hx.keeps) (Heap.get?_none_of_le (Nat.le_refl _)) (fun b o z hb=>⟨o,cov b o z hb⟩) (fun b o z=>hx.keeps _ _ (PySem.W.of_hideAll _ z)) x1.1 x4 fun b hb => ?_
    obtain ⟨_,o,z,d⟩:=fr.mem (b:=b) (by show b∈frs _;rw [es];exact List.mem_cons_of_mem _ hb)
    exact ⟨o,hx.keeps _ _ z,d⟩
  · intro b o z hb
    obtain ⟨o1,z1⟩:=Ib.there b o z (by simp)
    refine ⟨o1,cov b o1 z1 fun hm => ?_⟩
    rcases List.mem_cons.mp hm with y | y
    · rw [y,Heap.get?_none_of_le (Nat.le_refl _)] at z;cases z
    · exact hb y
theorem passE (hE:∀ c m H',E' c m H'→E c m H'):Passes (CXE P w) (cxOf (CXE P w) P w K mg base N qual scope f cdv A outer s0 H0 E) E':=by
  intro pins σ H s e s' I h
  obtain ⟨ea,C,a0,B,H',rfl,fl,os,bare,hok,un,cov,m,hm,q⟩:=h
  have es:frs (envOfC qual scope s0.heap.objs.size f cdv :: outer)=s0.heap.objs.size :: frs outer:=stack_frs rfl
  have Ib:Un (frs outer) [] H0 H s0.heap s.heap:=I.base
  have un':Un (s0.heap.objs.size :: frs outer) [] H H' s.heap s'.heap:=by rw [← es];exact un
  have cov':∀ b o,s.heap.get? b=some o→b ∉ s0.heap.objs.size :: frs outer→∃ o',B.get? b=some o':=fun b o z hb=>cov b o z (by show b ∉ frs (envOfC qual scope s0.heap.objs.size f cdv :: outer);rw [es];exact hb)
  show wpAny _ _ (leaving _ _) _ _ _
  refine leave_on I.ok.frames rfl fl fun h'' x1 x2 x3 => ?_
  refine ⟨ea,C,a0,B,H',rfl,x1,os.trans I.os,bare,hok,?_,?_,m,fun z=>x3 _ (hm z),hE _ _ _ q⟩
  · refine Un.fly Ib un' (Heap.get?_none_of_le (Nat.le_refl _)) cov' fl.1 x1.1 x2 fun b hb => ?_
    obtain ⟨_,o,z,d⟩:=fl.2.2.1.mem (b:=b) (by show b∈frs (envOfC qual scope s0.heap.objs.size f cdv :: outer);rw [es];exact List.mem_cons_of_mem _ hb)
    exact ⟨o,z,d⟩
  · intro b o z hb
    obtain ⟨o1,z1⟩:=Ib.there b o z (by simp)
    refine cov' b o1 z1 fun hm => ?_
    rcases List.mem_cons.mp hm with y | y
    · rw [y,Heap.get?_none_of_le (Nat.le_refl _)] at z;cases z
    · exact hb y
end

structure Exc (K:PySem.W.Frag) (mg:Str→Option Value) (x:Str) (C:Addr):Prop where
  glob:mg x=some (.ref C)
  here:PySem.W.excIn K C [.type "ValueError",.type "Exception",.type "BaseException",.type "object"] "ValueError.__new__" = true
theorem Exc.own {K:PySem.W.Frag} {mg:Str→Option Value} {x:Str} {C:Addr} {h:Heap} (e:Exc K mg x C) (X:K.In h):OwnCls x C [.type "ValueError",.type "Exception",.type "BaseException",.type "object"] "ValueError.__new__" mg h:=by
  refine ⟨e.glob,?_⟩
  have q:=e.here
  unfold PySem.W.excIn at q
  split at q
  · rename_i dd cd sl ho
    split at q
    · rename_i C' bm k0 k1 k2 k3 n k5 hm hs
      simp only [Bool.and_eq_true,beq_iff_eq,Bool.not_eq_true'] at q
      obtain ⟨⟨⟨⟨⟨rfl,rfl⟩,hdel⟩,ht⟩,hok⟩,hni⟩:=q
      obtain ⟨nm,bs,mro,ns,qn,hd,sn,sub,ab,col,del⟩:=cd
      dsimp only at hm hdel hok hni
      subst hm hdel
      have hsl:sl = #[k0,k1,k2,k3,some (.builtin "ValueError.__new__"),k5]:=by
        obtain ⟨l⟩:=sl
        simp only at hs
        rw [hs]
      subst hsl
      exact ⟨bm,ns,nm,qn,bs,hd,sn,sub,ab,col,dd,k0,k1,k2,k3,k5,_,X _ _ ho,.of_isNs (PySem.W.isNs_of_in X hok),PySem.W.nsMap_none_of_in X hok hni,PySem.W.tail_of_in X ht⟩
    · cases q
  · cases q
noncomputable def Flies (X:Cx) (C:Addr) (E:XK):Prop := ∀ (pins:List (Addr × Obj)) (σ : St) (H:Hp) (s:Shared) (h':Heap) (e:Addr) (args:List Value),Inv X pins σ H s→Heap.MadeExcOf s.heap h' e (.ref C) args→E (.ref C) none H→X.xe (.ref e) { s with heap:=h' }
noncomputable def tRaise (C:Addr) (E:XK) (t:TA):TS:=fun _ σ H=>t σ H fun vs H1=>vs.length≤sizeLine∧E (.ref C) none H1
theorem ps_raise {X:Cx} {x:Str} {C:Addr} {E:XK} {e₀ : Expr} {rest:List Expr} {t:TA} {np cpos pos:Pos} (O:Exc X.K X.mg x C) (hc:X.calm=true) (F:Flies X C E) (ha:PA X (e₀ :: rest) t) (hg:Gl X x)
    (he:starEach (e₀ :: rest) X.env=(false,eval e₀ X.env) :: starEach rest X.env:=by rfl) (hplain:(backTo cpos (starEach rest X.env)).any (·.1)=false:=by rfl) (hd:(x == ("__debug__" : Str))=false:=by decide) :
    PS X (.Raise (some (.Call (.Name x np) (e₀ :: rest) [] cpos)) none pos) (tRaise C E t):=by
  intro pins s σ H D I h
  obtain ⟨tl,N,nm,q,bs,hdct,sn,sub,ab,col,dd,k0,k1,k2,k3,k5,mN,hC,hN,hni,T⟩:=(O.own I.ok.mod.kin).obj
  refine wpAny_Raise_call_subT (C:=C) (nm:=nm) (q:=q) (N:=N) (bs:=bs) (bm:=tl) (hdct:=hdct) (sn:=sn) (sub:=sub) (ab:=ab) (col:=col) (dd:=dd) (k0:=k0) (k1:=k1) (k2:=k2) (k3:=k3) (k5:=k5)
    PySem.F.excBase_ValueError (mN:=mN) (T.hasType PySem.F.excBase_ValueError.hasBase) (I.ok.hd hc) (by rw [he];show (false || (backTo cpos (starEach rest X.env)).any (·.1))=false;rw [hplain];rfl) hni (ld_glob I hg O.glob ⟨rfl,?_⟩ hd)
  have h₂ := ha cpos pins s σ H _ I h
  rw [he] at h₂ ⊢
  exact Calls.evalArgs_plain (wpAny_mono h₂ (fun vs s₂ ⟨xs,H1,I1,r,hl,hq⟩=>⟨rfl,by rw [← r.length];exact hl,I1.bk _ _ hC,hN.keeps I1.bk,T.keeps I1.bk,fun h' e hm=>F pins σ H1 s₂ h' e vs I1 hm hq⟩) fun _ _ y=>y)
end L2
namespace L2
open PySem PySem.Spec PyProof.Rows PySem.W

section
variable {prog:Program} {w:World} {A:Around} {E:Value→Shared→Prop} {h:Heap} {g:Array GenState} {d:Drawn} {t:Nat} {os:OsState} {a:Addr} {o:Obj}
  {nm q:Str} {C N:Addr} {bs bm:List Value} {hdct:Bool} {sn:List Str} {sub:List Value} {ab:Bool} {col:Option Bool} {dd:Option Addr} {k0 k1 k2 k3 k5:Option Value} {newId:String}

theorem xc_get {R:Result→Shared→Prop} (hC:h.get? C=some (excClassObj nm q C N bs bm hdct sn sub ab col dd k0 k1 k2 k3 k5 newId)) (hb:bm.contains (.type "object")=true)
    (hx:h.get? a=some o) (hc:o.cls = .ref C) (hq:R (.ok (.ret (.ref C))) ⟨h,g,d,t,os⟩) :
    codeAny (model prog w) A (.call (.builtin "getset_descriptor.__get__") ⟨[.builtin "object.__class__",.ref a,.ref C], []⟩) R ⟨h,g,d,t,os⟩:=by
  have hT5:(⟨h,g,d,t,os⟩:Shared).TypeIs (.builtin "object.__class__") "getset_descriptor" := F.typeOf_object_class
  have hcB:(Value.ref C :: bm).contains (.type (".".intercalate ("object.__class__".cutAt '.').dropLast))=true:=by
    rw [F.owner_object_class,List.contains_cons,hb];rfl
  refine codeAny_call_builtin F.slot_gs_get.plain F.entry_gs_get (F.slot_gs_get.check _ _ _ _ _ _ _ _ hT5 (F.args_gs_get _ _ _) ?_)
  repeat (any_goals (first | assumption | (with_reducible refine wpAny_loadPart_at hx ?_;rw [hc]) | (with_reducible refine wpAny_isSubtype_exc hC ?_;rw [hcB]) | wp_step))
  refine ⟨Code.quiet_builtin _ (by decide +kernel),codeAny_builtin F.entry_object_class ?_⟩
  repeat (any_goals (first | assumption | (with_reducible refine wpAny_loadPart_at hx ?_;rw [hc]) | wp_step))

theorem xc_check {M:Model} {nameV:Value} {Q:Unit→Shared→Prop} (hC:h.get? C=some (excClassObj nm q C N bs bm hdct sn sub ab col dd k0 k1 k2 k3 k5 newId)) (hb:bm.contains (.type "BaseException")=true)
    (hx:h.get? a=some o) (hc:o.cls = .ref C) (hq:Q () ⟨h,g,d,t,os⟩):wpAny M A (checkBuiltinCall "BaseException.__getattribute__" ⟨[.ref a,nameV], []⟩) Q E ⟨h,g,d,t,os⟩:=by
  have hk:builtinKind "BaseException.__getattribute__" = some .slot:=by decide +kernel
  have hsplit:splitId "BaseException.__getattribute__" = some ("BaseException", "__getattribute__"):=by decide +kernel
  have hcB:(Value.ref C :: bm).contains (.type "BaseException")=true:=by rw [List.contains_cons,hb];rfl
  have ha:=F.args_bexc_ga (.ref a) nameV
  simp only [checkBuiltinCall,hk,hsplit]
  refine wpAny_bind ?_
  · unfold isInstance
    repeat (first | (with_reducible refine wpAny_loadPart_at hx ?_;rw [hc]) | (with_reducible refine wpAny_isSubtype_exc hC ?_;rw [hcB]) | wp_step)
    exact hq

theorem xc_entry {tk:Tok} {Q:Fin→Shared→Prop} (hC:h.get? C=some (excClassObj nm q C N bs bm hdct sn sub ab col dd k0 k1 k2 k3 k5 newId)) (hb:bm.contains (.type "object")=true)
    (lk:Looks (model prog w) h (typeLookup (.ref C) "__class__") (some (.builtin "object.__class__"))) (hx:h.get? a=some o) (hc:o.cls = .ref C) (hq:Q (.done (.ret (.ref C))) ⟨h,g,d,t,os⟩) :
    wpAny (model prog w) A (Builtin.«object.__getattribute__» ⟨[.ref a,.str "__class__" tk], []⟩) Q E ⟨h,g,d,t,os⟩:=by
  have hT5:(⟨h,g,d,t,os⟩:Shared).TypeIs (.builtin "object.__class__") "getset_descriptor" := F.typeOf_object_class
  have f5:=F.typeOf_object_class
  have f6:=F.slot_gs_get.lookup
  have f7:=F.slot_gs_set.lookup
  repeat (any_goals (first | assumption | (with_reducible refine wpAny_loadPart_at hx ?_;rw [hc]) | with_reducible refine lk.at ?_ | wp_step))
  refine xc_get hC hb hx hc ?_
  repeat (any_goals (first | assumption | wp_step))

theorem xc_by {tk:Tok} {fill expr:Bool} {Q:Value→Shared→Prop} (hC:h.get? C=some (excClassObj nm q C N bs bm hdct sn sub ab col dd k0 k1 k2 k3 k5 newId)) (hb:bm.contains (.type "object")=true) (hb2:bm.contains (.type "BaseException")=true)
    (lk:Looks (model prog w) h (typeLookup (.ref C) "__class__") (some (.builtin "object.__class__"))) (lg:Looks (model prog w) h (typeLookup (.ref C) "__getattribute__") (some (.builtin "BaseException.__getattribute__")))
    (ln:Looks (model prog w) h (typeLookup (.ref C) "__getattr__") none) (hx:h.get? a=some o) (hc:o.cls = .ref C) (hq:Q (.ref C) ⟨h,g,d,t,os⟩) :
    wpAny (model prog w) A (getAttrBy (.ref a) (.str "__class__" tk) fill expr) Q E ⟨h,g,d,t,os⟩:=by
  have FB:=F.attrBase_ValueError
  have f3:=FB.ga.bind (.ref a)
  have hx0:(expr && onTheHeap (Value.builtin "BaseException.__getattribute__"))=false:=by cases expr <;> rfl
  have hx2:(Value.builtin "BaseException.__getattribute__" == Value.builtin "object.__getattribute__")=false:=by decide +kernel
  have hx1:(onTheHeap (Value.ref C) && Value.builtin "BaseException.__getattribute__" == Value.builtin "object.__getattribute__")=false:=by rw [hx2];rfl
  repeat (any_goals (first | assumption | (with_reducible refine wpAny_loadPart_at hx ?_;rw [hc]) | with_reducible refine lg.at ?_ | with_reducible refine ln.at ?_ | wp_step))
  refine codeAny_call_builtin FB.ga.plain F.entry_bexc_ga (xc_check hC hb2 hx hc (xc_entry hC hb lk hx hc ?_))
  repeat (any_goals (first | assumption | wp_step))

theorem xc_attr {Q:Option Value→Shared→Prop} (hC:h.get? C=some (excClassObj nm q C N bs bm hdct sn sub ab col dd k0 k1 k2 k3 k5 newId)) (hb:bm.contains (.type "object")=true) (hb2:bm.contains (.type "BaseException")=true)
    (lk:Looks (model prog w) h (typeLookup (.ref C) "__class__") (some (.builtin "object.__class__"))) (lg:Looks (model prog w) h (typeLookup (.ref C) "__getattribute__") (some (.builtin "BaseException.__getattribute__")))
    (ln:Looks (model prog w) h (typeLookup (.ref C) "__getattr__") none) (hx:h.get? a=some o) (hc:o.cls = .ref C) (hq:Q (some (.ref C)) ⟨h,g,d,t+1,os⟩) :
    wpAny (model prog w) A (getAttr? (.ref a) "__class__") Q E ⟨h,g,d,t,os⟩:=by
  unfold getAttr? getAttrBy?
  repeat (any_goals (first | assumption | with_reducible apply xc_by hC hb hb2 lk lg ln hx hc | wp_step))
end
end L2
namespace L2
open PySem PySem.Spec PyProof.Rows

noncomputable def XO (ea C:Addr):HO := .ext fun h=>∃ o,h.get? ea=some o∧o.cls = .ref C
noncomputable abbrev Cx.uncalm (X:Cx) (A:Around) (xe:Value→Shared→Prop):Cx := { X with A:=A,calm:=false,xe:=xe }
section
variable {X:Cx} {pins:List (Addr × Obj)} {σ : St} {H:Hp} {s:Shared} {xe:Value→Shared→Prop} {A:Around}
theorem Inv.uncalm (I:Inv X pins σ H s) (hf:A.frames=X.A.frames):Inv (X.uncalm A xe) pins σ H s :=
  ⟨⟨I.ok.mod,I.ok.kind,I.ok.glob,I.ok.blt,I.ok.above,I.ok.inj,I.ok.has,I.ok.cab,(fun h=>absurd (show false=true from h) (by decide)),hf.trans I.ok.frames,I.ok.stk,I.ok.exf,I.ok.bs,I.ok.bsz,I.ok.noex,I.ok.exfs,I.ok.funs,I.ok.frf⟩,
    I.os,I.bare,I.base,I.loc,I.cell,I.free,I.freeC,I.pin,I.hok,I.len⟩
theorem Inv.recalm (I:Inv (X.uncalm A xe) pins σ H s) (hd:X.calm=true→X.A.handled=none) (hf:X.A.frames=A.frames):Inv X pins σ H s :=
  ⟨⟨I.ok.mod,I.ok.kind,I.ok.glob,I.ok.blt,I.ok.above,I.ok.inj,I.ok.has,I.ok.cab,hd,hf.trans I.ok.frames,I.ok.stk,I.ok.exf,I.ok.bs,I.ok.bsz,I.ok.noex,I.ok.exfs,I.ok.funs,I.ok.frf⟩,
    I.os,I.bare,I.base,I.loc,I.cell,I.free,I.freeC,I.pin,I.hok,I.len⟩
end
theorem Un.on {fs:List Addr} {H H':Hp} {h h1 h2 B:Heap} (U:Un fs [] H H' h h1) (cov:∀ b o,h.get? b=some o→b ∉ fs→∃ o',B.get? b=some o') (k1:∀ b o,B.get? b=some o→h1.get? b=some o) (k2:∀ b o,B.get? b=some o→h2.get? b=some o)
    (sl:h1.UpToSlots h2) (nf:∀ b∈fs,∃ o,h1.get? b=some o∧∀ vs,o.data ≠ .fields vs):Un fs [] H H' h h2:=by
  refine ⟨fun b o q n hb hx => ?_,fun b o q n hb hx => ?_,U.free,fun b o q hx => ?_,U.tups,U.frzs,U.tbls⟩
  · have q2:=U.keep b o q n hb hx
    obtain ⟨o',e⟩:=cov b o q hb
    have e1:=k1 _ _ e
    rw [q2] at e1
    cases e1
    exact k2 _ _ e
  · obtain ⟨s1,q1⟩:=U.slot b o q n hb hx
    obtain ⟨ob,q3,d⟩:=nf b hb
    rw [q1] at q3
    cases q3
    obtain ⟨s4,q4⟩:=sl b _ q1 d
    exact ⟨s4,q4⟩
  · by_cases hb:b∈fs
    · obtain ⟨ob,q3,d⟩:=nf b hb
      obtain ⟨s4,q4⟩:=sl b _ q3 d
      exact ⟨_,q4⟩
    · obtain ⟨o',e⟩:=cov b o q hb
      exact ⟨_,k2 _ _ e⟩
theorem Un.more {fs:List Addr} {H H':Hp} {h h2:Heap} {a:Addr} {o:HO} (U:Un fs [] H H' h h2) (hn:h.get? a=none) (hH:H' a=none):Un fs [] H (upd H' a o) h h2:=by
  have ne:∀ b u,h.get? b=some u→b≠a:=fun b u q z=>by rw [z,hn] at q;cases q
  refine ⟨U.keep,U.slot,fun b u q n hx=>by rw [upd_ne (ne b u q)];exact U.free b u q n hx,U.there,fun b xs q => ?_,fun b u xs q => ?_,fun b ps q => ?_⟩
  · have e:=U.tups b xs q
    rw [upd_ne (ne_of_none e hH)];exact e
  · have e:=U.frzs b u xs q
    rw [upd_ne (ne_of_none e hH)];exact e
  · obtain ⟨m,e⟩:=U.tbls b ps q
    exact ⟨m,by rw [upd_ne (ne_of_none e hH)];exact e⟩
section
variable {X:Cx} {pins:List (Addr × Obj)} {σ : St} {H0 H':Hp} {s0 s':Shared} {ea C:Addr} {a0:Value} {B h5:Heap} {env:Env} {outer:List Env}
theorem caught_inv (I:Inv X pins σ H0 s0) (fl:Heap.FlyingW B X.stack ea (.ref C) a0 s'.heap) (os:s'.os=s0.os) (bare:AllBare s'.gens) (hok:HOk X.prog X.w H' B) (un:Un (frs X.stack) [] H0 H' s0.heap s'.heap)
    (cov:∀ b o,s0.heap.get? b=some o→b ∉ frs X.stack→∃ o',B.get? b=some o') (k5:∀ b o,B.get? b=some o→h5.get? b=some o) (sl:s'.heap.UpToSlots h5) (he:∃ o vs,h5.get? ea=some o∧o.cls = .ref C∧o.data = .fields vs) :
    Inv X pins σ (upd H' ea (XO ea C)) { s' with heap:=h5 }∧H' ea=none:=by
  have hn:H' ea=none:=hok.notThere fl.2.1
  have fm:∀ b∈frs X.stack,∃ o,s'.heap.get? b=some o∧∀ vs,o.data ≠ .fields vs:=fun b hb=>(fl.2.2.1.mem hb).2
  obtain ⟨oe,vs,h1,h2,h3⟩:=he
  have new:s0.heap.get? ea=none:=by
    cases q:s0.heap.get? ea with
    | none=>rfl
    | some o =>
      by_cases hb:ea∈frs X.stack
      · obtain ⟨ob,q3,d⟩:=fm ea hb
        obtain ⟨s4,q4⟩:=sl ea _ q3 d
        rw [h1] at q4
        cases q4
        exact absurd h3 (d vs)
      · obtain ⟨o',e⟩:=cov ea o q hb
        rw [fl.2.1] at e;cases e
  refine ⟨Inv.call' (s' := { s' with heap:=h5 }) I os ((un.on cov fl.1 k5 sl fm).more new hn) ?_ bare (fun b z=>absurd z (by simp)),hn⟩
  intro b u e
  have tup:∀ c xs,H' c=some (.tup xs)→upd H' ea (XO ea C) c=some (.tup xs):=fun c xs z=>by rw [upd_ne (ne_of_none z hn)];exact z
  have own:∀ c y,H' c=some (.own y)→upd H' ea (XO ea C) c=some (.own y):=fun c y z=>by rw [upd_ne (ne_of_none z hn)];exact z
  by_cases hb:b=ea
  · subst hb
    rw [upd_same] at e
    cases e
    refine ⟨⟨oe,h1,h2⟩,⟨oe,h1⟩,fun g1 g2 ⟨o,z1,z2⟩ k=>⟨o,k o z1,z2⟩⟩
  · rw [upd_ne hb] at e
    exact (hok b u e).stay (fun c v hc q=>k5 _ _ q) (fun c z=>own c b z) tup
end
theorem gone_ok {X:Cx} {pins:List (Addr × Obj)} {σ : St} {H:Hp} {s:Shared} {M:Model} {A:Around} {E:Value→Shared→Prop} {i:Nat} {n:Str} {pos:Pos} {Q:Unit→Shared→Prop} (I:Inv X pins σ H s) (hN:X.N.Nodup) (hi:X.N[i]? = some n)
    (hk:X.env.scope.names.lookup n=some .local) (h:∀ s',Inv X pins (σ.set i none) H s'→Q () s'):wpAny M A (do bindName X.env n .none;unbindBehindTheSuite X.env n pos) Q E s:=by
  obtain ⟨m,hn,hl⟩:=id I.loc
  have hcls:(X.env.scope.kind == .class || (X.env.scope.kind == .module && X.env.locals != X.env.globals))=false:=by rw [I.ok.kind];rfl
  have hiσ : i < σ.length:=by rw [I.len];exact (List.getElem?_eq_some_iff.mp hi).1
  have cne:=I.cne
  obtain ⟨oL,_,_,hoL,_⟩:=id hn
  refine wpAny_nameGoes_keeps hk hn hcls fun h' v hn' hs => ?_
  refine h _ ⟨I.ok,I.os,I.bare,⟨fun b o e n hb hx => ?_,fun b o e n hb hx => ?_,I.base.free,fun b o e hx => ?_,I.base.tups,I.base.frzs,I.base.tbls⟩,⟨_,hn',fun j y v' e1 e2 e3 => ?_⟩,fun y c e => ?_,I.free,I.freeC,fun p hp => ?_,fun b ob e => ?_,by simpa using I.len⟩
  · exact (hs.2 b (Nat.ne_of_lt (Nat.lt_of_lt_of_le (Heap.lt_size e) I.ok.above))).trans (I.base.keep b o e n hb hx)
  · obtain ⟨sl,e1⟩:=I.base.slot b o e n hb hx
    exact ⟨sl,(hs.2 b (Nat.ne_of_lt (Nat.lt_of_lt_of_le (Heap.lt_size e) I.ok.above))).trans e1⟩
  · obtain ⟨o',e1⟩:=I.base.there b o e hx
    exact ⟨o',(hs.2 b (Nat.ne_of_lt (Nat.lt_of_lt_of_le (Heap.lt_size e) I.ok.above))).trans e1⟩
  · by_cases hj:j=i
    · subst hj
      rw [List.getElem?_set_self hiσ] at e2
      cases e2
    · rw [List.getElem?_set_ne (Ne.symm hj)] at e2
      obtain ⟨u',r',q⟩:=hl j y v' e1 e2 e3
      refine ⟨u',r',?_⟩
      rcases q with ⟨k,e⟩ | ⟨k,c,e,z⟩
      · refine .inl ⟨k,?_⟩
        have:y≠n:=fun e=>hj (nodup_ix hN e1 (e ▸ hi))
        simp [this,e]
      · exact .inr ⟨k,c,e,z.sameBut hs (cne y c e)⟩
  · obtain ⟨w',z⟩:=I.cell y c e
    exact ⟨w',z.sameBut hs (cne y c e)⟩
  · obtain ⟨e,n,ne,nf,d⟩:=I.pin p hp
    exact ⟨(hs.2 p.1 ne).trans e,n,ne,nf,d⟩
  · refine (I.hok b ob e).stay (fun c w' hc q=>(hs.2 c ?_).trans q) (fun _ q=>q) fun _ _ q=>q
    rintro rfl
    rcases hc with rfl | hc
    · rw [I.free] at e;cases e
    · rw [I.free] at hc;cases hc

noncomputable def Wish (X:Cx) (pins:List (Addr × Obj)) (σ : St) (E:XK) (xe:Value→Shared→Prop):Prop := ∀ (H0:Hp) (s0:Shared) (e:Value) (s':Shared),Inv X pins σ H0 s0→CXE X.prog X.w X.stack H0 s0 E e s'→xe e s'
noncomputable def PEt (X:Cx) (e:Expr) (t:XK→TE):Prop := ∀ (E:XK) (pins:List (Addr × Obj)) (s:Shared) (σ : St) (H:Hp) (Q:VK) (xe:Value→Shared→Prop),Wish X pins σ E xe→Inv X pins σ H s→t E σ H Q →
  wpAny (model X.prog X.w) X.A (eval e X.env) (EP X pins σ Q) xe s
noncomputable def PSt (X:Cx) (st:List Stmt) (t:XK→TS):Prop := ∀ (E:XK) (pins:List (Addr × Obj)) (s:Shared) (σ : St) (H:Hp) (D:Ends) (xe:Value→Shared→Prop),Wish X pins σ E xe→Inv X pins σ H s→t E D σ H →
  wpAny (model X.prog X.w) X.A (execs st X.env) (SP X pins D) xe s
section
variable {X:Cx} {k:Nat} {f:Addr} {fd:FuncData} {ps:List Str} {sp:Sp} {dvs:List V} {ds:List Value} {x:Str} {p pos:Pos} {e:Expr} {es:List Expr} {t:TA}
theorem pst_set {i:Nat} {y:Str} {te:XK→TE} {pos':Pos} (hN:X.N.Nodup) (hi:X.N[i]? = some y) (hx:Loc X.env.scope y) (he:PEt X e te) (hs:swapsWith e (some (.Name y pos')) pos.line X.env=pure false:=by rfl)
    (hf:X.fn y=true∨X.env.scope.names.lookup y=some .local:=by first | exact .inl rfl | exact .inr rfl | assumption):PSt X [.Assign [.Name y pos'] e pos] (fun E=>tAsg (te E) (gName i)):=by
  intro E pins s σ H D xe W I h
  refine wpAny_execs_cons (wpAny_Assign_Name (thn (he E pins s σ H _ xe W I h) fun v s1 ⟨z,H1,I1,r1,q1⟩ => ?_) hs)
  exact store_ok I1 hN hi hx r1 (fun s2 I2=>wpAny_execs_nil ⟨_,H1,I2,q1⟩) hf
end
noncomputable def tTry (K:PySem.W.Frag) (CH:Addr) (i:Nat) (tb:XK→TS) (th:TS):TS:=fun D σ H =>
  tb (fun cls _ H'=>∃ C,cls = .ref C∧PySem.W.exmOne K (.ref C) (.ref CH)=some true∧∀ ea,H' ea=none →
    th { nx:=fun σ' H''=>D.nx (σ'.set i none) H'',rt:=D.rt,bk:=fun σ' H''=>D.bk (σ'.set i none) H'',ct:=fun σ' H''=>D.ct (σ'.set i none) H'' } (σ.set i (some (.ref ea))) (upd H' ea (XO ea C))) D σ H
theorem ps_try {X:Cx} {body:List Stmt} {tb:XK→TS} {th:TS} {x n:Str} {i:Nat} {CH:Addr} {b₀ : Stmt} {suite:List Stmt} {np hpos pos:Pos} (hst:X.stack=X.env :: X.outer∧X.env.frame=some X.env.locals)
    (hN:X.N.Nodup) (hi:X.N[i]? = some n) (hl:X.env.scope.names.lookup n=some .local) (hg:Gl X x) (hm:X.mg x=some (.ref CH)) (hb:PSt X body tb)
    (hh:∀ ea:Addr,PSs (X.uncalm (X.A.mark (some (.ref ea))) fun _ _=>False) (b₀ :: suite) th) (hd:(x == ("__debug__" : Str))=false:=by decide) :
    PS X (.Try body [.ExceptHandler (some (.Name x np)) (some n) (b₀ :: suite) hpos] [] [] pos) (tTry X.K CH i tb th):=by
  intro pins s σ H D I h
  refine wpAny_Try_except (wpAny_mono (hb _ pins s σ H D _ ?W I h) (fun f s1 q => ?_) fun _ _ z=>z)
  case W =>
    intro H0 s0 e s' I0 hx
    obtain ⟨ea,C,a0,B,H',rfl,fl,os,bare,hok,un,cov,_,_,C',hc,hex,hth⟩:=hx
    cases hc
    have hfr:X.A.frames=some (X.env :: X.outer):=by rw [I0.ok.frames,hst.1]
    have fl0:Heap.FlyingW B (X.env :: X.outer) ea (.ref C) a0 s'.heap:=by rw [← hst.1];exact fl
    refine wpAny_looks_onW hfr hst.2 fl0 fun h₄ held₄ sm₄ => ?_
    refine wpAny_landsW held₄ fun h₅ fl₅ sm₅ => ?_
    obtain ⟨o5,vs5,g1,g2,g3,_⟩:=fl₅.first
    obtain ⟨I5,hea⟩:=caught_inv (h5:=h₅) I0 fl os bare hok un cov fl₅.1 (sm₄.trans sm₅) ⟨o5,vs5,g1,g2,g3⟩
    have J5:Inv (X.uncalm (X.A.mark (some (.ref ea))) fun _ _=>False) pins σ (upd H' ea (XO ea C)) { s' with heap:=h₅ }:=I5.uncalm rfl
    refine wpAny_handleBy_cons (codeAny_handlers_test (ld_glob J5 hg hm ?_ hd)) (by intro q;cases q)
    have LT:PySem.W.Looks (model X.prog X.w) h₅ (typeOf (.ref ea)) (.ref C):=g2 ▸ (PySem.W.Looks.ld g1).andThen .now
    refine (PySem.W.exm_one (M:=model X.prog X.w) I5.kIn LT hex).at ?_
    show codeAny _ _ _ _ _
    refine codeAny_handlers_suite_as ?_
    refine lands_againW fl₅ fun h₆ fl₆ sm₆ => ?_
    obtain ⟨o6,vs6,j1,j2,j3,_⟩:=fl₆.first
    obtain ⟨I6,_⟩:=caught_inv (h5:=h₆) I0 fl os bare hok un cov fl₆.1 ((sm₄.trans sm₅).trans sm₆) ⟨o6,vs6,j1,j2,j3⟩
    refine store_ok I6 hN hi (.inl hl) (v := .ref ea) rfl (fun s7 J7 => ?_) (.inr hl)
    refine wpAny_mono (hh ea pins s7 _ _ _ (J7.uncalm rfl) (hth ea hea)) (fun f s8 q8 => ?_) fun _ _ z=>False.elim z
    have back:∀ {σ' H''} {s9:Shared},Inv (X.uncalm (X.A.mark (some (.ref ea))) fun _ _=>False) pins σ' H'' s9→Inv X pins σ' H'' s9:=fun J=>J.recalm I0.ok.hd rfl
    cases f with
    | next =>
      obtain ⟨σ',H'',J,q⟩:=q8
      exact gone_ok (back J) hN hi hl fun s9 I9=>⟨_,_,I9,q⟩
    | brk =>
      obtain ⟨σ',H'',J,q⟩:=q8
      exact gone_ok (back J) hN hi hl fun s9 I9=>⟨_,_,I9,q⟩
    | cont =>
      obtain ⟨σ',H'',J,q⟩:=q8
      exact gone_ok (back J) hN hi hl fun s9 I9=>⟨_,_,I9,q⟩
    | ret u =>
      obtain ⟨v, σ',H'',J,r,q⟩:=q8
      exact gone_ok (back J) hN hi hl fun s9 I9=>⟨v,_,_,I9,r,q⟩
  cases f with
  | next=>exact wpAny_execs_nil q
  | brk=>exact q
  | cont=>exact q
  | ret u=>exact q

structure RoomN (k:Nat) (A:Around):Prop where
  dp:A.depth+3 * k+5 < recursionLimit
  un:A.units+16 * k+200 < cLine
theorem Room.mark {k:Nat} {A:Around} (r:Room k A) (v:Option Value):RoomN k (A.mark v):=⟨r.dp,r.un⟩
theorem RoomN.mono {j k:Nat} {A:Around} (r:RoomN k A) (h:j≤k):RoomN j A:=⟨by have:=r.dp;omega,by have:=r.un;omega⟩
theorem RoomN.deeper {k:Nat} {A:Around} (r:RoomN (k+1) A) (env:Env):RoomN k (A.deeper env) :=
  ⟨by have:=r.dp;show A.depth+1+3 * k+5 < _;omega,by have:=r.un;show A.units+3+16 * k+200 < _;omega⟩
structure FnN (P:Program) (w:World) (K:PySem.W.Frag) (mg:Str→Option Value) (base:Heap) (k:Nat) (f:Addr) (fd:FuncData) (ps:List Str) (sp:Sp):Prop where
  len:∀ vs H Q E,sp vs H Q E→vs.length=ps.length
  run:∀ (A:Around) (outer:List Env) (s:Shared) (H:Hp) (args:Args) (us:List Value) (vs:List V) (Q:VK),RoomN k A→Env0 P w K mg base A outer s H→BindsTo s fd args (ps.zip us)→Vals vs us→sp vs H Q E0 →
    codeAny (model P w) A (.call (.ref f) args) (CR CX0 outer P w H s Q E0) s
theorem fn_N {P:Program} {w:World} {K:PySem.W.Frag} {mg:Str→Option Value} {base:Heap} {k:Nat} {f:Addr} {x qual:Str} {st:Stmt} {fd:FuncData} {N ps:List Str} {sp:Sp} (F:Fun K x qual st f fd) (S:FnScope N ps (defScope st))
    (len:∀ vs H Q E,sp vs H Q E→vs.length=ps.length)
    (hbody:∀ (cdv:Value) (A:Around) (outer:List Env) (s:Shared) (H:Hp) (vs:List V) (Q:VK),RoomN k (A.deeper (envOfC qual (defScope st) s.heap.objs.size f cdv))→sp vs H Q E0 →
      ∃ t,PSs ((cxOf CX0 P w K mg base N qual (defScope st) f cdv { A with handled:=none } outer s H E0).uncalm (A.deeper (envOfC qual (defScope st) s.heap.objs.size f cdv)) fun _ _=>False) (defBody st) t∧t { nx:=fun _ H'=>Q .non H',rt:=Q } (start N vs) H) :
    FnN P w K mg base (k+1) f fd ps sp:=by
  obtain ⟨oc,od,kV,doc,pm,an,cdv,ct,osl,rfl,lk,hcd⟩:=F.ex
  refine ⟨len,fun A outer s H args us vs Q hr e0 hb r hsp => ?_⟩
  have hl:=len _ _ _ _ hsp
  have KX:K.In s.heap:=e0.mod.kin.keeps fun b o e=>(e0.bs b o e).1
  have lim:s.heap.NoLimit:=e0.mod.nolimit.keeps fun b o e=>(e0.bs b o e).1
  have hkind:∀ y∈ps.zip us,(defScope st).names.lookup y.1=some .local∨((defScope st).names.lookup y.1=some .cell∧((cellsFrom (s.heap.objs.size+1) (defScope st).names []).lookup y.1).isSome=true):=fun ⟨n,v⟩ hy=>by
    rcases S.par n (List.of_mem_zip hy).1 with q | q
    · exact .inl q
    · exact .inr ⟨q,PySem.W.cellsFrom_some _ _ _ (.inl q)⟩
  have hdep:A.depth < recursionLimit:=by have:=hr.dp;omega
  refine codeAny_call_function hdep (KX _ _ lk) rfl S.co S.gen rfl (PySem.W.codeRec_of KX hcd) (hb _ _ _ _ ?_)
  refine wpAny_newFunctionEnv_cells S.kind hkind fun env he s1 x => ?_
  subst he
  refine ⟨lim.keeps x.toInCall.keep,codeAny_func ?_⟩
  obtain ⟨t,ht,hq⟩:=hbody cdv A outer s H vs Q (hr.deeper _) hsp
  have e0':Env0 P w K mg base { A with handled:=none } outer s H:=⟨e0.frames,e0.mod,e0.bs,e0.bsz,e0.funs,e0.frf,e0.hok,e0.bare⟩
  have I0:Inv (cxOf CX0 P w K mg base N qual (defScope st) f cdv { A with handled:=none } outer s H E0) [] (start N vs) H s1:=inv_start S rfl e0' hl r x
  have I:=I0.uncalm (A:=A.deeper (envOfC qual (defScope st) s.heap.objs.size f cdv)) (xe:=fun _ _=>False) rfl
  refine wpAny_mono (ht [] s1 (start N vs) H _ I hq) (fun fl s' hs => ?_) fun e s' hs=>False.elim hs
  have fin:∀ {σ':St} {H':Hp} {v:V} {u:Value},Inv ((cxOf CX0 P w K mg base N qual (defScope st) f cdv { A with handled:=none } outer s H E0).uncalm (A.deeper (envOfC qual (defScope st) s.heap.objs.size f cdv)) fun _ _=>False) [] σ' H' s'→RelV v u→Q v H'→CE outer P w H s Q u s' :=
    fun {σ' H' v u} J rv q=>⟨v,H',J.os,J.bare,J.base,J.hok,rv,q⟩
  cases fl with
  | ret u =>
    obtain ⟨v, σ',H',J,rv,q⟩:=hs
    exact fin J rv q
  | next =>
    obtain ⟨σ',H',J,q⟩:=hs
    exact fin (v:=V.non) (u:=Value.none) J rfl q
  | brk =>
    obtain ⟨_,_,_,q⟩:=hs
    exact False.elim q
  | cont =>
    obtain ⟨_,_,_,q⟩:=hs
    exact False.elim q
theorem pe_callN {X:Cx} {k k':Nat} {f:Addr} {fd:FuncData} {ps:List Str} {sp:Sp} {x:Str} {p pos:Pos} {e:Expr} {es:List Expr} {t:TA} (F:FnN X.prog X.w X.K X.mg X.base k f fd ps sp) (hr:RoomN k' X.A) (hkk:k≤k') (hg:Gl X x) (hm:X.mg x=some (.ref f)) (hk:PySem.W.keepIn X.K (.ref f)=true) (hb:Binds X.K fd ps [])
    (ha:PA X (e :: es) t) (hdb:(x == ("__debug__" : Str))=false:=by decide) (he:starEach (e :: es) X.env=(false,eval e X.env) :: starEach es X.env:=by rfl) (hpl:(backTo pos (starEach es X.env)).any (·.1)=false:=by rfl) :
    PE X (.Call (.Name x p) (e :: es) [] pos) (tCall sp [] E0 t):=by
  intro pins s σ H Q I h
  refine wpAny_Call_Name_kw (ld_glob I hg hm ?_ hdb)
  refine PySem.W.callWith_K (h₀ := X.base) I.ok.mod.kin hk (thn (ha pos pins s σ H _ I h) fun us s1 ⟨vs,H1,I1,r,q⟩=>⟨I1.kIn,?_⟩) he hpl
  have q:sp (vs ++ []) H1 Q E0:=q
  rw [List.append_nil] at q
  have hl:us.length=ps.length:=by rw [← r.length];exact F.len _ _ _ _ q
  have hb':=hb s1 us I1.kIn (by rw [List.append_nil];exact hl)
  rw [List.append_nil] at hb'
  refine wpAny_call (codeAny_mono (F.run X.A X.stack s1 H1 ⟨us, []⟩ us vs Q (hr.mono hkk) I1.env0 hb' r q) fun r s' hq => ?_)
  cases r with
  | error e=>exact False.elim hq
  | ok fl =>
    cases fl with
    | ret u=>exact I1.after hq
    | next=>exact False.elim hq
    | brk=>exact False.elim hq
    | cont=>exact False.elim hq

structure ExcI (K:PySem.W.Frag) (C:Addr):Prop where
  cl:PySem.W.findIn K (.ref C) "__class__" = some (some (.builtin "object.__class__"))
  ga:PySem.W.findIn K (.ref C) "__getattribute__" = some (some (.builtin "BaseException.__getattribute__"))
  gn:PySem.W.findIn K (.ref C) "__getattr__" = some none
theorem call_isX {X:Cx} {x:Str} {C:Addr} (O:Exc X.K X.mg x C) (Z:ExcI X.K C) :
    CallR X (.builtin "isinstance") (fun xs H Q=>∃ ea c cv b,xs = [.ref ea,c]∧H ea=some (XO ea C)∧RelV c cv∧(∀ u v,RelV c u→RelV c v→u=v)∧PySem.W.kitOne X.K (.ref C) cv=some b∧Q (.bl b) H):=by
  intro pins s σ H xs us Q I r h
  obtain ⟨ea,c,cv,b,rfl,hea,rc,hcv,e,q⟩:=h
  obtain ⟨u,w',rfl,rx,ry⟩:=vals2 r
  cases (show u=Value.ref ea from rx)
  obtain ⟨⟨o,h1,h2⟩,_⟩:=(show ObjOk X.prog X.w H s.heap ea (XO ea C) from I.hok ea _ hea)
  have hw:w'=cv:=hcv _ _ ry rc
  subst hw
  obtain ⟨bm,N,nm,qn,bs,hdct,sn,sub,ab,col,dd,k0,k1,k2,k3,k5,mN,hC,hN,hni,TL⟩:=(O.own I.kIn).obj
  have hob:bm.contains (.type "object")=true:=TL.hasType (by decide +kernel)
  have hbb:bm.contains (.type "BaseException")=true:=TL.hasType (by decide +kernel)
  have Zx:PySem.W.KitX X.K (.ref ea) (.ref C) (fun h=>(∃ o,h.get? ea=some o∧o.cls = .ref C)) := {
    ty:=fun M h _ p=>by
      obtain ⟨o,h1,h2⟩:=p
      exact h2 ▸ (PySem.W.Looks.ld h1).andThen .now
    it:=fun M h XX _=>by
      obtain ⟨bm,N,nm,qn,bs,hdct,sn,sub,ab,col,dd,k0,k1,k2,k3,k5,mN,hC,_⟩:=(O.own XX).obj
      intro A' Q' E' s' k q
      unfold isType loadHead
      exact wpAny_bind (wpAny_loadPart (k _ _ hC) (wpAny_pure q))
    ne:=fun h tp dd' its n sl XX htp=>by
      obtain ⟨bm,N,nm,qn,bs,hdct,sn,sub,ab,col,dd,k0,k1,k2,k3,k5,mN,hC,_⟩:=(O.own XX).obj
      refine Bool.eq_false_iff.mpr fun q => ?_
      have e:C=tp:=Value.ref.inj (beq_iff_eq.mp q)
      subst e
      rw [hC] at htp
      have z2:=congrArg Obj.cls (Option.some.inj htp)
      exact absurd (Value.type.inj z2) (by decide)
    ca:=fun {prog w A E Q s} XX p hq=>by
      obtain ⟨bm,N,nm,qn,bs,hdct,sn,sub,ab,col,dd,k0,k1,k2,k3,k5,mN,hC,hN,hni,TL⟩:=(O.own XX).obj
      obtain ⟨o,h1,h2⟩:=p
      obtain ⟨hp,g,d,t,os⟩:=s
      exact xc_attr hC (TL.hasType (by decide +kernel)) (TL.hasType (by decide +kernel)) (PySem.W.looks_findIn XX Z.cl) (PySem.W.looks_findIn XX Z.ga) (PySem.W.looks_findIn XX Z.gn) h1 h2 hq }
  exact PySem.W.kia_one Zx I.kIn ⟨o,h1,h2⟩ e (fun z=>nomatch z) fun tk=>⟨.bl b,H,I.tok _,rfl,q⟩
end L2
namespace L2
open PySem PySem.Spec PyProof.Rows

theorem joins_mono {M:Model} {A:Around} {E:Value→Shared→Prop} {R R':Str→Shared→Prop} (h:∀ z s,R z s→R' z s):∀ {l:List (Sem Value)} {acc:Str} {s:Shared},Joins M A E l acc R s→Joins M A E l acc R' s
  | [],acc,s,q=>h _ _ q
  | x :: r,acc,s,q=>wpAny_mono q (fun v s1 ⟨y,t,e,hz,q1⟩=>⟨y,t,e,hz,joins_mono h q1⟩) fun _ _ z=>z
section
variable {X:Cx}
noncomputable abbrev TJ:=St→Hp→(Hp→Prop)→Prop
noncomputable def PJ (X:Cx) (es:List Expr) (t:TJ):Prop := ∀ (pins:List (Addr × Obj)) (s:Shared) (σ : St) (H:Hp) (acc:Str) (Q:Hp→Prop),Inv X pins σ H s→acc.length+1000 * es.length≤100000 →
  t σ H Q→Joins (model X.prog X.w) X.A X.xe (evalEach es X.env) acc (fun out s1=>out.length≤100000∧∃ H1,Inv X pins σ H1 s1∧Q H1) s
noncomputable def jNil:TJ:=fun _ H Q=>Q H
noncomputable def jCons (te:TE) (t:TJ):TJ:=fun σ H Q=>te σ H fun x H1=>∃ z,x = .str z∧z.length≤1000∧t σ H1 Q
theorem pj_nil:PJ X [] jNil:=fun pins s σ H acc R I hl h=>⟨by simpa using hl,H,I,h⟩
theorem pj_cons {e:Expr} {es:List Expr} {te:TE} {t:TJ} (he:PE X e te) (hr:PJ X es t) (hs:evalEach (e :: es) X.env=eval e X.env :: evalEach es X.env:=by rfl):PJ X (e :: es) (jCons te t):=by
  intro pins s σ H acc R I hl h
  rw [hs]
  rw [List.length_cons] at hl
  refine thn (he pins s σ H _ I h) fun v s1 ⟨x,H1,I1,rx,z,ex,hz,q⟩ => ?_
  subst ex
  obtain ⟨tk,rfl⟩:=rx
  have hlen:(acc ++ z).length=acc.length+z.length:=Str.length_append _ _
  refine ⟨z,tk,rfl,by rw [hlen];exact Nat.le_trans (by omega:_≤100000) (by decide),hr pins s1 σ H1 (acc ++ z) R I1 (by rw [hlen];omega) q⟩
noncomputable def tJoined (n:Nat) (t:TJ):TE:=fun σ H Q=>n≤90∧t σ H fun H1=>∀ z:Str,Q (.str z) H1
theorem pe_joined {a b:Expr} {r:List Expr} {t:TJ} {pos:Pos} (h:PJ X (a :: b :: r) t):PE X (.JoinedStr (a :: b :: r) pos) (tJoined (a :: b :: r).length t):=by
  intro pins s σ H Q I hw
  obtain ⟨hn,hq⟩:=hw
  refine wpAny_JoinedStr (joins_mono (fun z s1 ⟨hz,H1,I1,q⟩=>⟨Nat.le_trans hz (by decide),⟨.str z,H1,I1.tok _,⟨_,rfl⟩,q z⟩⟩) (h pins s σ H Str.empty _ I ?_ hq))
  show 0+_≤_
  omega
noncomputable def tFmtI (tv:TE):TE:=fun σ H Q=>tv σ H fun x H1=>∃ i,x = .int i∧i.natAbs.log2 < 1920∧Q (.str (toString i)) H1
theorem pe_fmtI {v:Expr} {tv:TE} {pos:Pos} (h:PE X v tv):PE X (.FormattedValue v (-1) none pos) (tFmtI tv):=by
  intro pins s σ H Q I hw
  refine FormattedValue_plain (thn (h pins s σ H _ I hw) fun u s1 ⟨x,H1,I1,rx,i,ex,hi,q⟩ => ?_)
  subst ex
  obtain ⟨tk,rfl⟩:=rx
  exact formatField_int_small hi ⟨.str _,H1,I1.tok _,⟨_,rfl⟩,q⟩
theorem pe_globS {x z:Str} {pos:Pos} (h:∃ t,X.mg x=some (.str z t)) (hg:Gl X x) (hd:(x == ("__debug__" : Str))=false:=by decide):PE X (.Name x pos) (tC (.str z)) :=
  let ⟨t,e⟩:=h;pe_glob hg e ⟨t,rfl⟩ hd
theorem pe_globI {x:Str} {i:Int} {pos:Pos} (h:∃ t,X.mg x=some (.int i t)) (hg:Gl X x) (hd:(x == ("__debug__" : Str))=false:=by decide):PE X (.Name x pos) (tC (.int i)) :=
  let ⟨t,e⟩:=h;pe_glob hg e ⟨t,rfl⟩ hd
end

theorem Fun.okE {P:Program} {w:World} {K:PySem.W.Frag} {mg:Str→Option Value} {base:Heap} {x qual:Str} {st:Stmt} {f:Addr} {fd:FuncData} {N ps:List Str} {k:Nat} {sp:Sp} (F:Fun K x qual st f fd) (S:FnScope N ps (defScope st)) (len:∀ vs H Q E,sp vs H Q E→vs.length=ps.length)
    (hbody:∀ (cdv:Value) (A:Around) (outer:List Env) (s:Shared) (H:Hp) (vs:List V) (Q:VK) (E:XK),Room k (A.deeper (envOfC qual (defScope st) s.heap.objs.size f cdv))→sp vs H Q E →
      ∃ t,PSs (cxOf (CXE P w) P w K mg base N qual (defScope st) f cdv A outer s H E) (defBody st) t∧t { nx:=fun _ H'=>Q .non H',rt:=Q } (start N vs) H):FnOk P w K mg base (CXE P w) (k+1) f fd ps sp:=by
  obtain ⟨oc,od,kV,doc,pm,an,cdv,ct,osl,rfl,lk,hcd⟩:=F.ex
  exact fn_of lk hcd S len fun A outer s H vs Q E hr hsp=>hbody cdv A outer s H vs Q E hr hsp
structure HasE (P:Program) (w:World) (K:PySem.W.Frag) (mg:Str→Option Value) (base:Heap) (k:Nat) (x:Str) (ps:List Str) (sp:Sp):Prop where
  ex:∃ f fd,FnOk P w K mg base (CXE P w) k f fd ps sp∧mg x=some (.ref f)∧PySem.W.keepIn K (.ref f)=true∧Binds K fd ps []
structure HasC (P:Program) (w:World) (K:PySem.W.Frag) (mg:Str→Option Value) (base:Heap) (k:Nat) (x:Str) (C:Addr) (ps:List Str) (sp:Sp):Prop where
  ex:∃ f fd,FnOk P w K mg base (CXE P w) k f fd ps sp∧mg x=some (.ref C)∧Mk K C f∧Binds K fd ps []
structure DefC (K:PySem.W.Frag) (mg:Str→Option Value) (x:Str) (C:Addr) (qual:Str) (st:Stmt) (ps:List Str):Prop where
  ex:∃ f fd,Fun K "__init__" qual st f fd∧mg x=some (.ref C)∧Mk K C f∧Binds K fd ps []
section
variable {P:Program} {w:World} {K:PySem.W.Frag} {mg:Str→Option Value} {base:Heap} {x m qual:Str} {C:Addr} {st:Stmt} {N ps:List Str} {k:Nat} {sp:Sp}
theorem Def.hasE (D:Def K mg x st ps) (S:FnScope N ps (defScope st)) (len:∀ vs H Q E,sp vs H Q E→vs.length=ps.length)
    (hbody:∀ (f:Addr) (cdv:Value) (A:Around) (outer:List Env) (s:Shared) (H:Hp) (vs:List V) (Q:VK) (E:XK),Room k (A.deeper (envOfC x (defScope st) s.heap.objs.size f cdv))→sp vs H Q E →
      ∃ t,PSs (cxOf (CXE P w) P w K mg base N x (defScope st) f cdv A outer s H E) (defBody st) t∧t { nx:=fun _ H'=>Q .non H',rt:=Q } (start N vs) H):HasE P w K mg base (k+1) x ps sp:=by
  obtain ⟨f,fd,F,hm,hb⟩:=D.ex
  exact ⟨f,fd,F.okE S len (hbody f),hm,F.kp,hb⟩
theorem DefC.has (D:DefC K mg x C qual st ps) (S:FnScope N ps (defScope st)) (len:∀ vs H Q E,sp vs H Q E→vs.length=ps.length)
    (hbody:∀ (f:Addr) (cdv:Value) (A:Around) (outer:List Env) (s:Shared) (H:Hp) (vs:List V) (Q:VK) (E:XK),Room k (A.deeper (envOfC qual (defScope st) s.heap.objs.size f cdv))→sp vs H Q E →
      ∃ t,PSs (cxOf (CXE P w) P w K mg base N qual (defScope st) f cdv A outer s H E) (defBody st) t∧t { nx:=fun _ H'=>Q .non H',rt:=Q } (start N vs) H):HasC P w K mg base (k+1) x C ps sp:=by
  obtain ⟨f,fd,F,hm,hb⟩:=D.ex
  exact ⟨f,fd,F.okE S len (hbody f),hm,hb⟩
end
section
variable {X:Cx} {k k':Nat} {x m:Str} {C:Addr} {ps:List Str} {sp:Sp} {p pos apos:Pos} {e o:Expr} {es:List Expr} {ta:TE} {t:TA} {E:XK}
theorem pe_callE (h:HasE X.prog X.w X.K X.mg X.base k x ps sp) (hr:Room k' X.A) (hk:k≤k') (hx:Passes (CXE X.prog X.w) X E) (hg:Gl X x) (ha:PA X (e :: es) t) (hdb:(x == ("__debug__" : Str))=false:=by decide)
    (he:starEach (e :: es) X.env=(false,eval e X.env) :: starEach es X.env:=by rfl) (hpl:(backTo pos (starEach es X.env)).any (·.1)=false:=by rfl) :
    PE X (.Call (.Name x p) (e :: es) [] pos) (tCall sp [] E t):=by
  obtain ⟨f,fd,F,hm,hkp,hb⟩:=h.ex
  exact pe_call F (hr.mono hk) hg hm hkp hb .nil hx ha hdb he hpl
end
end L2
namespace L2
open PySem PySem.Spec PyProof.Rows
structure HasN (P:Program) (w:World) (K:PySem.W.Frag) (mg:Str→Option Value) (base:Heap) (k:Nat) (x:Str) (ps:List Str) (sp:Sp):Prop where
  ex:∃ f fd,FnN P w K mg base k f fd ps sp∧mg x=some (.ref f)∧PySem.W.keepIn K (.ref f)=true∧Binds K fd ps []
theorem Def.hasN {P:Program} {w:World} {K:PySem.W.Frag} {mg:Str→Option Value} {base:Heap} {x:Str} {st:Stmt} {N ps:List Str} {k:Nat} {sp:Sp} (D:Def K mg x st ps) (S:FnScope N ps (defScope st)) (len:∀ vs H Q E,sp vs H Q E→vs.length=ps.length)
    (hbody:∀ (f:Addr) (cdv:Value) (A:Around) (outer:List Env) (s:Shared) (H:Hp) (vs:List V) (Q:VK),RoomN k (A.deeper (envOfC x (defScope st) s.heap.objs.size f cdv))→sp vs H Q E0 →
      ∃ t,PSs ((cxOf CX0 P w K mg base N x (defScope st) f cdv { A with handled:=none } outer s H E0).uncalm (A.deeper (envOfC x (defScope st) s.heap.objs.size f cdv)) fun _ _=>False) (defBody st) t∧t { nx:=fun _ H'=>Q .non H',rt:=Q } (start N vs) H):HasN P w K mg base (k+1) x ps sp:=by
  obtain ⟨f,fd,F,hm,hb⟩:=D.ex
  exact ⟨f,fd,fn_N F S len (hbody f),hm,F.kp,hb⟩
theorem pe_callHN {X:Cx} {k k':Nat} {x:Str} {ps:List Str} {sp:Sp} {p pos:Pos} {e:Expr} {es:List Expr} {t:TA} (h:HasN X.prog X.w X.K X.mg X.base k x ps sp) (hr:RoomN k' X.A) (hk:k≤k') (hg:Gl X x) (ha:PA X (e :: es) t) (hdb:(x == ("__debug__" : Str))=false:=by decide)
    (he:starEach (e :: es) X.env=(false,eval e X.env) :: starEach es X.env:=by rfl) (hpl:(backTo pos (starEach es X.env)).any (·.1)=false:=by rfl) :
    PE X (.Call (.Name x p) (e :: es) [] pos) (tCall sp [] E0 t):=by
  obtain ⟨f,fd,F,hm,hkp,hb⟩:=h.ex
  exact pe_callN F hr hk hg hm hkp hb ha hdb he hpl
theorem boot_ValueError_:bootBuiltins "ValueError" = some (.type "ValueError"):=by rfl
theorem call_isXK {X:Cx} {K:PySem.W.Frag} (hK:X.K=K) {x:Str} {C:Addr} (O:Exc K X.mg x C) (Z:ExcI K C) :
    CallR X (.builtin "isinstance") (fun xs H Q=>∃ ea c cv b,xs = [.ref ea,c]∧H ea=some (XO ea C)∧RelV c cv∧(∀ u v,RelV c u→RelV c v→u=v)∧PySem.W.kitOne K (.ref C) cv=some b∧Q (.bl b) H):=by
  subst hK
  exact call_isX O Z
noncomputable def eqT (xs ys:List V):Bool:=(List.range (min xs.length ys.length)).all (fun j=>eqV (xs.getD j .non) (ys.getD j .non)) && xs.length == ys.length
theorem vals_getD {xs:List V} {us:List Value} (r:Vals xs us) (j:Nat) (h:j < us.length):RelV (xs.getD j .non) us[j]:=by
  have hx:j < xs.length:=by rw [r.length];exact h
  obtain ⟨u,h1,h2⟩:=r.get (List.getElem?_eq_getElem hx)
  rw [List.getElem?_eq_getElem h] at h1
  cases h1
  rw [List.getD_eq_getElem?_getD,List.getElem?_eq_getElem hx]
  exact h2
theorem flat_getD {xs:List V} (f:xs.all flatV=true) (j:Nat) (h:j < xs.length):flatV (xs.getD j .non)=true:=by
  rw [List.getD_eq_getElem?_getD,List.getElem?_eq_getElem h]
  exact List.all_eq_true.mp f _ (List.getElem_mem h)
noncomputable def rEqT (K:PySem.W.Frag):R2:=fun x y H Q=>∃ a b xs ys,x = .ref a∧y = .ref b∧SqT K H a xs∧SqT K H b ys∧xs.all flatV=true∧ys.all flatV=true∧Q (.bl (eqT xs ys)) H
theorem op_eqT {X:Cx} (hu:X.A.units < cLine):OpR X (compareOp .Eq) (rEqT X.K):=by
  intro pins s σ H x y v u Q I rx ry h
  obtain ⟨a,b,xs,ys,rfl,rfl,ha,hb,fx,fy,q⟩:=h
  cases (show v=Value.ref a from rx)
  cases (show u=Value.ref b from ry)
  obtain ⟨its,r1,t1,_⟩:=I.tuple ha
  obtain ⟨its2,r2,t2,_⟩:=I.tuple hb
  have e1:=r1.length
  have e2:=r2.length
  refine SeqAt.eq_tupleAt (e:=fun j=>eqV (xs.getD j .non) (ys.getD j .non)) (items:=its.toArray) (items2:=its2.toArray) ?_ ?_ hu (fun j h1 h2 => ?_) ?_
  · exact t1
  · exact t2
  · have h1':j < its.length:=by simpa using h1
    have h2':j < its2.length:=by simpa using h2
    have z1:=vals_getD r1 j h1'
    have z2:=vals_getD r2 j h2'
    have z:=eqAt_V (A:=X.A.in1) (s:=s) z1 z2 (flat_getD fx j (by omega)) (flat_getD fy j (by omega))
    simpa using z
  · refine ⟨.bl (eqT xs ys),H,I,?_,q⟩
    show Value.bool _=Value.bool _
    unfold eqT
    simp only [List.size_toArray,e1,e2]
end L2
namespace L2
open PySem PySem.Spec PyProof.Rows
noncomputable def Its (x:Str):It:=⟨fun i _=>i < x.length,fun i H v H'=>H'=H∧∃ c,x.cps.toList[i]? = some c∧v = .str ⟨#[c]⟩,fun i _=>x.length≤i⟩
theorem turn_str {P:Program} {w:World} {K:PySem.W.Frag} {tg:Expr} (x:Str) (t:Tok) (it:Addr):Turn P w K tg (Its x) [it] it (fun i h=>h.IsStrIter it "str_ascii_iterator" x t i) where
  mem:=by simp
  obj:=fun i h st b hb=>by
    have e:b=it:=by simpa using hb
    subst e
    obtain ⟨o,e,c,d⟩:=st
    exact ⟨o,e,fun v z=>by rw [d] at z;cases z⟩
  keep:=fun i h h' st k=>by
    obtain ⟨o,e,c,d⟩:=st
    exact ⟨o,k it (by simp) o e,c,d⟩
  item:=by
    intro X hP hw hK hc i pins s σ H E I hf st hg
    subst hP hw hK
    have hi:i < x.cps.size:=hg
    obtain ⟨f0,f1,f2,f3,f4,f5⟩:=hf it (by simp)
    refine wpAny_pyNext_ascii_item st (c:=x.cps[i]) (by simp [hi]) fun h' st' sb => ?_
    have I1:Inv X pins σ H { s with heap:=h',toks:=s.toks+1 }:=I.turned (t':=s.toks+1) (fun b o hb e=>(sb.2 b hb).trans e) f0 f1 f3 f4 f5
    obtain ⟨o,e,c,d⟩:=id st'
    exact ⟨_,rfl,go_of (s := { s with heap:=h',toks:=s.toks+1 }) e c d (by decide) ⟨.str ⟨#[x.cps[i]]⟩,H,I1,⟨_,rfl⟩,⟨rfl,x.cps[i],by simp [hi],rfl⟩,st',fun b hb=>(hf b hb).1⟩⟩
  done:=by
    intro X hP hw hK hc i pins s σ H E I hf st hg
    subst hP hw hK
    have hi:x.cps.size≤i:=hg
    obtain ⟨f0,f1,f2,f3,f4,f5⟩:=hf it (by simp)
    exact wpAny_pyNext_ascii_end (I.ok.hd hc) st (by simp [hi]) fun h' eb=>⟨rfl,I.turned (t':=s.toks) (fun b o hb e=>eb b o hb e) f0 f1 f3 f4 f5⟩
  self:=fun _ _ _ _ _ st h=>wpAny_pyIter_striter_ascii st h
noncomputable def iStr (tl:TE):TI:=fun σ H R=>tl σ H fun x H1=>∃ z:Str,x = .str z∧z.cps.all (· < 128)=true∧R (Its z) H1
theorem pi_str {X:Cx} {tg l:Expr} {tl:TE} (hl:PE X l tl):PI X tg l (iStr tl):=by
  intro pins s σ H R I h
  refine thn (hl pins s σ H _ I h) fun v s1 ⟨x,H1,I1,r1,q1⟩ => ?_
  obtain ⟨z,e,ha,q⟩:=q1
  subst e
  obtain ⟨tk,rfl⟩:=r1
  refine wpAny_pyIter_ascii ha ?_
  refine ⟨s1.heap.objs.size, [s1.heap.objs.size],_,_,H1,rfl,I1.kept (t':=s1.toks) fun b o e=>Heap.get?_push_of_some _ e,turn_str z tk _,⟨_,Heap.get?_push_size _ rfl,rfl,rfl⟩,fun b hb => ?_,q⟩
  have e:b=s1.heap.objs.size:=by simpa using hb
  subst e
  exact I1.fpOk (Nat.le_refl _) (I1.hok.fresh (Nat.le_refl _))
theorem for_str {z:Str} {g:TG} {tb:TS} {D:Ends} {σ : St} {H:Hp} (Pv:Nat→St→Hp→Prop) (h0:Pv 0 σ H)
    (hs:∀ i c σ H,z.cps.toList[i]? = some c→Pv i σ H→g (.str ⟨#[c]⟩) σ H fun σ2 H2=>tb { D with nx:=Pv (i+1),ct:=Pv (i+1),bk:=D.nx } σ2 H2) (hd:∀ σ H,Pv z.length σ H→D.nx σ H) :
    ∃ W:Nat→Nat→St→Hp→Prop,(∃ m,W 0 m σ H)∧∀ i m σ H,W i m σ H →
      ((Its z).stop i H∧D.nx σ H)∨((Its z).go i H∧∃ N:St→Hp→Prop,(∀ σ' H',N σ' H'→∃ m',m' < m∧W (i+1) m' σ' H')∧∀ x H',(Its z).yld i H x H'→g x σ H' fun σ2 H2=>tb { D with nx:=N,ct:=N,bk:=D.nx } σ2 H2):=by
  refine ⟨fun i m σ H=>m=z.length - i∧i≤z.length∧Pv i σ H,⟨z.length,by simp,Nat.zero_le _,h0⟩,?_⟩
  rintro i m σ H ⟨rfl,hi,p⟩
  by_cases hlt:i < z.length
  · refine .inr ⟨hlt,Pv (i+1),fun σ' H' p'=>⟨z.length - (i+1),by omega,rfl,hlt,p'⟩,fun x H' y => ?_⟩
    obtain ⟨e,c,hc,rfl⟩:=y
    subst e
    exact hs i c σ _ hc p
  · have e:i=z.length:=by omega
    subst e
    exact .inl ⟨Nat.le_refl _,hd σ H p⟩
section
variable {X:Cx}
noncomputable def rNeT (K:PySem.W.Frag):R2:=fun x y H Q=>∃ a b xs ys,x = .ref a∧y = .ref b∧SqT K H a xs∧SqT K H b ys∧xs.all flatV=true∧ys.all flatV=true∧Q (.bl (!eqT xs ys)) H
theorem op_neT (hu:X.A.units < cLine):OpR X (compareOp .NotEq) (rNeT X.K):=by
  intro pins s σ H x y v u Q I rx ry h
  obtain ⟨a,b,xs,ys,rfl,rfl,ha,hb,fx,fy,q⟩:=h
  cases (show v=Value.ref a from rx)
  cases (show u=Value.ref b from ry)
  obtain ⟨its,r1,t1,_⟩:=I.tuple ha
  obtain ⟨its2,r2,t2,_⟩:=I.tuple hb
  have e1:=r1.length
  have e2:=r2.length
  refine SeqAt.RcNeAt.tuples (e:=fun j=>eqV (xs.getD j .non) (ys.getD j .non)) (items:=its.toArray) (items2:=its2.toArray) t1 t2 hu (fun j h1 h2 => ?_) _ _ _ _ ?_
  · have h1':j < its.length:=by simpa using h1
    have h2':j < its2.length:=by simpa using h2
    have z1:=vals_getD r1 j h1'
    have z2:=vals_getD r2 j h2'
    have z:=eqAt_V (A:=X.A.in1) (s:=s) z1 z2 (flat_getD fx j (by omega)) (flat_getD fy j (by omega))
    simpa using z
  · refine ⟨.bl (!eqT xs ys),H,I,?_,q⟩
    show Value.bool _=Value.bool _
    unfold eqT
    simp only [List.size_toArray,e1,e2]
end
end L2
namespace L2
open PySem PySem.Spec PyProof.Rows
end L2
namespace L2
open PySem PySem.Spec PyProof.Rows

inductive D where
  | non | int (i:Int) | str (x:Str) | tup (ds:List D) | lst (ds:List D)
noncomputable instance:DecidableEq D:=fun _ _=>Classical.propDecidable _
mutual
noncomputable def D.deep:D→Nat
  | .tup ds=>D.deeps ds+1
  | .lst ds=>D.deeps ds+1
  | .non=>0
  | .int _=>0
  | .str _=>0
noncomputable def D.deeps:List D→Nat
  | []=>0
  | d :: ds=>max d.deep (D.deeps ds)
end
theorem deeps_le:∀ {ds:List D} {d:D},d∈ds→d.deep≤D.deeps ds
  | e :: ds,d,h=>by
    rw [D.deeps]
    rcases List.mem_cons.mp h with rfl | h
    · omega
    · have:=deeps_le h;omega
mutual
noncomputable def DenR (h:Heap):D→Value→Prop
  | .non,u=>u=Value.none
  | .int i,u=>(∃ t,u=Value.int i t)∨∃ b,u=Value.bool b∧i=(if b then 1 else 0)
  | .str x,u=>∃ t,u=Value.str x t
  | .tup ds,u=>∃ a us,u=Value.ref a∧h.IsTuple a us.toArray∧DenRs h ds us
  | .lst ds,u=>∃ a us,u=Value.ref a∧h.IsList a us.toArray∧DenRs h ds us
noncomputable def DenRs (h:Heap):List D→List Value→Prop
  | [],us=>us = []
  | d :: ds,us=>∃ u us',us=u :: us'∧DenR h d u∧DenRs h ds us'
end
mutual
noncomputable def Den (H:Hp):D→V→Prop
  | .non,v=>v = .non
  | .int i,v=>v = .int i∨∃ b,v = .bl b∧i=(if b then 1 else 0)
  | .str x,v=>v = .str x
  | .tup ds,v=>∃ a vs,v = .ref a∧H a=some (.tup vs)∧Dens H ds vs
  | .lst ds,v=>∃ a vs,v = .ref a∧H a=some (.lst vs)∧Dens H ds vs
noncomputable def Dens (H:Hp):List D→List V→Prop
  | [],vs=>vs = []
  | d :: ds,vs=>∃ v vs',vs=v :: vs'∧Den H d v∧Dens H ds vs'
end
theorem denRs_len {h:Heap}:∀ {ds:List D} {us:List Value},DenRs h ds us→us.length=ds.length
  | [],us,r=>by rw [DenRs] at r;subst r;rfl
  | d :: ds,us,r=>by
    rw [DenRs] at r
    obtain ⟨u,us',rfl,_,r⟩:=r
    rw [List.length_cons,List.length_cons,denRs_len r]
theorem denRs_at {h:Heap}:∀ {ds:List D} {us:List Value} {j:Nat} {d:D},DenRs h ds us→ds[j]? = some d→∃ u,us[j]? = some u∧DenR h d u
  | [],us,j,d,r,e=>by simp at e
  | c :: ds,us,0,d,r,e=>by
    rw [DenRs] at r
    obtain ⟨u,us',rfl,r1,_⟩:=r
    simp at e;subst e
    exact ⟨u,rfl,r1⟩
  | c :: ds,us,j+1,d,r,e=>by
    rw [DenRs] at r
    obtain ⟨u,us',rfl,_,r⟩:=r
    obtain ⟨u',e',r'⟩:=denRs_at (j:=j) (d:=d) r (by simpa using e)
    exact ⟨u',by simpa using e',r'⟩
theorem dens_cons {H:Hp} {d:D} {v:V} {ds:List D} {vs:List V} (r:Den H d v) (q:Dens H ds vs):Dens H (d :: ds) (v :: vs):=by
  rw [Dens];exact ⟨v,vs,rfl,r,q⟩
theorem dens_nil {H:Hp}:Dens H [] []:=by rw [Dens]
mutual
theorem den_raw {P:Program} {w:World} {H:Hp} {h:Heap} (ok:HOk P w H h):∀ {d:D} {v:V} {u:Value},Den H d v→RelV v u→DenR h d u
  | .non,v,u,r,q=>by rw [Den] at r;subst r;rw [DenR];exact q
  | .int i,v,u,r,q=>by
    rw [Den] at r
    rw [DenR]
    rcases r with rfl | ⟨b,rfl,e⟩
    · exact .inl q
    · exact .inr ⟨b,q,e⟩
  | .str x,v,u,r,q=>by rw [Den] at r;subst r;rw [DenR];exact q
  | .tup ds,v,u,r,q=>by
    rw [Den] at r
    obtain ⟨a,vs,rfl,e,r⟩:=r
    rw [DenR]
    obtain ⟨_,its,rv,p⟩:=(show ObjOk P w H h a (.tup vs) from ok a _ e)
    exact ⟨a,its,q,p.tup,dens_raw ok r rv⟩
  | .lst ds,v,u,r,q=>by
    rw [Den] at r
    obtain ⟨a,vs,rfl,e,r⟩:=r
    rw [DenR]
    obtain ⟨_,its,n,rv,p⟩:=(show ObjOk P w H h a (.lst vs) from ok a _ e)
    exact ⟨a,its,q,⟨_,p,rfl,n,rfl⟩,dens_raw ok r rv⟩
theorem dens_raw {P:Program} {w:World} {H:Hp} {h:Heap} (ok:HOk P w H h):∀ {ds:List D} {vs:List V} {us:List Value},Dens H ds vs→Vals vs us→DenRs h ds us
  | [],vs,us,r,q=>by rw [Dens] at r;subst r;cases q;rw [DenRs]
  | d :: ds,vs,us,r,q=>by
    rw [Dens] at r
    obtain ⟨v,vs',rfl,r1,r⟩:=r
    cases q with
    | cons q1 q2 =>
      rw [DenRs]
      exact ⟨_,_,rfl,den_raw ok r1 q1,dens_raw ok r q2⟩
end
theorem tup_seq {h:Heap} {a:Addr} {x y:Array Value} (p:h.IsTuple a x) (q:h.IsTuple a y):x=y:=by
  obtain ⟨o,e,_,n,d⟩:=p
  obtain ⟨o',e',_,n',d'⟩:=q
  rw [e] at e';cases e'
  rw [d] at d'
  injection d'
theorem lst_seq {h:Heap} {a:Addr} {x y:Array Value} (p:h.IsList a x) (q:h.IsList a y):x=y:=by
  obtain ⟨o,e,_,n,d⟩:=p
  obtain ⟨o',e',_,n',d'⟩:=q
  rw [e] at e';cases e'
  rw [d] at d'
  injection d'
theorem lst_tup {h:Heap} {a:Addr} {x y:Array Value} (p:h.IsList a x) (q:h.IsTuple a y):False:=by
  obtain ⟨o,e,c,n,d⟩:=p
  obtain ⟨o',e',c',n',d'⟩:=q
  rw [e] at e';cases e'
  rw [c] at c'
  exact absurd (Value.type.inj c') (by decide)
mutual
theorem denR_inj {h:Heap}:∀ {d e:D} {u:Value},DenR h d u→DenR h e u→d=e
  | .non,e,u,r,q=>by
    rw [DenR] at r;subst r
    cases e with
    | non=>rfl
    | int i=>rw [DenR] at q;rcases q with ⟨t,z⟩ | ⟨b,z,_⟩ <;> cases z
    | str x=>rw [DenR] at q;obtain ⟨t,z⟩:=q;cases z
    | tup es=>rw [DenR] at q;obtain ⟨a,us,z,_⟩:=q;cases z
    | lst es=>rw [DenR] at q;obtain ⟨a,us,z,_⟩:=q;cases z
  | .int i,e,u,r,q=>by
    rw [DenR] at r
    cases e with
    | non=>rw [DenR] at q;subst q;rcases r with ⟨t,z⟩ | ⟨b,z,_⟩ <;> cases z
    | int j =>
      rw [DenR] at q
      rcases r with ⟨t,rfl⟩ | ⟨b,rfl,hb⟩ <;> rcases q with ⟨t',z⟩ | ⟨b',z,hb'⟩ <;> cases z
      · rfl
      · rw [hb,hb']
    | str x=>rw [DenR] at q;obtain ⟨t,rfl⟩:=q;rcases r with ⟨t,z⟩ | ⟨b,z,_⟩ <;> cases z
    | tup es=>rw [DenR] at q;obtain ⟨a,us,rfl,_⟩:=q;rcases r with ⟨t,z⟩ | ⟨b,z,_⟩ <;> cases z
    | lst es=>rw [DenR] at q;obtain ⟨a,us,rfl,_⟩:=q;rcases r with ⟨t,z⟩ | ⟨b,z,_⟩ <;> cases z
  | .str x,e,u,r,q=>by
    rw [DenR] at r
    obtain ⟨t,rfl⟩:=r
    cases e with
    | non=>rw [DenR] at q;cases q
    | int i=>rw [DenR] at q;rcases q with ⟨t,z⟩ | ⟨b,z,_⟩ <;> cases z
    | str x=>rw [DenR] at q;obtain ⟨t,z⟩:=q;cases z;rfl
    | tup es=>rw [DenR] at q;obtain ⟨a,us,z,_⟩:=q;cases z
    | lst es=>rw [DenR] at q;obtain ⟨a,us,z,_⟩:=q;cases z
  | .tup ds,e,u,r,q=>by
    rw [DenR] at r
    obtain ⟨a,us,rfl,p,r⟩:=r
    cases e with
    | non=>rw [DenR] at q;cases q
    | int i=>rw [DenR] at q;rcases q with ⟨t,z⟩ | ⟨b,z,_⟩ <;> cases z
    | str x=>rw [DenR] at q;obtain ⟨t,z⟩:=q;cases z
    | tup es =>
      rw [DenR] at q;obtain ⟨a',us',z,p',q⟩:=q;cases z
      have e:us=us':=by have:=tup_seq p p';simpa using this
      subst e
      rw [denRs_inj r q]
    | lst es=>rw [DenR] at q;obtain ⟨a',us',z,p',_⟩:=q;cases z;exact absurd p (fun p=>lst_tup p' p)
  | .lst ds,e,u,r,q=>by
    rw [DenR] at r
    obtain ⟨a,us,rfl,p,r⟩:=r
    cases e with
    | non=>rw [DenR] at q;cases q
    | int i=>rw [DenR] at q;rcases q with ⟨t,z⟩ | ⟨b,z,_⟩ <;> cases z
    | str x=>rw [DenR] at q;obtain ⟨t,z⟩:=q;cases z
    | tup es=>rw [DenR] at q;obtain ⟨a',us',z,p',_⟩:=q;cases z;exact absurd p (fun p=>lst_tup p p')
    | lst es =>
      rw [DenR] at q;obtain ⟨a',us',z,p',q⟩:=q;cases z
      have e:us=us':=by have:=lst_seq p p';simpa using this
      subst e
      rw [denRs_inj r q]
theorem denRs_inj {h:Heap}:∀ {ds es:List D} {us:List Value},DenRs h ds us→DenRs h es us→ds=es
  | [],es,us,r,q=>by
    rw [DenRs] at r;subst r
    cases es with
    | nil=>rfl
    | cons e es=>rw [DenRs] at q;obtain ⟨u,us',z,_⟩:=q;cases z
  | d :: ds,es,us,r,q=>by
    rw [DenRs] at r
    obtain ⟨u,us',rfl,r1,r⟩:=r
    cases es with
    | nil=>rw [DenRs] at q;cases q
    | cons e es =>
      rw [DenRs] at q;obtain ⟨u',us'',z,q1,q⟩:=q
      cases z
      rw [denR_inj r1 q1,denRs_inj r q]
end
theorem dec_true {p:Prop} [Decidable p] {b:Bool} (h:p↔b=true):b=decide p:=by
  cases b with
  | true=>exact (decide_eq_true (h.mpr rfl)).symm
  | false=>exact (decide_eq_false fun z=>Bool.false_ne_true (h.mp z)).symm
theorem all_eq (ds es:List D):((List.range (min ds.length es.length)).all (fun j=>decide (ds[j]? = es[j]?)) && ds.length == es.length)=decide (ds=es):=by
  refine dec_true ⟨fun h=>by subst h;simp,fun h => ?_⟩
  rw [Bool.and_eq_true,List.all_eq_true] at h
  have hl:ds.length=es.length:=eq_of_beq h.2
  refine List.ext_getElem? fun j => ?_
  by_cases hj:j < ds.length
  · exact of_decide_eq_true (h.1 j (List.mem_range.mpr (by omega)))
  · rw [List.getElem?_eq_none (by omega),List.getElem?_eq_none (by omega)]
theorem all_eq' (ds es:List D) (hl:ds.length=es.length):(List.range ds.length).all (fun j=>decide (ds[j]? = es[j]?))=decide (ds=es):=by
  have:=all_eq ds es
  rw [← hl,Nat.min_self] at this
  simpa using this
section
open SeqAt
variable {A:Around} {s:Shared}
theorem eqAt_cast {u v:Value} {b c:Bool} (h:EqAt A s u v b) (e:b=c):EqAt A s u v c:=e ▸ h
theorem eqAt_D:∀ (n:Nat) {d e:D} {A:Around} {u v:Value},d.deep≤n→DenR s.heap d u→DenR s.heap e v→A.units+n < cLine→EqAt A s u v (decide (d=e)):=by
  intro n
  induction n with
  | zero => ?_
  | succ n ih => ?_
  all_goals intro d e A u v hn r q hu
  all_goals have hu0:A.units < cLine:=by omega
  all_goals cases d with
    | non =>
      rw [DenR] at r;subst r
      cases e with
      | non=>rw [DenR] at q;subst q;exact eqAt_cast (EqAt.same _) (decide_eq_true rfl).symm
      | int j =>
        rw [DenR] at q
        rcases q with ⟨t,rfl⟩ | ⟨b,rfl,_⟩
        · exact eqAt_cast (EqAt.none_int j t) (decide_eq_false (fun z=>nomatch z)).symm
        · exact eqAt_cast (EqAt.none_bool b) (decide_eq_false (fun z=>nomatch z)).symm
      | str y=>rw [DenR] at q;obtain ⟨t,rfl⟩:=q;exact eqAt_cast (EqAt.none_str y t) (decide_eq_false (fun z=>nomatch z)).symm
      | tup es=>rw [DenR] at q;obtain ⟨a,us,rfl,p,_⟩:=q;exact eqAt_cast (EqAt.none_tuple p hu0) (decide_eq_false (fun z=>nomatch z)).symm
      | lst es=>rw [DenR] at q;obtain ⟨a,us,rfl,p,_⟩:=q;exact eqAt_cast (EqAt.none_list p hu0) (decide_eq_false (fun z=>nomatch z)).symm
    | int i =>
      rw [DenR] at r
      cases e with
      | non =>
        rw [DenR] at q;subst q
        rcases r with ⟨t,rfl⟩ | ⟨b,rfl,_⟩
        · exact eqAt_cast (EqAt.int_none i t) (decide_eq_false (fun z=>nomatch z)).symm
        · exact eqAt_cast (EqAt.bool_none b) (decide_eq_false (fun z=>nomatch z)).symm
      | int j =>
        rw [DenR] at q
        have key:∀ x y:Int,(x == y)=decide (D.int x=D.int y):=fun x y=>dec_true ⟨fun z=>by cases z;simp,fun z=>by rw [eq_of_beq z]⟩
        rcases r with ⟨t,rfl⟩ | ⟨b,rfl,hb⟩ <;> rcases q with ⟨t',rfl⟩ | ⟨b',rfl,hb'⟩
        · exact eqAt_cast (EqAt.int_int i t j t') (key i j)
        · rw [hb'];exact eqAt_cast (EqAt.int_bool i t b') (key _ _)
        · rw [hb];exact eqAt_cast (EqAt.bool_int b j t') (key _ _)
        · rw [hb,hb'];exact eqAt_cast (EqAt.bool_bool b b') (by rw [← key];cases b <;> cases b' <;> rfl)
      | str y =>
        rw [DenR] at q;obtain ⟨t,rfl⟩:=q
        rcases r with ⟨t',rfl⟩ | ⟨b,rfl,_⟩
        · exact eqAt_cast (EqAt.int_str i t' y t) (decide_eq_false (fun z=>nomatch z)).symm
        · exact eqAt_cast (EqAt.bool_str b y t) (decide_eq_false (fun z=>nomatch z)).symm
      | tup es =>
        rw [DenR] at q;obtain ⟨a,us,rfl,p,_⟩:=q
        rcases r with ⟨t',rfl⟩ | ⟨b,rfl,_⟩
        · exact eqAt_cast (EqAt.int_tuple i t' p hu0) (decide_eq_false (fun z=>nomatch z)).symm
        · exact eqAt_cast (EqAt.bool_tuple b p hu0) (decide_eq_false (fun z=>nomatch z)).symm
      | lst es =>
        rw [DenR] at q;obtain ⟨a,us,rfl,p,_⟩:=q
        rcases r with ⟨t',rfl⟩ | ⟨b,rfl,_⟩
        · exact eqAt_cast (EqAt.int_list i t' p hu0) (decide_eq_false (fun z=>nomatch z)).symm
        · exact eqAt_cast (EqAt.bool_list b p hu0) (decide_eq_false (fun z=>nomatch z)).symm
    | str x =>
      rw [DenR] at r;obtain ⟨t',rfl⟩:=r
      cases e with
      | non=>rw [DenR] at q;subst q;exact eqAt_cast (EqAt.str_none x t') (decide_eq_false (fun z=>nomatch z)).symm
      | int j =>
        rw [DenR] at q
        rcases q with ⟨t,rfl⟩ | ⟨b,rfl,_⟩
        · exact eqAt_cast (EqAt.str_int x t' j t) (decide_eq_false (fun z=>nomatch z)).symm
        · exact eqAt_cast (EqAt.str_bool x t' b) (decide_eq_false (fun z=>nomatch z)).symm
      | str y =>
        rw [DenR] at q;obtain ⟨t,rfl⟩:=q
        exact eqAt_cast (EqAt.str_str x t' y t) (dec_true ⟨fun z=>by cases z;simp,fun z=>by rw [eq_of_beq z]⟩)
      | tup es=>rw [DenR] at q;obtain ⟨a,us,rfl,p,_⟩:=q;exact eqAt_cast (EqAt.str_tuple x t' p hu0) (decide_eq_false (fun z=>nomatch z)).symm
      | lst es=>rw [DenR] at q;obtain ⟨a,us,rfl,p,_⟩:=q;exact eqAt_cast (EqAt.str_list x t' p hu0) (decide_eq_false (fun z=>nomatch z)).symm
    | tup ds => ?_
    | lst ds => ?_
  · rw [D.deep] at hn;omega
  · rw [D.deep] at hn;omega
  · rw [D.deep] at hn
    have r0:=r
    rw [DenR] at r
    obtain ⟨a,us,rfl,p,r⟩:=r
    cases e with
    | non=>rw [DenR] at q;subst q;exact eqAt_cast (EqAt.tuple_none p hu0) (decide_eq_false (fun z=>nomatch z)).symm
    | int j =>
      rw [DenR] at q
      rcases q with ⟨t,rfl⟩ | ⟨b,rfl,_⟩
      · exact eqAt_cast (EqAt.tuple_int j t p hu0) (decide_eq_false (fun z=>nomatch z)).symm
      · exact eqAt_cast (EqAt.tuple_bool b p hu0) (decide_eq_false (fun z=>nomatch z)).symm
    | str y=>rw [DenR] at q;obtain ⟨t,rfl⟩:=q;exact eqAt_cast (EqAt.tuple_str y t p hu0) (decide_eq_false (fun z=>nomatch z)).symm
    | tup es =>
      have q0:=q
      rw [DenR] at q
      obtain ⟨b,us',rfl,p',q⟩:=q
      by_cases hab:a=b
      · subst hab
        rw [denR_inj r0 q0]
        exact eqAt_cast (EqAt.same _) (decide_eq_true rfl).symm
      · refine eqAt_cast (EqAt.of_refs hab (RcAt.tuples (e:=fun j=>decide (ds[j]? = es[j]?)) p p' hu0 fun j h1 h2 => ?_)) ?_
        · have l1:=denRs_len r
          have l2:=denRs_len q
          have h1':j < us.length:=by simpa using h1
          have h2':j < us'.length:=by simpa using h2
          have e1:=List.getElem?_eq_getElem (l:=ds) (i:=j) (by omega)
          have e2:=List.getElem?_eq_getElem (l:=es) (i:=j) (by omega)
          obtain ⟨u,f1,g1⟩:=denRs_at r e1
          obtain ⟨v,f2,g2⟩:=denRs_at q e2
          have z1:us.toArray[j]=u:=by rw [List.getElem?_eq_getElem h1'] at f1;simpa using f1
          have z2:us'.toArray[j]=v:=by rw [List.getElem?_eq_getElem h2'] at f2;simpa using f2
          rw [z1,z2]
          have:=ih (d:=ds[j]) (e:=es[j]) (A:=A.in1) (by have:=deeps_le (List.getElem_mem (l:=ds) (n:=j) (by omega));omega) g1 g2 (by show A.units+1+n < cLine;omega)
          refine eqAt_cast this ?_
          rw [e1,e2]
          exact decide_eq_decide.mpr ⟨fun z=>by rw [z],fun z=>Option.some.inj z⟩
        · have:=all_eq ds es
          simp only [List.size_toArray,denRs_len r,denRs_len q]
          rw [this]
          exact decide_eq_decide.mpr ⟨fun z=>by rw [z],fun z=>by injection z⟩
    | lst es=>rw [DenR] at q;obtain ⟨b,us',rfl,p',_⟩:=q;exact eqAt_cast (EqAt.tuple_list p p' hu0) (decide_eq_false (fun z=>nomatch z)).symm
  · rw [D.deep] at hn
    have r0:=r
    rw [DenR] at r
    obtain ⟨a,us,rfl,p,r⟩:=r
    cases e with
    | non=>rw [DenR] at q;subst q;exact eqAt_cast (EqAt.list_none p hu0) (decide_eq_false (fun z=>nomatch z)).symm
    | int j =>
      rw [DenR] at q
      rcases q with ⟨t,rfl⟩ | ⟨b,rfl,_⟩
      · exact eqAt_cast (EqAt.list_int j t p hu0) (decide_eq_false (fun z=>nomatch z)).symm
      · exact eqAt_cast (EqAt.list_bool b p hu0) (decide_eq_false (fun z=>nomatch z)).symm
    | str y=>rw [DenR] at q;obtain ⟨t,rfl⟩:=q;exact eqAt_cast (EqAt.list_str y t p hu0) (decide_eq_false (fun z=>nomatch z)).symm
    | tup es=>rw [DenR] at q;obtain ⟨b,us',rfl,p',_⟩:=q;exact eqAt_cast (EqAt.list_tuple p p' hu0) (decide_eq_false (fun z=>nomatch z)).symm
    | lst es =>
      have q0:=q
      rw [DenR] at q
      obtain ⟨b,us',rfl,p',q⟩:=q
      have l1:=denRs_len r
      have l2:=denRs_len q
      by_cases hab:a=b
      · subst hab
        rw [denR_inj r0 q0]
        exact eqAt_cast (EqAt.same _) (decide_eq_true rfl).symm
      by_cases hl:ds.length=es.length
      · refine eqAt_cast (EqAt.of_refs hab (RcAt.lists (e:=fun j=>decide (ds[j]? = es[j]?)) p p' (by simp only [List.size_toArray];omega) hu0 fun j h1 h2 => ?_)) ?_
        · have h1':j < us.length:=by simpa using h1
          have h2':j < us'.length:=by simpa using h2
          have e1:=List.getElem?_eq_getElem (l:=ds) (i:=j) (by omega)
          have e2:=List.getElem?_eq_getElem (l:=es) (i:=j) (by omega)
          obtain ⟨u,f1,g1⟩:=denRs_at r e1
          obtain ⟨v,f2,g2⟩:=denRs_at q e2
          have z1:us.toArray[j]=u:=by rw [List.getElem?_eq_getElem h1'] at f1;simpa using f1
          have z2:us'.toArray[j]=v:=by rw [List.getElem?_eq_getElem h2'] at f2;simpa using f2
          rw [z1,z2]
          have:=ih (d:=ds[j]) (e:=es[j]) (A:=A.in1) (by have:=deeps_le (List.getElem_mem (l:=ds) (n:=j) (by omega));omega) g1 g2 (by show A.units+1+n < cLine;omega)
          refine eqAt_cast this ?_
          rw [e1,e2]
          exact decide_eq_decide.mpr ⟨fun z=>by rw [z],fun z=>Option.some.inj z⟩
        · have:=all_eq' ds es hl
          simp only [List.size_toArray,l1]
          rw [this]
          exact decide_eq_decide.mpr ⟨fun z=>by rw [z],fun z=>by injection z⟩
      · refine eqAt_cast (EqAt.of_refs hab (RcAt.lists_lengths p p' (by simp only [List.size_toArray];simp;omega) hu0)) ?_
        exact (decide_eq_false (fun z=>hl (by injection z with z;rw [z]))).symm
end
section
variable {X:Cx}
inductive J_rEqD (x:V) (y:V) (H:Hp) (Q:VK):Prop
  | mk:∀ ds es,(((Den H (.tup ds) x∧Den H (.tup es) y)∨(Den H (.lst ds) x∧Den H (.lst es) y)))→(D.deeps ds≤150)→(Q (.bl (decide (ds=es))) H)→J_rEqD x y H Q
noncomputable def rEqD:R2:=fun x y H Q=>J_rEqD x y H Q
inductive J_rNeD (x:V) (y:V) (H:Hp) (Q:VK):Prop
  | mk:∀ ds es,(((Den H (.tup ds) x∧Den H (.tup es) y)∨(Den H (.lst ds) x∧Den H (.lst es) y)))→(D.deeps ds≤150)→(Q (.bl (!decide (ds=es))) H)→J_rNeD x y H Q
noncomputable def rNeD:R2:=fun x y H Q=>J_rNeD x y H Q
theorem deep_items {A:Around} {s:Shared} {ds es:List D} {us us':List Value} (hu:A.units+151 < cLine) (hd:D.deeps ds≤150) (r:DenRs s.heap ds us) (q:DenRs s.heap es us') (j:Nat) (h1:j < us.toArray.size) (h2:j < us'.toArray.size) :
    SeqAt.EqAt A.in1 s us.toArray[j] us'.toArray[j] (decide (ds[j]? = es[j]?)):=by
  have l1:=denRs_len r
  have l2:=denRs_len q
  have h1':j < us.length:=by simpa using h1
  have h2':j < us'.length:=by simpa using h2
  have e1:=List.getElem?_eq_getElem (l:=ds) (i:=j) (by omega)
  have e2:=List.getElem?_eq_getElem (l:=es) (i:=j) (by omega)
  obtain ⟨u,f1,g1⟩:=denRs_at r e1
  obtain ⟨v,f2,g2⟩:=denRs_at q e2
  have z1:us.toArray[j]=u:=by rw [List.getElem?_eq_getElem h1'] at f1;simpa using f1
  have z2:us'.toArray[j]=v:=by rw [List.getElem?_eq_getElem h2'] at f2;simpa using f2
  rw [z1,z2]
  refine eqAt_cast (eqAt_D 150 (by have:=deeps_le (List.getElem_mem (l:=ds) (n:=j) (by omega));omega) g1 g2 (by show A.units+1+150 < cLine;omega)) ?_
  rw [e1,e2]
  exact decide_eq_decide.mpr ⟨fun z=>by rw [z],fun z=>Option.some.inj z⟩
theorem op_eqD (hu:X.A.units+151 < cLine):OpR X (compareOp .Eq) rEqD:=by
  intro pins s σ H x y v u Q I rx ry h
  obtain ⟨ds,es,hh,hd,q⟩:=h
  have hu0:X.A.units < cLine:=by omega
  rcases hh with ⟨h1,h2⟩ | ⟨h1,h2⟩
  · have g1:=den_raw I.hok h1 rx
    have g2:=den_raw I.hok h2 ry
    rw [DenR] at g1 g2
    obtain ⟨a,us,rfl,p,r⟩:=g1
    obtain ⟨b,us',rfl,p',r'⟩:=g2
    refine SeqAt.eq_tupleAt (e:=fun j=>decide (ds[j]? = es[j]?)) p p' hu0 (deep_items hu hd r r') ?_
    refine ⟨.bl (decide (ds=es)),H,I,?_,q⟩
    have:=all_eq ds es
    simp only [List.size_toArray,denRs_len r,denRs_len r']
    rw [this]
    rfl
  · have g1:=den_raw I.hok h1 rx
    have g2:=den_raw I.hok h2 ry
    rw [DenR] at g1 g2
    obtain ⟨a,us,rfl,p,r⟩:=g1
    obtain ⟨b,us',rfl,p',r'⟩:=g2
    have l1:=denRs_len r
    have l2:=denRs_len r'
    by_cases hl:ds.length=es.length
    · refine SeqAt.eq_listAt (e:=fun j=>decide (ds[j]? = es[j]?)) p p' (by simp only [List.size_toArray];omega) hu0 (deep_items hu hd r r') ?_
      refine ⟨.bl (decide (ds=es)),H,I,?_,q⟩
      have:=all_eq' ds es hl
      simp only [List.size_toArray,l1]
      rw [this]
      rfl
    · refine SeqAt.eq_list_lengthsAt p p' (by simp only [List.size_toArray];simp;omega) hu0 ⟨.bl (decide (ds=es)),H,I,?_,q⟩
      rw [decide_eq_false (fun z=>hl (by rw [z]))]
      rfl
theorem op_neD (hu:X.A.units+151 < cLine):OpR X (compareOp .NotEq) rNeD:=by
  intro pins s σ H x y v u Q I rx ry h
  obtain ⟨ds,es,hh,hd,q⟩:=h
  have hu0:X.A.units < cLine:=by omega
  rcases hh with ⟨h1,h2⟩ | ⟨h1,h2⟩
  · have g1:=den_raw I.hok h1 rx
    have g2:=den_raw I.hok h2 ry
    rw [DenR] at g1 g2
    obtain ⟨a,us,rfl,p,r⟩:=g1
    obtain ⟨b,us',rfl,p',r'⟩:=g2
    refine SeqAt.RcNeAt.tuples (e:=fun j=>decide (ds[j]? = es[j]?)) p p' hu0 (deep_items hu hd r r') _ _ _ _ ?_
    refine ⟨.bl (!decide (ds=es)),H,I,?_,q⟩
    have:=all_eq ds es
    simp only [List.size_toArray,denRs_len r,denRs_len r']
    rw [this]
    rfl
  · have g1:=den_raw I.hok h1 rx
    have g2:=den_raw I.hok h2 ry
    rw [DenR] at g1 g2
    obtain ⟨a,us,rfl,p,r⟩:=g1
    obtain ⟨b,us',rfl,p',r'⟩:=g2
    have l1:=denRs_len r
    have l2:=denRs_len r'
    by_cases hl:ds.length=es.length
    · refine SeqAt.RcNeAt.lists (e:=fun j=>decide (ds[j]? = es[j]?)) p p' (by simp only [List.size_toArray];omega) hu0 (deep_items hu hd r r') _ _ _ _ ?_
      refine ⟨.bl (!decide (ds=es)),H,I,?_,q⟩
      have:=all_eq' ds es hl
      simp only [List.size_toArray,l1]
      rw [this]
      rfl
    · refine SeqAt.RcNeAt.lists_lengths p p' (by simp only [List.size_toArray];simp;omega) hu0 _ _ _ _ ⟨.bl (!decide (ds=es)),H,I,?_,q⟩
      rw [decide_eq_false (fun z=>hl (by rw [z]))]
      rfl
inductive J_rInD (neg:Bool) (x:V) (y:V) (H:Hp) (Q:VK):Prop
  | mk:∀ d ds,(Den H d x)→((Den H (.lst ds) y∨Den H (.tup ds) y))→(D.deeps ds≤150)→(Q (.bl (if neg then !decide (d∈ds) else decide (d∈ds))) H)→J_rInD neg x y H Q
noncomputable def rInD (neg:Bool):R2:=fun x y H Q=>J_rInD neg x y H Q
noncomputable def eqR (h:Heap) (d:D) (y:Value):Bool := @decide (DenR h d y) (Classical.propDecidable _)
theorem eqR_eq {h:Heap} {d e:D} {y:Value} (r:DenR h e y):eqR h d y=decide (e=d):=by
  unfold eqR
  by_cases z:e=d
  · subst z;rw [decide_eq_true rfl];exact @decide_eq_true _ (Classical.propDecidable _) r
  · rw [decide_eq_false z];exact @decide_eq_false _ (Classical.propDecidable _) fun q=>z (denR_inj r q)
theorem denRs_mem {h:Heap}:∀ {ds:List D} {us:List Value} {u:Value},DenRs h ds us→u∈us→∃ d∈ds,DenR h d u
  | [],us,u,r,m=>by rw [DenRs] at r;subst r;cases m
  | d :: ds,us,u,r,m=>by
    rw [DenRs] at r
    obtain ⟨v,us',rfl,r1,r⟩:=r
    rcases List.mem_cons.mp m with rfl | m
    · exact ⟨d,List.mem_cons_self,r1⟩
    · obtain ⟨e,he,q⟩:=denRs_mem r m
      exact ⟨e,List.mem_cons_of_mem _ he,q⟩
theorem any_eqR {h:Heap} {d:D}:∀ {ds:List D} {us:List Value},DenRs h ds us→us.any (eqR h d)=decide (d∈ds)
  | [],us,r=>by rw [DenRs] at r;subst r;simp
  | e :: ds,us,r=>by
    rw [DenRs] at r
    obtain ⟨v,us',rfl,r1,r⟩:=r
    rw [List.any_cons,any_eqR r,eqR_eq r1]
    refine dec_true ⟨fun z => ?_,fun z => ?_⟩
    · rcases List.mem_cons.mp z with rfl | z
      · simp
      · rw [decide_eq_true z];simp
    · rw [Bool.or_eq_true] at z
      rcases z with z | z
      · rw [of_decide_eq_true z];exact List.mem_cons_self
      · exact List.mem_cons_of_mem _ (of_decide_eq_true z)
theorem op_inD (hu:X.A.units+151 < cLine):OpR X (compareOp .In) (rInD false):=by
  intro pins s σ H x y v u Q I rx ry h
  obtain ⟨d,ds,h1,h2,hd,q⟩:=h
  have g1:=den_raw I.hok h1 rx
  have el:∀ us:List Value,DenRs s.heap ds us→∀ y,y∈us.toArray→SeqAt.EqAt X.A.in1 s y v (eqR s.heap d y):=fun us r y hy=>by
    obtain ⟨e,he,r1⟩:=denRs_mem r (by simpa using hy)
    refine eqAt_cast (eqAt_D 150 (by have:=deeps_le he;omega) r1 g1 (by show X.A.units+1+150 < cLine;omega)) (eqR_eq r1).symm
  rcases h2 with h2 | h2
  · have g2:=den_raw I.hok h2 ry
    rw [DenR] at g2
    obtain ⟨b,us',rfl,p',r'⟩:=g2
    refine SeqAt.in_listAt (eqR s.heap d) p' (el us' r') ⟨.bl (decide (d∈ds)),H,I,?_,q⟩
    rw [← any_eqR r']
    show Value.bool _=Value.bool _
    rw [List.any_toArray]
  · have g2:=den_raw I.hok h2 ry
    rw [DenR] at g2
    obtain ⟨b,us',rfl,p',r'⟩:=g2
    refine SeqAt.in_tupleAt (eqR s.heap d) p' (el us' r') ⟨.bl (decide (d∈ds)),H,I,?_,q⟩
    rw [← any_eqR r']
    show Value.bool _=Value.bool _
    rw [List.any_toArray]
end
end L2
namespace L2
open PySem PySem.Spec PyProof.Rows

section
variable {κ : Type} [DecidableEq κ]
noncomputable def valV (kvs:List (κ × V)) (k : κ):Option V:=(kvs.find? fun kv=>decide (kv.1=k)).map (·.2)
noncomputable def putK (kvs:List (κ × V)) (k : κ) (v:V):List (κ × V) :=
  if (kvs.any fun kv=>decide (kv.1=k))=true then kvs.map (fun kv=>if kv.1=k then (kv.1,v) else kv) else kvs ++ [(k,v)]

theorem valV_pos {p : κ × V} {r:List (κ × V)} {k : κ} (e:p.1=k):valV (p :: r) k=some p.2:=by simp [valV,List.find?_cons,e]
theorem valV_neg {p : κ × V} {r:List (κ × V)} {k : κ} (e:¬ p.1=k):valV (p :: r) k=valV r k:=by simp [valV,List.find?_cons,e]
theorem valV_any (k : κ):∀ kvs:List (κ × V),(kvs.any fun kv=>decide (kv.1=k))=(valV kvs k).isSome
  | []=>rfl
  | p :: r=>by
    rw [List.any_cons]
    by_cases e:p.1=k
    · simp only [valV_pos e,decide_eq_true e,Bool.true_or,Option.isSome_some]
    · rw [valV_neg e,decide_eq_false e,Bool.false_or];exact valV_any k r
theorem length_putK (kvs:List (κ × V)) (k : κ) (v:V):(putK kvs k v).length≤kvs.length+1:=by
  unfold putK
  split
  · rw [List.length_map];omega
  · rw [List.length_append,List.length_cons,List.length_nil];omega

theorem RelO.isSome_eq {o:Option V} {u:Option Value} (r:RelO o u):o.isSome=u.isSome:=by
  cases o with
  | none=>cases u with
    | none=>rfl
    | some _=>exact (show False from r).elim
  | some _=>cases u with
    | none=>exact (show False from r).elim
    | some _=>rfl

theorem KV.any {kvs:List (κ × V)} {vs:List (κ × Value)} (r:KV kvs vs) (k : κ):(kvs.any fun kv=>decide (kv.1=k))=vs.any fun kv=>decide (kv.1=k):=by
  unfold KV at r
  induction r with
  | nil=>rfl
  | cons h t ih=>rw [List.any_cons,List.any_cons,ih,h.1]
theorem KV.repl {kvs:List (κ × V)} {vs:List (κ × Value)} (r:KV kvs vs) (k : κ) {y:V} {u:Value} (ry:RelV y u) :
    KV (kvs.map fun kv=>if kv.1=k then (kv.1,y) else kv) (vs.map fun kv=>if kv.1=k then (kv.1,u) else kv):=by
  unfold KV at r ⊢
  induction r with
  | nil=>exact .nil
  | @cons p q ps qs h t ih =>
    rw [List.map_cons,List.map_cons]
    refine .cons ?_ ih
    obtain ⟨h1,h2⟩:=h
    by_cases e:p.1=k
    · rw [if_pos e,if_pos (h1.symm.trans e)];exact ⟨h1,ry⟩
    · rw [if_neg e,if_neg (fun z=>e (h1.trans z))];exact ⟨h1,h2⟩
theorem KV.put {kvs:List (κ × V)} {vs:List (κ × Value)} (r:KV kvs vs) (k : κ) {y:V} {u:Value} (ry:RelV y u):KV (putK kvs k y) (stored vs k u):=by
  unfold putK stored
  rw [r.any k]
  by_cases e:(vs.any fun kv=>decide (kv.1=k))=true
  · rw [if_pos e,if_pos e];exact r.repl k ry
  · rw [if_neg e,if_neg e];exact Paired.snoc r ⟨rfl,ry⟩
theorem KV.keys {kvs:List (κ × V)} {vs:List (κ × Value)} (r:KV kvs vs):kvs.map (·.1)=vs.map (·.1):=by
  unfold KV at r
  induction r with
  | nil=>rfl
  | cons h t ih=>rw [List.map_cons,List.map_cons,ih,h.1]
theorem KV.length {kvs:List (κ × V)} {vs:List (κ × Value)} (r:KV kvs vs):kvs.length=vs.length:=Paired.length r
end


theorem kV_is {P:Program} {w:World} {k:Key} {u:Value} (r:RelV (kV k) u):(mixKind P w).is k u=true:=by
  cases k with
  | inl i=>obtain ⟨t,e⟩:=(show ∃ t,u=Value.int i t from r);subst e;exact mixKind_int P w i t
  | inr x=>obtain ⟨t,e⟩:=(show ∃ t,u=Value.str x t from r);subst e;exact mixKind_str P w x t
theorem items_are {P:Program} {w:World}:∀ {ks:List Key} {us:List Value},Vals (ks.map kV) us→ItemsAre (mixKind P w) ks us
  | [],_,r=>by rw [List.map_nil] at r;cases r;exact .nil
  | k :: ks,_,r=>by
    rw [List.map_cons] at r
    cases r with
    | cons h t=>exact .cons (kV_is h) (items_are t)

noncomputable abbrev KT (H:Hp):List (List Key × V)→List (List Key × Addr × Value)→Prop:=Paired fun p q=>p.1=q.1∧H q.2.1=some (.tup (p.1.map kV))∧RelV p.2 q.2.2
theorem KT.val {H:Hp} {kvs:List (List Key × V)} {xs:List (List Key × Addr × Value)} (r:KT H kvs xs) (k:List Key):RelO (valV kvs k) ((atKey xs k).map (·.2)):=by
  induction r with
  | nil=>exact True.intro
  | @cons p q ps qs h t ih =>
    obtain ⟨h1,_,h2⟩:=h
    by_cases e:p.1=k
    · have e':q.1=k:=h1.symm.trans e
      have b:atKey (q :: qs) k=some q.2:=by simp [atKey,List.find?_cons,e']
      rw [valV_pos e,b];exact h2
    · have e':¬ q.1=k:=fun z=>e (h1.trans z)
      have b:atKey (q :: qs) k=atKey qs k:=by simp [atKey,List.find?_cons,e']
      rw [valV_neg e,b];exact ih
theorem KT.repl {H:Hp} {kvs:List (List Key × V)} {xs:List (List Key × Addr × Value)} (r:KT H kvs xs) (k:List Key) {y:V} {u:Value} (ry:RelV y u) :
    KT H (kvs.map fun kv=>if kv.1=k then (kv.1,y) else kv) (xs.map (putAt k u)):=by
  induction r with
  | nil=>exact .nil
  | @cons p q ps qs h t ih =>
    rw [List.map_cons,List.map_cons]
    refine .cons ?_ ih
    obtain ⟨h1,h2,h3⟩:=h
    unfold putAt
    by_cases e:p.1=k
    · rw [if_pos e,if_pos (h1.symm.trans e)];exact ⟨h1,h2,ry⟩
    · rw [if_neg e,if_neg (fun z=>e (h1.trans z))];exact ⟨h1,h2,h3⟩
theorem KT.put {H:Hp} {kvs:List (List Key × V)} {xs:List (List Key × Addr × Value)} (r:KT H kvs xs) (k:List Key) {b:Addr} {y:V} {u:Value} (hb:H b=some (.tup (k.map kV))) (ry:RelV y u) :
    KT H (putK kvs k y) (storedH xs k b u):=by
  have e:(kvs.any fun kv=>decide (kv.1=k))=(atKey xs k).isSome:=by
    rw [valV_any,(r.val k).isSome_eq,Option.isSome_map]
  unfold putK storedH
  rw [e]
  by_cases q:(atKey xs k).isSome=true
  · rw [if_pos q,if_pos q];exact r.repl k ry
  · rw [if_neg q,if_neg q];exact Paired.snoc r ⟨rfl,hb,ry⟩
theorem KT.keeps {H H':Hp} {kvs:List (List Key × V)} {xs:List (List Key × Addr × Value)} (r:KT H kvs xs) (ht:∀ b ys,H b=some (.tup ys)→H' b=some (.tup ys)):KT H' kvs xs :=
  Paired.mapP r fun _ _ z=>⟨z.1,ht _ _ z.2.1,z.2.2⟩

section
variable {P:Program} {w:World} {H:Hp} {h:Heap} {a:Addr}
theorem rd_of {u:HO} (ok:HOk P w H h) (e:Rd H a u):ObjOk P w H h a u:=e.ok ok
theorem dk_rd {kvs:List (Key × V)} (ok:HOk P w H h) (e:Rd H a (.dK kvs)):kvs.length≤sizeLine∧(a == sysModules)=false∧∃ vs,KV kvs vs∧h.DictOf (mixKind P w) a vs :=
  show ObjOk P w H h a (.dK kvs) from rd_of ok e
theorem dk_of {kvs:List (Key × V)} (ok:HOk P w H h) (e:H a=some (.dK kvs)):kvs.length≤sizeLine∧(a == sysModules)=false∧∃ vs,KV kvs vs∧h.DictOf (mixKind P w) a vs:=dk_rd ok (.inl e)
theorem key_of {ks:List Key} (ok:HOk P w H h) (e:H a=some (.tup (ks.map kV))):(tupleKind (mixKind P w)).is h ks a:=by
  obtain ⟨_,its,r,o,h1,h2,n,h3,_⟩:=(show ObjOk P w H h a (.tup (ks.map kV)) from ok a _ e)
  exact ⟨o,its.toArray,n,h1,h2,h3,by simpa using items_are r⟩
theorem dt_rd {kvs:List (List Key × V)} (ok:HOk P w H h) (e:Rd H a (.dT kvs)):kvs.length≤sizeLine∧(a == sysModules)=false ∧
    ∃ xs,KT H kvs xs∧h.DictOfH (tupleKind (mixKind P w)) a xs:=by
  obtain ⟨z,y,xs,r,o,es,ep,h1,h2,h3,h4,h5⟩:=(show ObjOk P w H h a (.dT kvs) from rd_of ok e)
  refine ⟨z,y,xs,r,o,es,ep,h1,h2,h3,h4,fun x hx => ?_,h5⟩
  have all:∀ {l:List (List Key × V)} {m:List (List Key × Addr × Value)},KT H l m→∀ x∈m,(tupleKind (mixKind P w)).is h x.1 x.2.1:=by
    intro l m q
    induction q with
    | nil=>intro x hx;exact nomatch hx
    | @cons p q ps qs hq t ih =>
      intro x hx
      rcases List.mem_cons.mp hx with e | hx
      · subst e
        exact key_of ok (by rw [← hq.1];exact hq.2.1)
      · exact ih x hx
  exact all r x hx
theorem dt_of {kvs:List (List Key × V)} (ok:HOk P w H h) (e:H a=some (.dT kvs)):kvs.length≤sizeLine∧(a == sysModules)=false ∧
    ∃ xs,KT H kvs xs∧h.DictOfH (tupleKind (mixKind P w)) a xs:=dt_rd ok (.inl e)
end

noncomputable def DPut (H:Hp) (a:Addr) (y v:V) (H':Hp):Prop :=
  (∃ kvs k,H a=some (.dK kvs)∧y=kV k∧kvs.length < sizeLine∧H'=upd H a (.dK (putK kvs k v))) ∨
  ∃ kvs k b,H a=some (.dT kvs)∧y = .ref b∧H b=some (.tup (k.map kV))∧kvs.length < sizeLine∧H'=upd H a (.dT (putK kvs k v))
theorem DPut.k {H:Hp} {a:Addr} {kvs:List (Key × V)} {k:Key} {v:V} (e:H a=some (.dK kvs)) (hl:kvs.length < sizeLine):DPut H a (kV k) v (upd H a (.dK (putK kvs k v))) := .inl ⟨kvs,k,e,rfl,hl,rfl⟩


section
variable {X:Cx} {pins:List (Addr × Obj)} {σ : St} {H:Hp} {s:Shared} {a:Addr} {y v:V} {u r:Value} {o:Option V} {A:Around} {E:Value→Shared→Prop}

theorem Inv.big (I:Inv X pins σ H s):sysModules < s.heap.objs.size:=by
  have h:mainGlobals < s.heap.objs.size:=(I.mod.glob.keeps I.bk).lt
  exact Nat.lt_trans (by decide) h

theorem d_write {h':Heap} {t':Nat} {ob:HO} (I:Inv X pins σ H s) (mu:Mut (H a)) (hs:Heap.SameBut a s.heap h') (he:∃ q,h'.get? a=some q) (new:ObjOk X.prog X.w (upd H a ob) h' a ob) :
    Inv X pins σ (upd H a ob) { s with heap:=h',toks:=t' } :=
  I.write (x:=a) (e:=a) mu (.inl rfl) (fun b q hb z=>(hs.2 b hb).trans z) he new
theorem dk_new {P:Program} {w:World} {H':Hp} {h':Heap} {kvs:List (Key × V)} {vs:List (Key × Value)} (z:kvs.length≤sizeLine) (hd:(a == sysModules)=false) (rel:KV kvs vs) (dd:h'.DictOf (mixKind P w) a vs) :
    ObjOk P w H' h' a (.dK kvs):=⟨z,hd,vs,rel,dd⟩
theorem d_setItem {H':Hp} {Q:Unit→Shared→Prop} (hu:A.units+1 < cLine) (I:Inv X pins σ H s) (g:DPut H a y v H') (ry:RelV y u) (rv:RelV v r) (h:∀ s',Inv X pins σ H' s'→Q () s') :
    wpAny (model X.prog X.w) A (setItem (.ref a) u r) Q E s:=by
  rcases g with ⟨kvs,k,e,ey,l,eH⟩ | ⟨kvs,k,b,e,ey,eb,l,eH⟩
  · subst ey eH
    obtain ⟨z,hd,vs,rel,dd⟩:=dk_of I.hok e
    have hz:vs.length≤sizeLine:=by rw [← rel.length];exact z
    have hl:(putK kvs k v).length≤sizeLine:=by have:=length_putK kvs k v;omega
    refine wpAny_setItem_pairs (hsz:=hz) (kV_is ry) dd fun h' dd' hs=>h _ ?_
    have he:∃ q,h'.get? a=some q:=let ⟨q,_,_,hq,_⟩:=dd'; ⟨q,hq⟩
    exact d_write I (by rw [e];exact True.intro) hs he (dk_new hl hd (rel.put k rv) dd')
  · subst ey eH
    cases (show u=Value.ref b from ry)
    obtain ⟨z,hd,xs,rel,dd⟩:=dt_of I.hok e
    have hz:xs.length≤sizeLine:=by rw [← Paired.length rel];exact z
    have hl:(putK kvs k v).length≤sizeLine:=by have:=length_putK kvs k v;omega
    refine wpAny_setItem_heap (hsz:=hz) (tupleKind_room_in1 hu) (key_of I.hok eb) dd fun h' dd' hs=>h _ ?_
    obtain ⟨q,es,ep,hq,h2,h3,h4,_,h5⟩:=dd'
    refine d_write I (by rw [e];exact True.intro) hs ⟨q,hq⟩ ⟨hl,hd,_,(rel.put k eb rv).keeps fun c ys ec => ?_,q,es,ep,hq,h2,h3,h4,h5⟩
    rw [upd_ne (ne_of ec e (fun z=>nomatch z))]
    exact ec
end

section
variable {X:Cx} {pins:List (Addr × Obj)} {σ : St} {H:Hp} {s:Shared} {a:Addr} {kvs:List (Key × V)} {k:Key} {u:Value} {A:Around} {E:Value→Shared→Prop}
end




inductive J_sDPut (D:Ends) (σ : St) (v:V) (x:V) (y:V) (H3:Hp):Prop
  | mk:∀ a H4,(x = .ref a)→(DPut H3 a y v H4)→(D.nx σ H4)→J_sDPut D σ v x y H3
noncomputable def sDPut (td ty tv:TE):TS:=fun D σ H=>tv σ H fun v H1=>td σ H1 fun x H2=>ty σ H2 fun y H3=>J_sDPut D σ v x y H3

section
variable {X:Cx} {o i e value:Expr} {pos pos' tpos:Pos} {td ty tv:TE}
theorem ps_dput (hu:X.A.units+1 < cLine) (ho:PE X o td) (hi:PE X i ty) (hv:PE X value tv) (hs:swapsWith value (some (.Subscript o i pos')) pos.line X.env=pure false) :
    PS X (.Assign [.Subscript o i pos'] value pos) (sDPut td ty tv):=by
  intro pins s σ H D I h
  refine wpAny_Assign_Subscript (thn (hv pins s σ H _ I h) fun r s1 ⟨v,H1,I1,rv,q1⟩=>thn (ho pins s1 σ H1 _ I1 q1) fun u s2 ⟨x,H2,I2,rx,q2⟩=>thn (hi pins s2 σ H2 _ I2 q2) fun iv s3 ⟨y,H3,I3,ry,a,H4,ex,g,q3⟩ => ?_) hs
  subst ex
  obtain rfl:u=Value.ref a:=rx
  exact d_setItem hu I3 g ry rv fun s4 I4=>⟨σ,H4,I4,q3⟩
end


theorem dk_empty {P:Program} {w:World} {H:Hp} (h:Heap) (hb:sysModules < h.objs.size):ObjOk P w H (h.push { cls := .type "dict",data := .dict #[] }) h.objs.size (.dK []) :=
  ⟨Nat.zero_le _,beq_eq_false_iff_ne.mpr (Ne.symm (Nat.ne_of_lt hb)), [],.nil,Heap.DictOf.new h⟩
noncomputable def tDNewK:TE:=fun _ H Q=>∀ p,H p=none→Q (.ref p) (upd H p (.dK []))
section
variable {X:Cx} {pos:Pos}
theorem pe_dnewK:PE X (.Dict [] [] pos) tDNewK:=fun pins s σ H Q I h =>
  wpAny_Dict_empty ⟨.ref s.heap.objs.size,_,I.laid (a:=s.heap.objs.size) (o := .dK []) (t':=s.toks) (fun _ _ q=>Heap.get?_push_of_some _ q) (Nat.le_refl _) (dk_empty s.heap I.big),rfl,h _ (I.hok.fresh (Nat.le_refl _))⟩
end






section
variable {X:Cx} {pins:List (Addr × Obj)} {σ : St} {H:Hp} {s:Shared} {a:Addr} {y d:V} {u r:Value} {o:Option V} {A:Around} {E:Value→Shared→Prop}
end

section
variable {X:Cx} {o e f:Expr} {apos cpos:Pos} {td ty tx:TE}
end

section
variable {X:Cx} {pins:List (Addr × Obj)} {σ : St} {H:Hp} {s:Shared} {a:Addr} {kvs:List (Key × V)} {A:Around} {E:Value→Shared→Prop}
end


section
variable {X:Cx} {pins:List (Addr × Obj)} {σ : St} {H:Hp} {s:Shared} {a:Addr} {y:V} {u:Value} {A:Around} {E:Value→Shared→Prop}
end
end L2
namespace L2
open PySem PySem.Spec PyProof.Rows

section
variable (P:Program) (w:World)
end
section
variable {P:Program} {w:World} {h h':Heap}
end
section
variable {P:Program} {w:World} {A:Around} {E:Value→Shared→Prop} {s:Shared}
end

section
variable {prog:Program} {w:World} {K:Type} [DecidableEq K] {knd:HeapKind prog w K} {A:Around} {E:Value→Shared→Prop} {s:Shared} {d a:Addr} {k:K} {xs:List (K × Addr × Value)}
end
section
variable {prog:Program} {w:World} {K:Type} [DecidableEq K] (knd:HeapKind prog w K) (d a:Addr)
end
end L2
namespace L2
open PySem PySem.Spec PyProof.Rows

section
variable {X:Cx} {scope:Scope} {own:List Str} {caps:List (Str × Nat)} {pins:List (Addr × Obj)} {σ : St} {H:Hp} {s:Shared} {fp:List Addr}
theorem comp_goI {prog:Program} {w:World} {A:Around} {R:Result→Shared→Prop} {elt target iter tst:Expr} {pos:Pos} {it acc:Value} {env:Env} (Iv:Nat→Shared→Prop)
    (turn:∀ n s,Iv n s→wpAny (model prog w) A (pyNext it) (fun r s₁ => match r with
      | none=>R (.ok .next) s₁
      | some v=>wpAny (model prog w) A (letOwnedTupleGo target it v) (fun _ s₂ => wpAny (model prog w) A (assign target env v) (fun _ s₃ => wpAny (model prog w) A (isTrue tst env (eval tst env)) (fun ok s₆ => if ok=true then wpAny (model prog w) A (eval elt env) (fun x s₄ =>
              wpAny (model prog w) A (call (.builtin "list.append") [acc,x]) (fun _ s₅ => ∃ m,m < n∧Iv m s₅) (fun _ _=>False) s₄) (fun _ _=>False) s₆ else ∃ m,m < n∧Iv m s₆) (fun _ _=>False) s₃) (fun _ _=>False) s₂) (fun _ _=>False) s₁) (fun _ _=>False) s)
    (n:Nat) (h:Iv n s):codeAny (model prog w) A (.compLoop (.ListComp elt [⟨target,iter, [tst],0⟩] scope pos) 0 it acc env) R s:=by
  refine codeAny_loop rfl Iv (fun n s hI => ?_) n h
  show wpAny _ A ((compTurn (.ListComp elt [⟨target,iter, [tst],0⟩] scope pos) 0 it acc env).onRaise (fun x=>do noteFrame x env;theTreesLotGoes x)) _ _ s
  refine wpAny_noted ?_
  rw [compTurn_list]
  refine wpAny_bind (wpAny_standAt (wpAny_bind (wpAny_mono (turn n s hI) (fun r s₁ h₁ => ?_) fun _ _ z=>z.elim)))
  cases r with
  | none=>exact wpAny_pure h₁
  | some v =>
    refine wpAny_bind (wpAny_mono h₁ (fun _ s₂ h₂ => wpAny_bind (wpAny_mono h₂ (fun _ s₃ h₃ => wpAny_bind (wpAny_tests_one (wpAny_mono h₃ (fun ok s₆ h₆ => ?_) fun _ _ z=>z.elim))) fun _ _ z=>z.elim)) fun _ _ z=>z.elim)
    cases ok with
    | true =>
      have h₆':=(if_pos rfl:(if true=true then _ else _)=_) ▸ h₆
      exact wpAny_bind (wpAny_bind (wpAny_mono h₆' (fun x s₄ h₄ => wpAny_bind (wpAny_mono h₄ (fun _ s₅ h₅ => wpAny_pure (wpAny_pure ⟨rfl,h₅⟩)) fun _ _ z=>z.elim)) fun _ _ z=>z.elim))
    | false =>
      have h₆':∃ m,m < n∧Iv m s₆ := h₆
      exact wpAny_bind (wpAny_pure (wpAny_pure ⟨rfl,h₆'⟩))

noncomputable def CompBodyI (J:It) (g:TG) (ct:TT) (te:TE) (τ0:St) (H1:Hp) (Q:VK):Prop := ∀ D,H1 D=none→∃ W:Nat→Nat→St→List V→Hp→Prop,
  (∃ m,W 0 m τ0 [] (upd H1 D (.lst []))) ∧
  ∀ i m τ ys H,W i m τ ys H→H D=some (.lst ys)∧((J.stop i H∧Q (.ref D) H)∨(J.go i H∧ys.length < sizeLine∧∀ x H',J.yld i H x H'→g x τ H' fun τ2 H2=>ct τ2 H2 fun b H4=>if b=true then te τ2 H4 fun y H3 =>
    H3 D=some (.lst ys)∧∃ m',m' < m∧W (i+1) m' τ2 (ys ++ [y]) (upd H3 D (.lst (ys ++ [y]))) else ∃ m',m' < m∧W (i+1) m' τ2 ys H4))
noncomputable def tCompI (wi:TI) (g:TG) (ct:TT) (te:TE) (k:Nat) (caps:List (Str × Nat)):TE:=fun σ H Q=>wi σ H fun J H1=>CompBodyI J g ct te (List.replicate k none ++ capt σ caps) H1 Q

theorem comp_coreI {tg elt iter tst:Expr} {wi:TI} {g:TG} {ct:TT} {te:TE} {pos p2:Pos} {use:Option (Value→Sem Unit)} {Q:VK} {Q':Value→Shared→Prop} (S:CompScope X scope own caps) (hi:PI X tg iter wi) (hc:X.calm=true)
    (hg:∀ fp s H,PG (cxComp X scope (own ++ caps.map (·.1)) fp s H) tg g) (hct:∀ fp s H,PT (cxComp X scope (own ++ caps.map (·.1)) fp s H) tst ct) (he:∀ fp s H,PE (cxComp X scope (own ++ caps.map (·.1)) fp s H) elt te)
    (I:Inv X pins σ H s) (h:tCompI wi g ct te own.length caps σ H Q)
    (fin:∀ D C H5 s5,Inv X pins σ H5 s5→Q (.ref D) H5→(∃ m,s5.heap.Ns C m)→H5 C=none→C≠X.env.locals→X.s₀.heap.objs.size≤C→(∀ x c,X.env.cells.lookup x=some c→c≠C)→(∀ p∈X.pn ++ pins,p.1≠C) →
      compPost (model X.prog X.w) X.A X.xe use Q' (.ref D) C (.ok .next) s5)
    (hs:∀ x,foldedSetIterable iter X.env x=pure x:=by intro _;rfl) :
    wpAny (model X.prog X.w) X.A (comprehension (.ListComp elt [⟨tg,iter, [tst],0⟩] scope pos) scope X.env p2 (newList []) false (eval iter X.env) use) Q' X.xe s:=by
  have hclos:closureFor scope X.env=pure (capsOf X.env.cells scope.names []):=closure_caps fun y hy hk=>I.ok.has y.1 (.inl (S.frees y hy hk))
  refine wpAny_comprehension_free (g:=⟨tg,iter, [tst],0⟩) (gs := []) rfl hs hclos S.kind S.locs (thn (hi pins s σ H _ I h) fun v s1 h1=>thn h1 fun itv s2 h2 => ?_)
  obtain ⟨it,fp,tn,J,H2,e,I2,T,st2,f2,R⟩:=h2
  subst e
  refine wpAny_newObj_type (wpAny_newFunctionEnv S.nocell (by intro y hy;simp at hy) (fun h₁ hns₁ hsb₁ => ?_) S.kind)
  have fr2:H2 s2.heap.objs.size=none:=I2.hok.fresh (Nat.le_refl _)
  obtain ⟨W,⟨m0,w0⟩,turn⟩:=R s2.heap.objs.size fr2
  have I3:Inv X pins σ (upd H2 s2.heap.objs.size (.lst [])) { s2 with heap:=s2.heap.push { cls := .type "list",dict:=none,data := .seq ([]:List Value).toArray } }:=I2.lnew (its := []) (t':=s2.toks) .nil (Nat.zero_le _)
  have lt2:∀ b∈fp,b < s2.heap.objs.size:=fun b hb=>by
    obtain ⟨o,ho,_⟩:=T.obj _ _ st2 b hb
    exact Heap.lt_size ho
  have f3:∀ b∈fp,FpOk X pins (upd H2 s2.heap.objs.size (.lst [])) b:=fun b hb=>⟨by rw [upd_ne (Nat.ne_of_lt (lt2 b hb))];exact (f2 b hb).1,(f2 b hb).2⟩
  generalize hs3:({ s2 with heap:=s2.heap.push { cls := .type "list",dict:=none,data := .seq ([]:List Value).toArray } }:Shared)=s3 at I3
  have hz3:s3.heap.objs.size=s2.heap.objs.size+1:=by rw [← hs3];exact Heap.size_push _ _
  have kp23:∀ b o,s2.heap.get? b=some o→s3.heap.get? b=some o:=fun b o e=>by rw [← hs3];exact Heap.get?_push_of_some _ e
  have lt3:∀ b∈fp,b < s3.heap.objs.size:=fun b hb=>by rw [hz3];exact Nat.lt_succ_of_lt (lt2 b hb)
  have hns₁':h₁.Ns s3.heap.objs.size (fun x=>([]:List (Str × Value)).reverse.lookup x):=by rw [← hs3];exact hns₁
  have kp31:∀ b o,s3.heap.get? b=some o→h₁.get? b=some o:=fun b o e=>by
    have hb:b≠s3.heap.objs.size:=Nat.ne_of_lt (Heap.lt_size e)
    rw [← hs3] at e hb
    exact hsb₁.extBut b o hb (Heap.get?_push_of_some _ e)
  have J1:=comp_start S I3 f3 lt3 (t:=s2.toks+([]:List (Str × Value)).length) hns₁' kp31
  have st1:tn 0 h₁ := T.keep _ _ _ st2 fun b hb o e=>kp31 b o (kp23 b o e)
  -- the loop
  have loop:∀ s₃ : Shared,s₃ = { s3 with heap:=h₁,toks:=s2.toks+([]:List (Str × Value)).length } →
      codeAny (model X.prog X.w) X.A (.compLoop (.ListComp elt [⟨tg,iter, [tst],0⟩] scope pos) 0 (.ref it) (.ref s2.heap.objs.size) (cxComp X scope (own ++ caps.map (·.1)) fp s3 (upd H2 s2.heap.objs.size (.lst []))).env)
        (compPost (model X.prog X.w) X.A X.xe use Q' (.ref s2.heap.objs.size) s3.heap.objs.size) s₃ := by
    rintro s₃ rfl
    refine comp_goI (fun n s'=>∃ i τ ys H',Inv (cxComp X scope (own ++ caps.map (·.1)) fp s3 (upd H2 s2.heap.objs.size (.lst []))) [] τ H' s'∧tn i s'.heap∧(∀ b∈fp,H' b=none)∧W i n τ ys H') ?_ m0
      ⟨0,_, [],_,J1,st1,fun b hb=>(f3 b hb).1,w0⟩
    rintro n s' ⟨i, τ,ys,H',J',st',fr',w'⟩
    have fY:∀ {H'':Hp},(∀ b∈fp,H'' b=none)→∀ b∈fp,FpOk (cxComp X scope (own ++ caps.map (·.1)) fp s3 (upd H2 s2.heap.objs.size (.lst []))) [] H'' b:=fun hn b hb =>
      ⟨hn b hb,Nat.ne_of_lt (lt3 b hb),fun z=>by
          rcases List.mem_cons.mp (I3.stkSub b z) with e | e
          · exact (f3 b hb).2.1 e
          · exact (f3 b hb).2.2.1 e,.inl hb,fun x c e=>(f3 b hb).2.2.2.2.1 x c (caps_cells e),(fun p hp=>by cases hp)⟩
    obtain ⟨hD,tt⟩:=turn i n τ ys H' w'
    rcases tt with ⟨stop,qn⟩ | ⟨go,hlen,step⟩
    · refine thn (T.done (cxComp X scope (own ++ caps.map (·.1)) fp s3 (upd H2 s2.heap.objs.size (.lst []))) rfl rfl rfl hc i [] s' τ H' (fun _ _=>False) J' (fY fr') st' stop) fun r s4 ⟨hr,J4⟩ => ?_
      subst hr
      obtain ⟨m4,hn4,_⟩:=J4.loc
      have I5:=comp_back I3 J4 f3
      refine fin _ _ _ s4 I5 qn ⟨m4,hn4⟩ J4.free ?_ ?_ (fun x c e z => ?_) fun p hp z => ?_
      · exact Nat.ne_of_gt I3.lt
      · exact I3.sz
      · obtain ⟨v,q⟩:=I3.cell x c e
        rw [z] at q
        exact absurd q.lt (Nat.lt_irrefl _)
      · have q:=(I3.pin p hp).1
        rw [z] at q
        exact absurd (Heap.lt_size q) (Nat.lt_irrefl _)
    · refine thn (T.item (cxComp X scope (own ++ caps.map (·.1)) fp s3 (upd H2 s2.heap.objs.size (.lst []))) rfl rfl rfl hc i [] s' τ H' (fun _ _=>False) J' (fY fr') st' go) fun r s4 ⟨u,hr,h4⟩ => ?_
      subst hr
      refine thn h4 fun _ s5 ⟨x,H5,J5,r5,y5,st5,fr5⟩ => ?_
      have J5':=J5.pinned (fY fr5) (T.obj _ _ st5)
      have keepsT:∀ {τ6:St} {H8:Hp} {s8:Shared},Inv (cxComp X scope (own ++ caps.map (·.1)) fp s3 (upd H2 s2.heap.objs.size (.lst []))) ([] ++ pinsAt fp s5.heap) τ6 H8 s8→tn (i+1) s8.heap∧∀ b∈fp,H8 b=none:=fun {τ6 H8 s8} J8=>by
        refine ⟨T.keep _ _ _ st5 fun b hb o e=>(J8.pin (b,o) (List.mem_append_right _ (List.mem_append_right _ (mem_pinsAt hb e)))).1,fun b hb => ?_⟩
        obtain ⟨o,e,d⟩:=T.obj _ _ st5 b hb
        exact (J8.pin (b,o) (List.mem_append_right _ (List.mem_append_right _ (mem_pinsAt hb e)))).2.1
      refine thn (hg fp s3 _ _ s5 τ H5 x u _ J5' r5 (step x H5 y5)) fun _ s6 ⟨τ6,H6,J6,q6⟩ => ?_
      refine thn (hct fp s3 _ _ s6 τ6 H6 _ J6 q6) fun ok s9 ⟨H9,J9,q9⟩ => ?_
      cases ok with
      | false =>
        obtain ⟨m',hm',w9⟩:=(show ∃ m',m' < n∧W (i+1) m' τ6 ys H9 from q9)
        exact ⟨m',hm',i+1, τ6,ys,_,J9.unpinned,(keepsT J9).1,(keepsT J9).2,w9⟩
      | true =>
        refine thn (he fp s3 _ _ s9 τ6 H9 _ J9 q9) fun yv s7 ⟨y,H7,J7,r7,hD7,m',hm',w7⟩ => ?_
        refine thn (mt_append (X:=cxComp X scope (own ++ caps.map (·.1)) fp s3 (upd H2 s2.heap.objs.size (.lst []))) _ s7 τ6 H7 (.ref s2.heap.objs.size) [y] _ [yv] (fun _ H8=>H8=upd H7 s2.heap.objs.size (.lst (ys ++ [y]))) J7 rfl (.cons r7 .nil) ⟨_,ys,y,rfl,rfl,hD7,hlen,rfl⟩) fun _ s8 ⟨_,H8,J8,_,e8⟩ => ?_
        subst e8
        exact ⟨m',hm',i+1, τ6,ys ++ [y],_,J8.unpinned,(keepsT J8).1,(keepsT J8).2,w7⟩
  have hloop:=loop _ rfl
  subst hs3
  exact codeAny_compStart_list hloop (T.self _ 0 _ _ _ st1 hloop)
theorem ps_setCompI {i:Nat} {y:Str} {tg elt iter tst:Expr} {wi:TI} {g:TG} {ct:TT} {te:TE} {pos spos py:Pos} (hN:X.N.Nodup) (hiN:X.N[i]? = some y) (hy:X.env.scope.names.lookup y=some .local) (S:CompScope X scope own caps) (hi:PI X tg iter wi) (hc:X.calm=true)
    (hg:∀ fp s H,PG (cxComp X scope (own ++ caps.map (·.1)) fp s H) tg g) (hct:∀ fp s H,PT (cxComp X scope (own ++ caps.map (·.1)) fp s H) tst ct) (he:∀ fp s H,PE (cxComp X scope (own ++ caps.map (·.1)) fp s H) elt te)
    (hsw:swapsWith (.ListComp elt [⟨tg,iter, [tst],0⟩] scope pos) (some (.Name y py)) spos.line X.env=pure true)
    (hs:∀ x,foldedSetIterable iter X.env x=pure x:=by intro _;rfl):PS X (.Assign [.Name y py] (.ListComp elt [⟨tg,iter, [tst],0⟩] scope pos) spos) (tAsg (tCompI wi g ct te own.length caps) (gName i)):=by
  intro pins s σ H D I h
  rw [exec_Assign_Name_used _ _ _ _ hsw]
  refine wpAny_bind (wpAny_standAt (wpAny_bind ?_))
  show wpAny _ X.A (do let _ ← comprehension (.ListComp elt [⟨tg,iter, [tst],0⟩] scope pos) scope X.env _ (newList []) false (eval iter X.env) (some (assign (.Name y py) X.env))) _ _ s
  refine wpAny_bind (wpAny_mono (comp_coreI (use:=some (assign (.Name y py) X.env)) (Q:=fun x H1=>D.nx (σ.set i (some x)) H1) (Q':=fun _ s'=>SP X pins D .next s') S hi hc hg hct he I h (fun A C H5 s5 I5 q ⟨m,hn⟩ hC hL hz hcell hpin => ?_) hs)
    (fun _ s' hq=>wpAny_pure (wpAny_pure hq)) fun _ _ e=>e)
  show wpAny _ X.A (assign (.Name y py) X.env (.ref A)) _ _ _
  refine wpAny_assign_Name (store_ok2 I5 hN hiN (.inl hy) (v := .ref A) rfl (fun s6 I6 ⟨a,hsb,ha⟩ => ?_) (.inr hy))
  have haC:C≠a:=by
    rcases ha with ha | ha
    · rw [ha];exact hL
    · exact fun z=>hcell y a ha z.symm
  refine ⟨m,hn.sameBut hsb haC,fun h' hs' => ?_⟩
  exact ⟨_,H5,I6.turned (t':=s6.toks) (fun b o hb e=>(hs'.2 b hb).trans e) hC hL (.inr hz) hcell hpin,q⟩
end
end L2
namespace L2
open PySem PySem.Spec PyProof.Rows

section
variable {P:Program} {w:World} {H:Hp} {h:Heap}
end
section
variable {X:Cx} {pins:List (Addr × Obj)} {σ : St} {H:Hp} {s:Shared} {a b:Addr} {kvs kvs':List (NK × V)} {k:NK} {y v:V} {u r:Value} {A:Around} {E:Value→Shared→Prop}
end
section
variable {X:Cx} {o e f:Expr} {apos cpos:Pos} {td ty tx:TE}
end
end L2
namespace Sw
section
variable {S:Type}
end
end Sw
namespace L2
open PySem PySem.Spec PyProof.Rows

section
variable {X:Cx}
end
theorem un101 {k:Nat} {A:Around} (hr:Room k A):A.units+151 < cLine:=by have:=hr.un;omega
inductive J_op_mul_str0 (x:V) (y:V) (H:Hp) (Q:VK):Prop
  | mk:∀ z n,(x = .str z)→(y = .int n)→(0≤n)→(n≤1000)→(z.length≤1000)→(Q (.str (timesS z n.toNat)) H)→J_op_mul_str0 x y H Q
theorem op_mul_str0 {X:Cx}:OpR X (binaryOp .Mult) (fun x y H Q=>J_op_mul_str0 x y H Q):=by
  intro pins s σ H x y v u Q I rx ry h
  obtain ⟨z,n,rfl,rfl,h1,h2,h3,q⟩:=h
  by_cases h0:n=0
  · subst h0
    obtain ⟨t,rfl⟩:=rx
    obtain ⟨t',rfl⟩:=ry
    exact PySem.P.mul_str_none (by omega) (by omega) ⟨.str (timesS z 0),H,I.tok _,⟨_,rfl⟩,q⟩
  · exact op_mul_str pins s σ H _ _ v u Q I rx ry ⟨z,n,rfl,rfl,by omega,h2,h3,q⟩
end L2
namespace Sw
open PySem L2
noncomputable abbrev nV (n:Nat):V:=V.int (n:Int)
theorem rd_cut {t rest:TS} {D:Ends} {σ : St} {H:Hp} (R:St→Hp→Prop) (key:∀ σ' H',R σ' H'→rest D σ' H') (h:∀ {N:St→Hp→Prop},(∀ σ' H',R σ' H'→N σ' H')→t { D with nx:=N } σ H):tSeq t rest D σ H:=h key
theorem paired_drop {α β : Type} {R : α → β → Prop}:∀ (n:Nat) {xs:List α} {ys:List β},Paired R xs ys→Paired R (xs.drop n) (ys.drop n)
  | 0,_,_,h=>h
  | _+1,_,_,.nil => .nil
  | n+1,_,_,.cons _ r=>paired_drop n r
theorem paired_take {α β : Type} {R : α → β → Prop}:∀ (n:Nat) {xs:List α} {ys:List β},Paired R xs ys→Paired R (xs.take n) (ys.take n)
  | 0,_,_,_ => .nil
  | _+1,_,_,.nil => .nil
  | n+1,_,_,.cons h r => .cons h (paired_take n r)
theorem paired_app {α β : Type} {R : α → β → Prop}:∀ {xs xs':List α} {ys ys':List β},Paired R xs ys→Paired R xs' ys'→Paired R (xs ++ xs') (ys ++ ys')
  | _,_,_,_,.nil,h=>h
  | _,_,_,_,.cons h r,q => .cons h (paired_app r q)
end Sw
namespace L2
open PySem PySem.Spec PyProof.Rows

section
variable {prog:Program} {w:World} {K:Type} [DecidableEq K] {knd:HeapKind prog w K} {A:Around} {E:Value→Shared→Prop} {s:Shared} {d:Addr} {xs:List (K × Addr × Value)}
end
section
variable {X:Cx} {pins:List (Addr × Obj)} {σ : St} {H:Hp} {s:Shared} {a b:Addr} {kvs kvs':List (NK × V)} {k:NK} {y v:V} {u r:Value} {A:Around} {E:Value→Shared→Prop}
end
section
variable {X:Cx} {o i e f value:Expr} {pos pos' apos cpos:Pos} {td ty tv:TE}
end
end L2
namespace L2
open PySem PySem.Spec PyProof.Rows

section
variable {X:Cx}
variable {o:Expr} {apos cpos:Pos} {td:TE}
end
section
variable {X:Cx} {tg l:Expr} {tl:TE}
end
end L2
namespace L2
open PySem PySem.Spec PyProof.Rows

section
variable {X:Cx} {pins:List (Addr × Obj)} {σ : St} {H:Hp} {s:Shared} {a:Addr} {kvs:List (Key × V)} {k:Key} {v:V} {u r:Value} {A:Around} {E:Value→Shared→Prop}
end
section
variable {X:Cx} {o e f:Expr} {apos cpos:Pos} {td ty tx:TE}
end
end L2
namespace PySem
section
variable {prog:Program} {w:World} {A:Around} {E:Value→Shared→Prop} {s:Shared}
end
section
variable {prog:Program} {w:World} {A:Around} {s:Shared} {R:Result→Shared→Prop} {I l:Addr} {items:Array Value}
end
section
variable {prog:Program} {w:World} {A:Around} {E:Value→Shared→Prop} {s:Shared} {I l:Addr} {items:Array Value}
end
end PySem
namespace L2
open PySem PySem.Spec PyProof.Rows
end L2
namespace L2
open PySem PySem.Spec PyProof.Rows
end L2
namespace L2
open PySem PySem.Spec PyProof.Rows
section
variable {X:Cx}
end
theorem rd_if2 {c:TT} {t u:TS} {D:Ends} {σ : St} {H:Hp} (R:Bool→Hp→Prop) (hc:∀ Q:Bool→Hp→Prop,(∀ b H',R b H'→Q b H')→c σ H Q) (h1:∀ H',R true H'→t D σ H') (h2:∀ H',R false H'→u D σ H'):tIfS c t u D σ H:=by
  refine hc _ fun b H' r => ?_
  cases b with
  | true=>exact iteT (h1 _ r)
  | false=>exact iteF (h2 _ r)
section
variable {P:Program} {w:World} {A:Around} {s:Shared}
open SeqAt MeetsSeq MeetsSeq2 MeetsSeq3 SeqRoads2
open AutoSeq1 (wpAny_loadPart')
end
end L2
namespace L2
open PySem PySem.W PySem.Calls PyProof.Rows
theorem weight_le {ns:List Int} {c:Int}:c∈ns→WData.weight (.int c)≤WData.weightAll (ns.map WData.int):=by
  induction ns with
  | nil=>intro h;cases h
  | cons n ns ih =>
    intro h
    rw [List.map_cons,WData.weightAll]
    rcases List.mem_cons.mp h with rfl | h
    · omega
    · have:=ih h;omega
theorem bits_lay {ns:List Int} (h:WData.layableAll [WData.list (ns.map WData.int)]=true):∀ c∈ns,Builtin.Int.intBits c≤1048576:=fun c hc=>by
  have h1:WData.layable (WData.list (ns.map WData.int))=true:=List.all_eq_true.mp h _ List.mem_cons_self
  have h2:=of_decide_eq_true (Bool.and_eq_true_iff.mp h1).2
  rw [WData.weight] at h2
  have h3:=weight_le hc
  rw [WData.weight] at h3
  show (if c == 0 then 0 else c.natAbs.log2+1)≤1048576
  have:(2:Nat) ^ 20=1048576:=by decide
  omega
theorem walk_ofB {l:OpenLaw} {n k:Nat} {q:Program} {loose:List Str} {XP:(Str→Option Value)→Heap→Prop} {YP:World→Heap→Prop} {d:DefRec} {K:Params→Frag} {CX:World→CXT} {sp:World→Sp} {x:Str}
    (hn:l.most=some n) (hn2:n≤sizeLine) (hdf:d.params.defaults = []) (hr:Room k callerA)
    (hY:∀ (w:World) (h:Heap),YP w h→(K w.params).In h)
    (F:∀ (w:World) (mg:Str→Option Value) (fa:Addr) (h:Heap),(K w.params).In h→h.Ns mainGlobals mg→mg d.name=some (.ref fa) →
      ∃ fd:FuncData,(∀ (s:Shared) (u:Value),BindsTo s fd ⟨[u], []⟩ [(x,u)])∧∀ base:Heap,(K w.params).In base→base.Ns mainGlobals mg→FnOk l.prog w (K w.params) mg base (CX w) k fa fd [x] (sp w))
    (hsp:∀ (w:World) (H:Hp) (a:Addr) (ns:List Int),ns.length≤n→(∀ c∈ns,Builtin.Int.intBits c≤1048576)→SqL (K w.params) H a (ns.map V.int)→sp w [.ref a] H (fun v _=>v = .bl true) fun _ _ _=>False)
    (hCX:∀ (w:World) (H:Hp) (s:Shared) (e:Value) (s':Shared),CX w [] H s (fun _ _ _=>False) e s'→False) :
    WalkO q loose XP YP l.row.toRowW d [] (fun f vs=>PySem.call f vs):=by
  intro w s0 s1 mg mb G Y fa o pm cd doc dV kV ho hd hcd hD hmg hg args vals as hpre hlay hrd hwl hlo
  have e1:=Dflts.none hD hdf
  have e2:=Dflts.noKw hD
  subst e1 e2
  obtain ⟨a,vs,ns,ev,ea,hobj,hints,hlen⟩:=Att.script_of hn hpre hwl
  subst ev ea
  have KX:=hY w _ Y
  obtain ⟨fd,hb,hF⟩:=F w mg fa _ KX G.T.g hmg
  refine enter_call (codeAny_mono (law_call KX G.T.g G.T.b G.T.builtins G.T.nolimit hg hobj hints (Nat.le_trans hlen hn2) hr hF hb (fun H _ hS=>hsp w H a ns hlen (bits_lay hlay) hS) fun H e s'=>hCX w H s1 e s') fun r s' hq => ?_)
  obtain ⟨er,h2,h3,h4⟩:=hq
  subst er
  exact ⟨.inl ⟨.bool true,.bool true, [],rfl,fun _=>rfl,.bool true,Att.post_true l _,fun _=>⟨List.Pairwise.nil,fun _ hm=>(nomatch hm)⟩⟩,h2,h3,h4⟩
end L2
namespace Sw
open PySem L2
end Sw
namespace L2
open PySem PySem.Spec PyProof.Rows
section
variable {X:Cx} {k:Nat} {y:Str} {p pos:Pos} {e:Expr} {es:List Expr} {tv:TE} {t:TA}
theorem compI_listS {K:PySem.W.Frag} {a:Addr} {xs:List V} {ct:TT} {te:TE} {σ : St} {caps:List (Str × Nat)} {H:Hp} {Q:VK} (f:V→Option V) (hS:SqL K H a xs) (hn:xs.length≤1000)
    (hel:∀ x∈xs,∀ H',Same H H'→∀ (R:Bool→Hp→Prop),(∀ H'',Same H' H''→R (f x).isSome H'')→ct (some x :: capt σ caps) H' R)
    (hev:∀ x v,x∈xs→f x=some v→∀ H',Same H H'→∀ Q':VK,(∀ H'',Same H' H''→Q' v H'')→te (some x :: capt σ caps) H' Q')
    (hq:∀ D H',H D=none→Same H H'→H' D=some (.lst (xs.filterMap f))→Q (.ref D) H') :
    CompBodyI (Itl K a) (gName 0) ct te (List.replicate 1 none ++ capt σ caps) H Q:=by
  intro D hD
  refine ⟨fun i m τ zs H'=>m=xs.length - i∧i≤xs.length∧(∃ o, τ = o :: capt σ caps)∧zs=(xs.take i).filterMap f∧Same H H'∧H' D=some (.lst zs),⟨xs.length,by simp,Nat.zero_le _,⟨none,rfl⟩,by simp,same_new hD _,upd_same⟩,?_⟩
  rintro i m τ zs H' ⟨rfl,hi,⟨o,rfl⟩,rfl,sm,hDl⟩
  refine ⟨hDl,?_⟩
  by_cases hlt:i < xs.length
  · refine .inr ⟨⟨xs,xs[i],sm.seq hS,by simp [hlt]⟩,?_,fun x H'' y => ?_⟩
    · refine small1000 (Nat.le_trans (List.length_filterMap_le _ _) ?_)
      rw [List.length_take];omega
    · obtain ⟨e,y⟩:=y
      subst e
      have hx:=y xs (sm.seq hS)
      have er:xs.take (i+1)=xs.take i ++ [x]:=by rw [List.take_add_one,hx];rfl
      show ct (some x :: capt σ caps) _ _
      refine hel x (List.mem_of_getElem? hx) _ sm _ (fun H2 s2 => ?_)
      cases e:f x with
      | none =>
        refine ⟨xs.length - (i+1),by omega,rfl,hlt,⟨_,rfl⟩,?_,sm.trans s2,s2 _ _ hDl⟩
        rw [er,List.filterMap_append,List.filterMap_cons,e];simp
      | some v =>
        refine hev x v (List.mem_of_getElem? hx) e _ (sm.trans s2) _ (fun H3 s3 => ?_)
        have hD3:=s3 _ _ (s2 _ _ hDl)
        refine ⟨hD3,xs.length - (i+1),by omega,rfl,hlt,⟨_,rfl⟩,?_,(sm.trans (s2.trans s3)).put hD,upd_same⟩
        rw [er,List.filterMap_append,List.filterMap_cons,e];simp
  · have e:i=xs.length:=by omega
    subst e
    rw [List.take_length] at hDl
    exact .inl ⟨⟨xs,sm.seq hS,Nat.le_refl _⟩,hq D H' hD sm hDl⟩
end
end L2
namespace L2
open PySem PySem.Spec PyProof.Rows
section
variable {prog:Program} {w:World} {A:Around} {R:Result→Shared→Prop} {I:Addr} {fp wr:List Addr} {n:Nat} {P:Nat→Value→Prop} {St:Nat→Heap→Prop} {kw:List (Str × Value)} {G:Heap→Prop}
end
section
variable {X:Cx} {e:Expr} {te:TE} {p pos kp cp:Pos} {j:Nat}
end
end L2
namespace L2
open PySem PySem.Spec PyProof.Rows
section
variable {P:Program} {w:World} {K:PySem.W.Frag} {mg:Str→Option Value} {base:Heap} {x m qual:Str} {st:Stmt} {N ps:List Str} {k:Nat} {sp:Sp}
end
section
variable {X:Cx} {k k':Nat} {x m:Str} {ps:List Str} {sp:Sp} {p pos apos:Pos} {e:Expr} {es:List Expr} {t:TA} {E:XK}
end
end L2
namespace L2
open PySem PySem.Spec PyProof.Rows
end L2
namespace L2
open PySem PySem.Spec PyProof.Rows
section
variable {prog:Program} {w:World} {A:Around} {R:Result→Shared→Prop} {I:Addr} {fp wr:List Addr} {n:Nat} {P:Nat→Value→Prop} {St:Nat→Heap→Prop} {kw:List (Str × Value)} {G:Heap→Prop}
end
section
variable {X:Cx} {e:Expr} {te:TE} {p pos kp cp:Pos} {j:Nat} {d:Int}
end

end L2
namespace HT
open PySem PySem.Spec PyProof.Rows
section
variable {prog:Program} {w:World} {A:Around} {E:Value→Shared→Prop} {s:Shared}
end
end HT
namespace L2
open PySem PySem.Spec PyProof.Rows
section
variable {X:Cx}
end
end L2
namespace L2
open PySem PySem.Spec PyProof.Rows
section
variable {X:Cx}
theorem abc_occ:∀ k,k < 26→Builtin.Str.occurrences ("abcdefghijklmnopqrstuvwxyz" : Str) ⟨#[97+k]⟩ 0 ("abcdefghijklmnopqrstuvwxyz" : Str).length 1 = [k]:=by decide +kernel
inductive J_abcIx (x:V) (xs:List V) (H:Hp) (Q:VK):Prop
  | mk:∀ (c:Nat),(x = .str "abcdefghijklmnopqrstuvwxyz")→(xs = [.str ⟨#[c]⟩])→(97≤c)→(c≤122)→(∀ i:Nat,Q (.int i) H)→J_abcIx x xs H Q
theorem mt_abcIx:MtR X "str.index" (fun x xs H Q=>J_abcIx x xs H Q):=by
  intro pins s σ H x xs v us Q I rx rv h
  obtain ⟨c,rfl,rfl,h1,h2,q⟩:=h
  obtain ⟨t,rfl⟩:=rx
  obtain ⟨u,rfl,ru⟩:=rv.one
  obtain ⟨t',rfl⟩:=ru
  have e:=abc_occ (c - 97) (by omega)
  rw [show 97+(c - 97)=c by omega] at e
  exact call_gives F.slot_str_index (typeIs_str _ _ _) F.entry_str_index (F.args_str_index_2 _ _) (gives_str_index _ _ t t' _ _ e) ⟨.int _,H,I.tok _,⟨_,rfl⟩,q _⟩
end
end L2
namespace Sw
open PySem L2

theorem str_ext {x y:Str} (h:x.cps.toList=y.cps.toList):x=y:=by
  cases x;cases y;simp only [Str.mk.injEq];exact Array.toList_inj.mp h
theorem slice_cps (x:Str) (lo hi:Option Int):(Txt.slice x lo hi).cps.toList=(x.cps.toList.drop (HT.sIx x.length 0 lo)).take (HT.sIx x.length x.length hi - HT.sIx x.length 0 lo):=by
  have hx:x.cps.toList.length=x.length:=by simp [Str.length]
  obtain ⟨h1,h2,h3⟩:=slice_bounds lo hi x.length
  have ha:HT.sIx x.length 0 lo≤x.length:=HT.sIx_le _ _ (Nat.zero_le _) _
  have hb:HT.sIx x.length x.length hi≤x.length:=HT.sIx_le _ _ (Nat.le_refl _) _
  have e:Builtin.Str.strSliceIndices lo hi 1 x.length=sliceRange ((HT.sIx x.length 0 lo:Nat):Int) ((HT.sIx x.length x.length hi:Nat):Int) 1:=by
    rw [← h1, ← h2]
    unfold Builtin.Str.strSliceIndices sliceBounds
    rfl
  have e2:((sliceRange ((HT.sIx x.length 0 lo:Nat):Int) ((HT.sIx x.length x.length hi:Nat):Int) 1).filterMap (x.cps[·]?))=(x.cps.toList.drop (HT.sIx x.length 0 lo)).take (HT.sIx x.length x.length hi - HT.sIx x.length 0 lo):=by
    rw [sliceRange_one,pick_run]
  unfold Txt.slice
  rw [e]
  split
  · rename_i hc
    have hl:(sliceRange ((HT.sIx x.length 0 lo:Nat):Int) ((HT.sIx x.length x.length hi:Nat):Int) 1).length=x.length:=by simpa using hc
    rw [sliceRange_one,List.length_map,List.length_range] at hl
    have ea:HT.sIx x.length 0 lo=0∨x.length=0:=by omega
    rcases ea with ea | ea
    · rw [ea,Nat.sub_zero] at hl ⊢
      rw [List.drop_zero,hl, ← hx,List.take_length]
    · have:x.cps.toList = []:=List.length_eq_zero_iff.mp (hx.trans ea)
      rw [this];simp
  · show (_:List Nat).toArray.toList=_
    rw [e2]
theorem app_cps (x y:Str):(x ++ y).cps.toList=x.cps.toList ++ y.cps.toList:=by
  rw [Str.cps_append,Array.toList_append]
theorem len_cps (x:Str):x.length=x.cps.toList.length:=by simp [Str.length]

inductive T where
  | num (n:Int)
  | name (w:Str)
  | any (w:Str)
  | of (w:Str) (ts:List T)
noncomputable def IsW (w:Str):Prop:=1≤w.length∧w.length≤8∧∀ c∈w.cps.toList,97≤c∧c≤122
mutual
noncomputable def T.parts:T→Nat
  | .num _=>1
  | .name _=>1
  | .any _=>1
  | .of _ ts=>1+T.partss ts
noncomputable def T.partss:List T→Nat
  | []=>0
  | t :: ts=>t.parts+T.partss ts
end
mutual
noncomputable def T.depth:T→Nat
  | .num _=>1
  | .name _=>1
  | .any _=>1
  | .of _ ts=>1+T.deepest ts
noncomputable def T.deepest:List T→Nat
  | []=>0
  | t :: ts=>max t.depth (T.deepest ts)
end
theorem partss_sum:∀ ts:List T,T.partss ts=(ts.map T.parts).sum
  | []=>rfl
  | t :: ts=>by rw [T.partss,partss_sum ts];rfl
theorem deepest_le:∀ {ts:List T} {t:T},t∈ts→t.depth≤T.deepest ts
  | t' :: ts,t,h=>by
    rw [T.deepest]
    rcases List.mem_cons.mp h with rfl | h
    · exact Nat.le_max_left _ _
    · exact Nat.le_trans (deepest_le h) (Nat.le_max_right _ _)
theorem deepest_is:∀ {ts:List T} {M:Nat},(∀ t∈ts,t.depth≤M)→T.deepest ts≤M
  | [],_,_=>Nat.zero_le _
  | t :: ts,M,h=>by
    rw [T.deepest]
    exact Nat.max_le.mpr ⟨h t List.mem_cons_self,deepest_is fun t ht=>h t (List.mem_cons_of_mem _ ht)⟩
theorem parts_pos:∀ t:T,1≤t.parts
  | .num _=>by rw [T.parts];exact Nat.le_refl _
  | .name _=>by rw [T.parts];exact Nat.le_refl _
  | .any _=>by rw [T.parts];exact Nat.le_refl _
  | .of _ ts=>by rw [T.parts];omega
theorem depth_pos:∀ t:T,1≤t.depth
  | .num _=>by rw [T.depth];exact Nat.le_refl _
  | .name _=>by rw [T.depth];exact Nat.le_refl _
  | .any _=>by rw [T.depth];exact Nat.le_refl _
  | .of _ ts=>by rw [T.depth];omega

mutual
noncomputable def IsTr (H:Hp):T→V→Prop
  | .num n,v=>∃ a,v = .ref a∧H a=some (.tup [.str "num",.int n])
  | .name w,v=>∃ a,v = .ref a∧H a=some (.tup [.str "name",.str w])
  | .any w,v=>∃ a,v = .ref a∧H a=some (.tup [.str "any",.str w])
  | .of w ts,v=>∃ a b vs,v = .ref a∧H a=some (.tup [.str "of",.str w,.ref b])∧H b=some (.tup vs)∧IsTrs H ts vs
noncomputable def IsTrs (H:Hp):List T→List V→Prop
  | [],vs=>vs = []
  | t :: ts,vs=>∃ v r,vs=v :: r∧IsTr H t v∧IsTrs H ts r
end
mutual
theorem tr_keep {H H':Hp} (k:∀ a xs,H a=some (.tup xs)→H' a=some (.tup xs)):∀ {t:T} {v:V},IsTr H t v→IsTr H' t v
  | .num n,v,h=>by
    rw [IsTr] at h ⊢
    obtain ⟨a,e,h⟩:=h
    exact ⟨a,e,k _ _ h⟩
  | .name n,v,h=>by
    rw [IsTr] at h ⊢
    obtain ⟨a,e,h⟩:=h
    exact ⟨a,e,k _ _ h⟩
  | .any n,v,h=>by
    rw [IsTr] at h ⊢
    obtain ⟨a,e,h⟩:=h
    exact ⟨a,e,k _ _ h⟩
  | .of w ts,v,h=>by
    rw [IsTr] at h ⊢
    obtain ⟨a,b,vs,e,h1,h2,h3⟩:=h
    exact ⟨a,b,vs,e,k _ _ h1,k _ _ h2,trs_keep k h3⟩
theorem trs_keep {H H':Hp} (k:∀ a xs,H a=some (.tup xs)→H' a=some (.tup xs)):∀ {ts:List T} {vs:List V},IsTrs H ts vs→IsTrs H' ts vs
  | [],vs,h=>by rw [IsTrs] at h ⊢;exact h
  | t :: ts,vs,h=>by
    rw [IsTrs] at h ⊢
    obtain ⟨v,r,e,h1,h2⟩:=h
    exact ⟨v,r,e,tr_keep k h1,trs_keep k h2⟩
end
theorem tr_same {H H':Hp} (s:Same H H') {t:T} {v:V} (h:IsTr H t v):IsTr H' t v:=tr_keep (fun a xs e=>s _ _ e) h
noncomputable def notTup:HO→Prop
  | .tup _=>False
  | _=>True
theorem keep_put {H:Hp} {p:Addr} {o o':HO} (hp:H p=some o) (hn:notTup o):∀ a xs,H a=some (.tup xs)→upd H p o' a=some (.tup xs):=fun a xs e=>by
  have:a≠p:=fun z=>by
    rw [z,hp] at e
    cases e
    exact hn
  rw [upd_ne this];exact e
theorem trs_len {H:Hp}:∀ {ts:List T} {vs:List V},IsTrs H ts vs→ts.length=vs.length
  | [],vs,h=>by rw [IsTrs] at h;subst h;rfl
  | t :: ts,vs,h=>by
    rw [IsTrs] at h
    obtain ⟨v,r,rfl,_,h2⟩:=h
    rw [List.length_cons,List.length_cons,trs_len h2]
theorem trs_at {H:Hp}:∀ {ts:List T} {vs:List V} {i:Nat} {v:V},IsTrs H ts vs→vs[i]? = some v→∃ t,ts[i]? = some t∧IsTr H t v
  | [],vs,i,v,h,e=>by rw [IsTrs] at h;subst h;simp at e
  | t :: ts,vs,i,v,h,e=>by
    rw [IsTrs] at h
    obtain ⟨v',r,rfl,h1,h2⟩:=h
    cases i with
    | zero=>simp at e;subst e;exact ⟨t,rfl,h1⟩
    | succ i=>simpa using trs_at (i:=i) h2 (by simpa using e)

noncomputable def sg (i:Int):Str:=⟨#[97+i.toNat]⟩
theorem sg_len (i:Int):(sg i).length=1:=rfl
theorem abc_at {i:Int} (h0:0≤i) (h1:i < 26):atI ("abcdefghijklmnopqrstuvwxyz" : Str).cps.toList i=some (97+i.toNat):=by
  have e:((i.toNat:Nat):Int)=i:=by omega
  have hj:i.toNat < 26:=by omega
  rw [← e]
  refine atI_nat ?_
  rw [Int.toNat_natCast]
  generalize i.toNat=j at hj
  revert j
  decide +kernel
noncomputable def wordA (m:Int):Str:=timesS (sg (m / 1664 % 26)) (1+m % 8).toNat
noncomputable def wordOf (m:Int):Str:=Txt.slice (wordA m) none (some (m / 8 % (1+m % 8))) ++ sg (m / 64 % 26) ++ Txt.slice (wordA m) (some (m / 8 % (1+m % 8)+1)) none
theorem wordA_cps (m:Int):(wordA m).cps.toList=List.replicate (1+m % 8).toNat (97+(m / 1664 % 26).toNat):=by
  unfold wordA timesS sg
  simp
theorem wordOf_ok (m:Int):IsW (wordOf m):=by
  have a1:0≤m % 8:=Int.emod_nonneg _ (by decide)
  have a2:m % 8 < 8:=Int.emod_lt_of_pos _ (by decide)
  have b1:0≤m / 1664 % 26:=Int.emod_nonneg _ (by decide)
  have b2:m / 1664 % 26 < 26:=Int.emod_lt_of_pos _ (by decide)
  have c1:0≤m / 64 % 26:=Int.emod_nonneg _ (by decide)
  have c2:m / 64 % 26 < 26:=Int.emod_lt_of_pos _ (by decide)
  have d1:0≤m / 8 % (1+m % 8):=Int.emod_nonneg _ (by omega)
  have d2:m / 8 % (1+m % 8) < 1+m % 8:=Int.emod_lt_of_pos _ (by omega)
  have hl:(wordA m).length=(1+m % 8).toNat:=by rw [len_cps,wordA_cps,List.length_replicate]
  have wc:=wordA_cps m
  obtain ⟨S,eS⟩:∃ S:Nat,1+m % 8=(S:Int):=⟨(1+m % 8).toNat,by omega⟩
  obtain ⟨k,ek⟩:∃ k:Nat,m / 8 % (1+m % 8)=(k:Int):=⟨_,(Int.toNat_of_nonneg d1).symm⟩
  have S1:1≤S:=by omega
  have S8:S≤8:=by omega
  have hk:k < S:=by rw [ek,eS] at d2;exact Int.ofNat_lt.mp d2
  rw [eS,Int.toNat_natCast] at hl wc
  have e1:HT.sIx S S (some (k:Int))=k:=by rw [HT.sIx_nat];exact Nat.min_eq_left (Nat.le_of_lt hk)
  have e2:HT.sIx S 0 (some ((k:Int)+1))=k+1:=by
    have e:(k:Int)+1=((k+1:Nat):Int):=rfl
    rw [e,HT.sIx_nat];exact Nat.min_eq_left hk
  have ec:(wordOf m).cps.toList=(List.replicate S (97+(m / 1664 % 26).toNat)).take k ++ [97+(m / 64 % 26).toNat] ++ (List.replicate S (97+(m / 1664 % 26).toNat)).drop (k+1):=by
    unfold wordOf
    rw [app_cps,app_cps,slice_cps,slice_cps,ek,hl,e1,e2,HT.sIx_none,HT.sIx_none,wc,List.drop_zero,Nat.sub_zero]
    congr 1
    refine List.take_of_length_le ?_
    rw [List.length_drop,List.length_replicate]
    exact Nat.le_refl _
  have el:(wordOf m).length=S:=by
    rw [len_cps,ec,List.length_append,List.length_append,List.length_take,List.length_drop,List.length_replicate,Nat.min_eq_left (Nat.le_of_lt hk)]
    show k+1+(S - (k+1))=S
    exact Nat.add_sub_cancel' hk
  clear e1 e2 hl wc hk ek eS d1 d2 a1 a2
  refine ⟨by rw [el];omega,by rw [el];omega,fun c hc => ?_⟩
  rw [ec] at hc
  rcases List.mem_append.mp hc with hc | hc
  · rcases List.mem_append.mp hc with hc | hc
    · have:=(List.mem_replicate.mp (List.mem_of_mem_take hc)).2
      omega
    · have:=List.mem_singleton.mp hc
      omega
  · have:=(List.mem_replicate.mp (List.mem_of_mem_drop hc)).2
    omega
end Sw
namespace L2
open PySem PySem.Spec PyProof.Rows
theorem vals_by:∀ {xs:List V} {us:List Value},xs.length=us.length→(∀ (j:Nat) x u,xs[j]? = some x→us[j]? = some u→RelV x u)→Vals xs us
  | [], [],_,_ => .nil
  | [],_ :: _,h,_=>by cases h
  | _ :: _, [],h,_=>by cases h
  | x :: xs,u :: us,h,f => .cons (f 0 x u rfl rfl) (vals_by (by simpa using h) fun j a b ha hb=>f (j+1) a b (by simpa using ha) (by simpa using hb))
section
variable {X:Cx}
inductive J_call_list_dict (xs:List V) (H:Hp) (Q:VK):Prop
  | mk:∀ p kvs,(xs = [.ref p])→(Rd H p (.dK kvs))→(∀ l,H l=none→Q (.ref l) (upd H l (.lst (kvs.map fun kv=>kV kv.1))))→J_call_list_dict xs H Q
theorem call_list_dict (hc:X.calm=true):CallR X (.type "list") (fun xs H Q=>J_call_list_dict xs H Q):=by
  intro pins s σ H xs us Q I r h
  obtain ⟨p,kvs,rfl,hd,q⟩:=h
  obtain ⟨u,rfl,ru⟩:=vals1 r
  cases ru
  obtain ⟨z,lo,vs,rel,dd⟩:=dk_rd I.hok hd
  obtain ⟨ep,hat⟩:=dd.dictAt
  have hl:=rel.length
  have hk:=rel.keys
  refine PySem.W.kdl_call (PySem.W.kdl_dict (knd:=mixKind X.prog X.w) (kvs:=vs) (ep:=ep) lo) (I.ok.hd hc) hat (by rw [← hl];exact z) fun h' tk acc' c' kp hS hacc => ?_
  refine ⟨.ref s.heap.objs.size,_,I.laid kp (Nat.le_refl _) (show ObjOk X.prog X.w _ h' _ (.lst (kvs.map fun kv=>kV kv.1)) from ⟨by rw [List.length_map];exact z,acc'.toList,c',?_,by simpa using hS⟩),rfl,q _ (I.hok.fresh (Nat.le_refl _))⟩
  refine vals_by (by rw [List.length_map,hl,Array.length_toList];exact hacc.1.symm) fun j x v hx hv => ?_
  obtain ⟨k,y,hkv,his⟩:=hacc.2 j v (by rw [← Array.getElem?_toList];exact hv)
  have e1:(kvs.map (·.1))[j]? = some k:=by rw [hk,List.getElem?_map,hkv];rfl
  rw [List.getElem?_map] at e1 hx
  cases e:kvs[j]? with
  | none=>rw [e] at e1;cases e1
  | some kv =>
    rw [e] at e1 hx
    have ek:kv.1=k:=Option.some.inj e1
    have ex:kV kv.1=x:=Option.some.inj hx
    rw [← ex,ek]
    rcases keyIs_shape (show keyIs k v=true from his) with ⟨i,t,rfl,rfl⟩ | ⟨y,t,rfl,rfl⟩
    · exact ⟨t,rfl⟩
    · exact ⟨t,rfl⟩
end
end L2
namespace L2
open PySem PySem.Spec PyProof.Rows
section
variable {X:Cx} {scope:Scope} {y y0:Str} {caps:List (Str × Nat)} {pins:List (Addr × Obj)} {σ : St} {H:Hp} {s:Shared} {fp:List Addr}
end
end L2
namespace L2
open PySem PySem.Spec PyProof.Rows
section
variable {X:Cx}
end
end L2
namespace L2
open PySem PySem.Spec PyProof.Rows

section
variable {prog:Program} {w:World} {A:Around} {E:Value→Shared→Prop} {s:Shared}
end
section
variable {M:Model} {A:Around} {E:Value→Shared→Prop} {qn nm:Str} {N C:Addr} {bm bs:List Value} {hdct ab:Bool} {sn:List Str} {sub:List Value} {col:Option Bool} {dd:Option Addr} {k0 k1 k2 k3 k5:Option Value} {newId:String}
end
section
variable {prog:Program} {w:World} {A:Around} {E:Value→Shared→Prop} {s:Shared} {env:Env} {qn nm:Str} {N C:Addr} {bm bs:List Value} {hdct ab:Bool} {sn:List Str} {sub:List Value} {col:Option Bool} {dd:Option Addr} {k0 k1 k2 k3 k5:Option Value} {newId:String}
end
section
variable {prog:Program} {w:World} {A:Around} {E:Value→Shared→Prop} {s:Shared} {env:Env} {qn nm:Str} {N C:Addr} {bm bs bmB:List Value} {hdct ab:Bool} {sn:List Str} {sub:List Value} {col:Option Bool} {dd:Option Addr} {k0 k1 k2 k3 k5:Option Value} {B newId initId:String}
end
section
variable {M:Model} {A:Around} {E:Value→Shared→Prop} {s:Shared}
end
end L2
namespace L2
open PySem PySem.Spec PyProof.Rows

section
variable {P:Program} {w:World} {K:PySem.W.Frag} {mg:Str→Option Value} {base:Heap} {N:List Str} {qual:Str} {scope:Scope} {f:Addr} {cdv:Value} {A:Around} {outer:List Env} {s0:Shared} {H0:Hp} {E:XK} {ea C:Addr}
end
section
variable {X:Cx} {pins:List (Addr × Obj)} {σ : St} {H0 H':Hp} {s0 s':Shared} {ea C:Addr} {a0:Value} {B h5:Heap}
end
section
variable {X:Cx} {k k':Nat} {m:Str} {C:Addr} {ps:List Str} {dvs:List V} {sp:Sp} {pos apos:Pos} {e o:Expr} {es:List Expr} {ta:TE} {t:TA} {pl:Sem Bool}
end
end L2
namespace L2
open PySem PySem.Spec PyProof.Rows

section
variable {prog:Program} {w:World} {K:Type} [DecidableEq K] {knd:HeapKind prog w K} {A:Around} {E:Value→Shared→Prop} {s:Shared} {d a:Addr} {k:K} {xs:List (K × Addr × Value)}
end
section
variable {prog:Program} {w:World} {K:Type} [DecidableEq K] (knd:HeapKind prog w K) (d a:Addr)
end
section
variable {X:Cx} {pins:List (Addr × Obj)} {σ : St} {H:Hp} {s:Shared} {a b:Addr} {kvs:List (NK × V)} {k:NK} {v:V} {A:Around} {E:Value→Shared→Prop}
end
section
variable {X:Cx} {o e:Expr} {apos cpos:Pos} {td ty:TE}
end
end L2
namespace L2
open PySem PySem.Spec PyProof.Rows
section
variable {X:Cx}
end
end L2
namespace L2
open PySem PySem.Spec PyProof.Rows
section
variable {X:Cx}
inductive J_rInsert (x:V) (vs:List V) (H:Hp) (Q:VK):Prop
  | mk:∀ (l:Addr) (xs:List V) (i:Int) (k:Nat) (y:V),(x = .ref l)→(vs = [.int i,y])→(i=(k:Int))→(H l=some (.lst xs))→(k≤xs.length)→(xs.length < 1000)→(Q .non (upd H l (.lst (xs.take k ++ y :: xs.drop k))))→J_rInsert x vs H Q
noncomputable def rInsert:V→List V→Hp→VK→Prop:=fun x vs H Q=>J_rInsert x vs H Q
theorem mt_insert:MtM X "list.insert" rInsert:=by
  intro pins s σ H x vs v us Q I rx rv h
  obtain ⟨l,xs,i,k,y,rfl,rfl,hik,hH,hk,hz,q⟩:=h
  cases rx
  cases rv with
  | cons r1 rv =>
    cases rv with
    | cons r2 rv =>
      cases rv
      obtain ⟨t,rfl⟩:=r1
      obtain ⟨z,its,n,r,hl,e⟩:=I.lstM hH
      rename_i u2
      have hf:Builtin.List.listFitsIndex i=true:=fitsIndex_both (by omega) (by omega)
      have hs:its.toArray.size≤sizeLine:=by rw [List.size_toArray, ← hl];exact z
      have hff:¬ (!Builtin.List.listFitsIndex i)=true:=by rw [hf];exact fun q=>nomatch q
      refine call_meets F.slot_list_insert ⟨_,e,rfl⟩ F.entry_list_insert (F.args_list_insert_3 (.ref l) (.int i t) u2) (AutoSeq1.list_insert_list_int_val_1 l its.toArray n i t u2 hff hs) ⟨e,?_⟩
      refine ⟨.non,_,I.lset (its':=its.take k ++ u2 :: its.drop k) hH e ?_ ((r.take k).append (.cons r2 (r.drop k))) ?_,rfl,q⟩
      · have hn:¬ (i < 0):=by omega
        have hm:min i.toNat its.length=k:=by omega
        simp [hn,hm]
        exact List.take_of_length_le (by rw [List.length_drop];omega)
      · rw [List.length_append,List.length_take,List.length_cons,List.length_drop]
        have:sizeLine ≥ 1000:=by decide
        omega
end
section
variable {X:Cx} {CX:CXT} {k k':Nat} {f C:Addr} {fd:FuncData} {ps:List Str} {sp:Sp} {dvs:List V} {ds:List Value} {E:XK} {x m:Str} {p pos apos:Pos} {e o:Expr} {es:List Expr} {ta:TE} {t:TA}
theorem run_makeX {xe:Value→Shared→Prop} {pins:List (Addr × Obj)} {σ : St} {H:Hp} {s:Shared} {Q:VK} {us:List Value} {vs:List V} (M:Mk X.K C f) (F:FnOk X.prog X.w X.K X.mg X.base CX k f fd ps sp) (hr:Room (k+1) X.A) (hb:Binds X.K fd ps ds) (hd:Vals dvs ds)
    (hx:∀ (H:Hp) (s:Shared) (e:Value) (s':Shared),Inv X pins σ H s→CX X.stack H s E e s'→xe e s') (I:Inv X pins σ H s) (r:Vals vs us)
    (h:∀ x dx,H x=none→H dx=none→dx≠x→sp (.ref x :: (vs ++ dvs)) (upd (upd H dx (.own x)) x (.ins C dx [])) (fun v H2=>v = .non∧Q (.ref x) H2) E) :
    wpAny (model X.prog X.w) X.A (call (.ref C) us) (EP X pins σ Q) xe s:=by
  have hq:=h (s.heap.objs.size+1) s.heap.objs.size (I.hok.fresh (Nat.le_succ _)) (I.hok.fresh (Nat.le_refl _)) (Nat.ne_of_lt (Nat.lt_succ_self _))
  have I2:=Inv.made (C:=C) I
  have r2:Vals (V.ref (s.heap.objs.size+1) :: (vs ++ dvs)) (Value.ref (s.heap.objs.size+1) :: (us ++ ds)) := .cons rfl (r.append hd)
  have hl:(Value.ref (s.heap.objs.size+1) :: us ++ ds).length=ps.length:=by
    have e:=r2.length
    rw [F.len _ _ _ _ hq] at e
    exact e.symm
  refine wpAny_call (make_map (f:=f) I.kIn M.makes M.init (beq_iff_eq.mp M.fn) (codeAny_mono (F.run _ X.stack _ _ ⟨Value.ref (s.heap.objs.size+1) :: us, []⟩ (Value.ref (s.heap.objs.size+1) :: (us ++ ds)) _ _ E (hr.make C us [])
    (I2.env0.make C us []) (hb _ (Value.ref (s.heap.objs.size+1) :: us) I2.kIn hl) r2 hq) fun r s' hq' => ?_))
  cases r with
  | error e=>exact hx _ _ e s' I2 hq'
  | ok fl =>
    cases fl with
    | ret u =>
      obtain ⟨v,H',I3,rv,ev,q3⟩:=I2.after hq'
      subst ev
      exact ⟨rv,⟨V.ref (s.heap.objs.size+1),H',I3,rfl,q3⟩⟩
    | next=>exact False.elim hq'
    | brk=>exact False.elim hq'
    | cont=>exact False.elim hq'
theorem pet_makeE (h:HasC X.prog X.w X.K X.mg X.base k x C ps sp) (hr:Room k' X.A) (hk:k+1≤k') (hg:Gl X x) (ha:PA X.nox (e :: es) t) (hdb:(x == ("__debug__" : Str))=false:=by decide)
    (he:starEach (e :: es) X.env=(false,eval e X.env) :: starEach es X.env:=by rfl) (hpl:(backTo pos (starEach es X.env)).any (·.1)=false:=by rfl) :
    PEt X (.Call (.Name x p) (e :: es) [] pos) (fun E=>tMake C sp [] E t):=by
  obtain ⟨f,fd,F,hm,M,hb⟩:=h.ex
  intro E pins s σ H Q xe W I h
  refine wpAny_Call_Name_kw (ld_glob I hg hm ?_ hdb)
  refine PySem.W.callWith_K (h₀ := X.base) I.ok.mod.kin M.kp (wpAny_mono (ha pos pins s σ H _ (I.wish _) h) (fun us s1 ⟨vs,H1,I1,r,q⟩=>⟨I1.unwish.kIn,?_⟩) fun _ _ z=>False.elim z) he hpl
  exact run_makeX M F (hr.mono hk) hb .nil (fun H0 s0 e s' J hq=>W H0 s0 e s' J hq) I1.unwish r q
end
end L2
namespace K41
open PySem L2 Sw
noncomputable def top (i:Nat):Stmt:=PySem.Challenge.pw_samewise_k41_rules_taken.main.body.getD i (.Pass ⟨0,0,0,0⟩)
noncomputable abbrev s_parts:Stmt:=top 10
theorem sc_parts:FnScope ["tree", "total", "arm"] ["tree"] (defScope s_parts):=⟨rfl,rfl,rfl,by decide +kernel,rfl,by decide +kernel,by decide +kernel⟩
noncomputable abbrev s_knots:Stmt:=top 11
theorem sc_knots:FnScope ["pattern", "total", "arm"] ["pattern"] (defScope s_knots):=⟨rfl,rfl,rfl,by decide +kernel,rfl,by decide +kernel,by decide +kernel⟩
noncomputable abbrev s_note_holes:Stmt:=top 13
theorem sc_note_holes:FnScope ["pattern", "found", "arm"] ["pattern", "found"] (defScope s_note_holes):=⟨rfl,rfl,rfl,by decide +kernel,rfl,by decide +kernel,by decide +kernel⟩
noncomputable abbrev s_holes:Stmt:=top 12
theorem sc_holes:FnScope ["pattern", "found"] ["pattern"] (defScope s_holes):=⟨rfl,rfl,rfl,by decide +kernel,rfl,by decide +kernel,by decide +kernel⟩
noncomputable abbrev s_is_word:Stmt:=top 17
theorem sc_is_word:FnScope ["text", "sign"] ["text"] (defScope s_is_word):=⟨rfl,rfl,rfl,by decide +kernel,rfl,by decide +kernel,by decide +kernel⟩
noncomputable abbrev s_refuse_patterns:Stmt:=top 25
theorem sc_refuse_patterns:FnScope ["left", "right", "bound", "hole"] ["left", "right"] (defScope s_refuse_patterns):=⟨rfl,rfl,rfl,by decide +kernel,rfl,by decide +kernel,by decide +kernel⟩
noncomputable abbrev s_refuse_asks:Stmt:=top 26
theorem sc_refuse_asks:FnScope ["asks", "bound", "ask"] ["asks", "bound"] (defScope s_refuse_asks):=⟨rfl,rfl,rfl,by decide +kernel,rfl,by decide +kernel,by decide +kernel⟩
noncomputable abbrev s_rinit:Stmt:=inClass (top 24) 0
theorem sc_rinit:FnScope ["self", "title", "weight", "left", "right", "asks"] ["self", "title", "weight", "left", "right", "asks"] (defScope s_rinit):=⟨rfl,rfl,rfl,by decide +kernel,rfl,by decide +kernel,by decide +kernel⟩
noncomputable abbrev s_cell_at:Stmt:=top 28
theorem sc_cell_at:FnScope ["_law_script", "_law_k"] ["_law_script", "_law_k"] (defScope s_cell_at):=⟨rfl,rfl,rfl,by decide +kernel,rfl,by decide +kernel,by decide +kernel⟩
noncomputable abbrev s_mixed:Stmt:=top 29
theorem sc_mixed:FnScope ["_law_cell", "_law_k", "_law_m"] ["_law_cell", "_law_k"] (defScope s_mixed):=⟨rfl,rfl,rfl,by decide +kernel,rfl,by decide +kernel,by decide +kernel⟩
noncomputable abbrev s_word:Stmt:=top 30
theorem sc_word:FnScope ["_law_m", "_law_signs", "_law_size", "_law_at", "_law_word_here"] ["_law_m"] (defScope s_word):=⟨rfl,rfl,rfl,by decide +kernel,rfl,by decide +kernel,by decide +kernel⟩
noncomputable abbrev s_number:Stmt:=top 31
theorem sc_number:FnScope ["_law_cell", "_law_m", "_law_most"] ["_law_cell", "_law_m"] (defScope s_number):=⟨rfl,rfl,rfl,by decide +kernel,rfl,by decide +kernel,by decide +kernel⟩
noncomputable abbrev s_pool:Stmt:=top 33
theorem sc_pool:FnScope ["_law_m", "_law_signs", "_law_word_here", "_law_at", "_law_turned", "_law_other_here"] ["_law_m"] (defScope s_pool):=⟨rfl,rfl,rfl,by decide +kernel,rfl,by decide +kernel,by decide +kernel⟩
noncomputable abbrev s_same:Stmt:=top 32
theorem sc_same:FnScope ["_law_found", "_law_due", "_law_number_here", "_law_k"] ["_law_found", "_law_due"] (defScope s_same):=⟨rfl,rfl,rfl,by decide +kernel,rfl,by decide +kernel,by decide +kernel⟩
noncomputable abbrev s_knotted:Stmt:=top 34
theorem sc_knotted:FnScope ["_law_leaves", "_law_many", "_law_m", "_law_row", "_law_k", "_law_some"] ["_law_leaves", "_law_many", "_law_m"] (defScope s_knotted):=⟨rfl,rfl,rfl,by decide +kernel,rfl,by decide +kernel,by decide +kernel⟩
noncomputable abbrev s_leaf:Stmt:=top 35
theorem sc_leaf:FnScope ["_law_cell", "_law_m", "_law_words"] ["_law_cell", "_law_m", "_law_words"] (defScope s_leaf):=⟨rfl,rfl,rfl,by decide +kernel,rfl,by decide +kernel,by decide +kernel⟩
noncomputable abbrev s_bad:Stmt:=top 36
theorem sc_bad:FnScope ["_law_m", "_law_word_here", "_law_at", "_law_signs"] ["_law_m"] (defScope s_bad):=⟨rfl,rfl,rfl,by decide +kernel,rfl,by decide +kernel,by decide +kernel⟩
noncomputable abbrev s_ask:Stmt:=top 37
theorem sc_ask:FnScope ["_law_m", "_law_bound", "_law_hole"] ["_law_m", "_law_bound"] (defScope s_ask):=⟨rfl,rfl,rfl,by decide +kernel,rfl,by decide +kernel,by decide +kernel⟩
noncomputable abbrev s_sides:Stmt:=top 38
theorem sc_sides:FnScope ["_law_script", "_law_way", "_law_pool_here", "_law_m", "_law_many", "_law_leaves", "_law_k", "_law_cell", "_law_bound", "_law_left"] ["_law_script", "_law_way", "_law_pool_here"] (defScope s_sides):=⟨rfl,rfl,rfl,by decide +kernel,rfl,by decide +kernel,by decide +kernel⟩
noncomputable abbrev s_right:Stmt:=top 39
theorem sc_right:FnScope ["_law_script", "_law_way", "_law_pool_here", "_law_bound", "_law_m", "_law_many", "_law_leaves", "_law_k", "_law_cell", "_law_strange", "_law_least", "_law_joins"] ["_law_script", "_law_way", "_law_pool_here", "_law_bound"] (defScope s_right):=⟨rfl,rfl,rfl,by decide +kernel,rfl,by decide +kernel,by decide +kernel⟩
noncomputable abbrev s_asks:Stmt:=top 40
theorem sc_asks:FnScope ["_law_script", "_law_way", "_law_pool_here", "_law_bound", "_law_m", "_law_asks_here", "_law_many", "_law_k", "_law_strange", "_law_hole", "_law_bad_here"] ["_law_script", "_law_way", "_law_pool_here", "_law_bound"] (defScope s_asks):=⟨rfl,rfl,rfl,by decide +kernel,rfl,by decide +kernel,by decide +kernel⟩
noncomputable abbrev s_other:Stmt:=top 41
theorem sc_other:FnScope ["_law_e"] ["_law_e"] (defScope s_other):=⟨rfl,rfl,rfl,by decide +kernel,rfl,by decide +kernel,by decide +kernel⟩
noncomputable abbrev s_kept:Stmt:=top 42
theorem sc_kept:FnScope ["_law_rule", "_law_title", "_law_weight", "_law_left", "_law_right_here", "_law_asks_here", "_law_k"] ["_law_rule", "_law_title", "_law_weight", "_law_left", "_law_right_here", "_law_asks_here"] (defScope s_kept):=⟨rfl,rfl,rfl,by decide +kernel,rfl,by decide +kernel,by decide +kernel⟩
noncomputable abbrev s_law:Stmt:=top 43
theorem sc_law:FnScope ["_law_script", "_law_first", "_law_way", "_law_pool_here", "_law_title", "_law_m", "_law_weight", "_law_left", "_law_bound", "_law_right_here", "_law_asks_here", "_law_handed", "_law_rule", "_law_refused", "_law_e"] ["_law_script"] (defScope s_law):=⟨rfl,rfl,rfl,by decide +kernel,rfl,by decide +kernel,by decide +kernel⟩
section
variable {P:Program} {w:World} {K:PySem.W.Frag} {mg:Str→Option Value} {base:Heap}
inductive SpCell (K:PySem.W.Frag) (vs:List V) (H:Hp) (Q:VK):Prop
  | mk (a:Addr) (ns:List Int) (k:Int) (z0:vs = [.ref a,.int k]) (z1:SqL K H a (ns.map V.int)) (z2:0≤k) (z3:∀ c:Int,Q (.int c) H):SpCell K vs H Q
noncomputable def spCell (K:PySem.W.Frag):Sp:=fun vs H Q _=>SpCell K vs H Q
theorem ok_cell_at (B:Blt mg) (D:Def K mg "_law_cell_at" s_cell_at ["_law_script", "_law_k"]):Has P w K mg base 1 "_law_cell_at" ["_law_script", "_law_k"] (spCell K):=by
  refine D.has sc_cell_at (fun vs H Q E h => ?_) (fun f cdv A outer s H vs Q E hr h => ?_)
  · obtain ⟨a,ns,k,rfl,_⟩:=h;rfl
  obtain ⟨a,ns,k,rfl,hS,h0,q⟩:=h
  refine ⟨_,(pss_cons (ps_if (pt_cmpR op_lt (pv 1) (pe_callB call_len_seq rfl B.len_ PySem.boot_len (pa_cons (pv 0) pa_nil)) (nomark _)) (pss_one (ps_ret (pe_ix ix_list (pv 0) (pv 1) (fun _ _=>rfl)))) pss_nil)
    (pss_one (ps_ret pe_int))),?_⟩
  try dsimp only [cxOf]
  refine ⟨_,rfl,_,rfl,a,_,rfl,.inl hS,k,_,rfl,rfl,_,rfl,?_⟩
  refine iteD (fun c => ?_) (fun c => ?_)
  · rw [List.length_map] at c
    have hk:k.toNat < ns.length:=by omega
    have ek:((k.toNat:Nat):Int)=k:=by omega
    have ha:atI (ns.map V.int) k=some (.int ns[k.toNat]):=by
      have z:atI (ns.map V.int) ((k.toNat:Nat):Int)=some (.int ns[k.toNat]):=atI_nat (by rw [List.getElem?_map,List.getElem?_eq_getElem hk];rfl)
      rw [ek] at z
      exact z
    exact ⟨_,rfl,_,rfl,a,_,k,_,rfl,rfl,hS,ha,q _⟩
  · exact q 0
inductive SpMixed (vs:List V) (H:Hp) (Q:VK):Prop
  | mk (c k:Int) (z0:vs = [.int c,.int k]) (z1:0≤k) (z2:k≤100000) (z3:∀ m:Int,0≤m→m < 2147483629→Q (.int m) H):SpMixed  vs H Q
noncomputable def spMixed:Sp:=fun vs H Q _=>SpMixed  vs H Q
theorem ok_mixed (D:Def K mg "_law_mixed" s_mixed ["_law_cell", "_law_k"]):Has P w K mg base 1 "_law_mixed" ["_law_cell", "_law_k"] spMixed:=by
  refine D.has sc_mixed (fun vs H Q E h => ?_) (fun f cdv A outer s H vs Q E hr h => ?_)
  · obtain ⟨c,k,rfl,_⟩:=h;rfl
  obtain ⟨c,k,rfl,h0,h1,q⟩:=h
  refine ⟨_,(pss_cons (ps_set (i:=2) sc_mixed.nd rfl (Or.inl rfl) (pe_op op_mod (pe_op op_mul (pe_op op_add (pe_op op_mod (pv 0) pe_int) pe_int) (pe_op op_add pe_int (pe_op op_mul (pe_op op_mul pe_int (pv 1)) (pv 1)))) pe_int))
    (pss_one (ps_ret (pe_op op_mod (pe_op op_mul (pv 2) (pv 2)) pe_int)))),?_⟩
  try dsimp only [cxOf]
  have p1:0≤c % 2147483647:=Int.emod_nonneg _ (by decide)
  have p2:c % 2147483647 < 2147483647:=Int.emod_lt_of_pos _ (by decide)
  refine ⟨_,rfl,c,2147483647,rfl,rfl,pos',_,_,rfl,rfl,_,rfl,2,k,rfl,rfl,.inl (by decide),_,rfl,_,_,rfl,rfl,.inl ⟨by omega,by omega⟩,_,_,rfl,rfl,_,_,rfl,rfl,.inl ⟨by omega,by omega⟩,_,_,rfl,rfl,pos',?_⟩
  have m1:0≤(c % 2147483647+1) * (48271+2 * k * k) % 2147483647:=Int.emod_nonneg _ (by decide)
  have m2:(c % 2147483647+1) * (48271+2 * k * k) % 2147483647 < 2147483647:=Int.emod_lt_of_pos _ (by decide)
  refine ⟨_,rfl,_,rfl,_,_,rfl,rfl,.inl ⟨Int.lt_of_lt_of_le (by decide) m1,Int.lt_trans m2 (by decide)⟩,_,_,rfl,rfl,pos',?_⟩
  exact q _ (Int.emod_nonneg _ (by decide)) (Int.emod_lt_of_pos _ (by decide))

inductive SpWord (vs:List V) (H:Hp) (Q:VK):Prop
  | mk (m:Int) (z0:vs = [.int m]) (z1:Q (.str (wordOf m)) H):SpWord  vs H Q
noncomputable def spWord:Sp:=fun vs H Q _=>SpWord  vs H Q
theorem ok_word (D:Def K mg "_law_word" s_word ["_law_m"]):Has P w K mg base 1 "_law_word" ["_law_m"] spWord:=by
  refine D.has sc_word (fun vs H Q E h => ?_) (fun f cdv A outer s H vs Q E hr h => ?_)
  · obtain ⟨m,rfl,_⟩:=h;rfl
  obtain ⟨m,rfl,q⟩:=h
  refine ⟨_,(pss_cons (ps_set (i:=1) sc_word.nd rfl (Or.inl rfl) pe_str)
    (pss_cons (ps_set (i:=2) sc_word.nd rfl (Or.inl rfl) (pe_op op_add pe_int (pe_op op_mod (pv 0) pe_int)))
    (pss_cons (ps_set (i:=3) sc_word.nd rfl (Or.inl rfl) (pe_op op_mod (pe_op op_fdiv (pv 0) pe_int) (pv 2)))
    (pss_cons (ps_set (i:=4) sc_word.nd rfl (Or.inl rfl) (pe_op op_mul_str0 (pe_ix ix_str (pv 1) (pe_op op_mod (pe_op op_fdiv (pv 0) pe_int) pe_int) (fun _ _=>rfl)) (pv 2)))
    (pss_one (ps_ret (pe_op op_add_str (pe_op op_add_str (pe_slice sl_str (pv 4) po_none (po_some (pv 3))) (pe_ix ix_str (pv 1) (pe_op op_mod (pe_op op_fdiv (pv 0) pe_int) pe_int) (fun _ _=>rfl))) (pe_slice sl_str (pv 4) (po_some (pe_op op_add (pv 3) pe_int)) po_none)))))))),?_⟩
  try dsimp only [cxOf]
  have a1:0≤m % 8:=Int.emod_nonneg _ (by decide)
  have a2:m % 8 < 8:=Int.emod_lt_of_pos _ (by decide)
  have b1:0≤m / 1664 % 26:=Int.emod_nonneg _ (by decide)
  have b2:m / 1664 % 26 < 26:=Int.emod_lt_of_pos _ (by decide)
  have c1:0≤m / 64 % 26:=Int.emod_nonneg _ (by decide)
  have c2:m / 64 % 26 < 26:=Int.emod_lt_of_pos _ (by decide)
  have hA:(wordA m).length≤8:=by
    unfold wordA
    rw [timesS_len,sg_len]
    omega
  have sl1:=Txt.slice_le (wordA m) none (some (m / 8 % (1+m % 8)))
  have sl2:=Txt.slice_le (wordA m) (some (m / 8 % (1+m % 8)+1)) none
  refine ⟨_,rfl,_,_,rfl,rfl,pos',_,_,rfl,rfl,?_⟩
  refine ⟨_,rfl,_,_,rfl,rfl,div',_,rfl,_,_,rfl,rfl,by omega,?_⟩
  refine ⟨_,rfl,_,rfl,_,_,rfl,rfl,div',_,_,rfl,rfl,pos',_,_,_,rfl,rfl,by decide,abc_at b1 b2,_,rfl,_,_,rfl,rfl,by omega,by omega,by show (1:Nat)≤1000;decide,?_⟩
  refine ⟨_,rfl,_,rfl,_,rfl,wordA m,rfl,Nat.le_trans hA (by decide),_,rfl,_,rfl,_,_,rfl,rfl,div',_,_,rfl,rfl,pos',_,_,_,rfl,rfl,by decide,abc_at c1 c2,_,_,rfl,rfl,?_,?_⟩
  · show (Txt.slice (wordA m) none (some (m / 8 % (1+m % 8)))).length+(sg (m / 64 % 26)).length≤sizeLine
    rw [sg_len]
    exact Nat.le_trans (by omega:_≤1000) (by decide)
  refine ⟨_,rfl,_,rfl,_,_,rfl,rfl,_,rfl,wordA m,rfl,Nat.le_trans hA (by decide),_,_,rfl,rfl,?_,?_⟩
  · show (Txt.slice (wordA m) none (some (m / 8 % (1+m % 8))) ++ sg (m / 64 % 26)).length+(Txt.slice (wordA m) (some (m / 8 % (1+m % 8)+1)) none).length≤sizeLine
    rw [Str.length_append,sg_len]
    exact Nat.le_trans (by omega:_≤1000) (by decide)
  · exact q
inductive SpNumber (vs:List V) (H:Hp) (Q:VK):Prop
  | mk (c m:Int) (z0:vs = [.int c,.int m]) (z1 : -(2 ^ 64) < m) (z2:m < 2 ^ 64) (z3:∀ n:Int, -(10 ^ 60) < n→n < 10 ^ 60→∀ H',Same H H'→Q (.int n) H'):SpNumber  vs H Q
noncomputable def spNumber:Sp:=fun vs H Q _=>SpNumber  vs H Q
theorem mod_in {x y M:Int} (hy:y=2 * M+1) (hM:0≤M) : -M≤x % y - M∧x % y - M≤M:=by
  have h1:0≤x % y:=Int.emod_nonneg _ (by omega)
  have h2:x % y < y:=Int.emod_lt_of_pos _ (by omega)
  omega
theorem ok_number (D:Def K mg "_law_number" s_number ["_law_cell", "_law_m"]):Has P w K mg base 1 "_law_number" ["_law_cell", "_law_m"] spNumber:=by
  refine D.has sc_number (fun vs H Q E h => ?_) (fun f cdv A outer s H vs Q E hr h => ?_)
  · obtain ⟨c,m,rfl,_⟩:=h;rfl
  obtain ⟨c,m,rfl,h0,h1,q⟩:=h
  have big:(10:Int) ^ (60:Int).toNat - 1=10 ^ 60 - 1:=rfl
  have hm:m.natAbs < 2 ^ 64:=by omega
  refine ⟨_,(pss_cons (ps_set (i:=2) sc_number.nd rfl (Or.inl rfl) (pe_op op_sub (pe_op op_pow pe_int pe_int) pe_int))
    (pss_cons (ps_if (pt_cmpR op_eq (pe_op op_mod (pv 1) pe_int) pe_int (nomark _)) (pss_one (ps_ret (pe_op op_sub (pe_op op_mod (pv 0) pe_int) pe_int))) pss_nil)
    (pss_cons (ps_if (pt_cmpR op_eq (pe_op op_mod (pv 1) pe_int) pe_int (nomark _)) (pss_one (ps_ret (pe_op op_sub (pe_op op_mod (pe_op op_pow (pv 1) pe_int) (pe_op op_add (pe_op op_mul pe_int (pv 2)) pe_int)) (pv 2)))) pss_nil)
    (pss_cons (ps_if (pt_cmpR op_eq (pe_op op_mod (pv 1) pe_int) pe_int (nomark _)) (pss_one (ps_ret (pe_op op_sub (pe_op op_mod (pv 0) (pe_op op_add (pe_op op_mul pe_int (pv 2)) pe_int)) (pv 2)))) pss_nil)
    (pss_one (ps_ret (pe_ix ix_list (pe_lst (pa_cons (pv 2) (pa_cons (pe_un un_neg (pv 2)) (pa_cons (pe_op op_pow pe_int pe_int) (pa_cons (pe_un un_neg (pe_op op_pow pe_int pe_int)) (pa_cons pe_int (pa_cons pe_int pa_nil))))))) (pe_op op_mod (pe_op op_fdiv (pv 1) pe_int) pe_int) (fun _ _=>rfl)))))))),?_⟩
  try dsimp only [cxOf]
  refine ⟨10,60,rfl,rfl,⟨by decide,by decide,by decide⟩,_,_,rfl,rfl,?_⟩
  refine ⟨_,rfl,_,_,rfl,rfl,pos',rfl,_,rfl,?_⟩
  refine iteD (fun _ => ?_) (fun _ => ?_)
  · have p1:0≤c % 19:=Int.emod_nonneg _ (by decide)
    have p2:c % 19 < 19:=Int.emod_lt_of_pos _ (by decide)
    exact ⟨_,rfl,_,_,rfl,rfl,pos',_,_,rfl,rfl,q _ (by omega) (by omega) _ (Same.refl _)⟩
  refine ⟨_,rfl,_,_,rfl,rfl,pos',rfl,_,rfl,?_⟩
  refine iteD (fun _ => ?_) (fun _ => ?_)
  · have z:=mod_in (x:=m ^ (11:Int).toNat) (y:=2 * ((10:Int) ^ (60:Int).toNat - 1)+1) (M:=(10:Int) ^ (60:Int).toNat - 1) rfl (by rw [big];decide)
    have z1:=Int.lt_of_lt_of_le (show -(10 ^ 60:Int) < -((10:Int) ^ (60:Int).toNat - 1) by decide) z.1
    have z2:=Int.lt_of_le_of_lt z.2 (show (10:Int) ^ (60:Int).toNat - 1 < 10 ^ 60 by decide)
    exact ⟨_,rfl,m,11,rfl,rfl,⟨by decide,by decide,hm⟩,_,rfl,2,_,rfl,rfl,.inl (by decide),_,_,rfl,rfl,_,_,rfl,rfl,(by decide:(0:Int) < 2 * ((10:Int) ^ (60:Int).toNat - 1)+1),_,rfl,_,_,rfl,rfl,q _ z1 z2 _ (Same.refl _)⟩
  refine ⟨_,rfl,_,_,rfl,rfl,pos',rfl,_,rfl,?_⟩
  refine iteD (fun _ => ?_) (fun _ => ?_)
  · have z:=mod_in (x:=c) (y:=2 * ((10:Int) ^ (60:Int).toNat - 1)+1) (M:=(10:Int) ^ (60:Int).toNat - 1) rfl (by rw [big];decide)
    have z1:=Int.lt_of_lt_of_le (show -(10 ^ 60:Int) < -((10:Int) ^ (60:Int).toNat - 1) by decide) z.1
    have z2:=Int.lt_of_le_of_lt z.2 (show (10:Int) ^ (60:Int).toNat - 1 < 10 ^ 60 by decide)
    exact ⟨_,rfl,_,rfl,2,_,rfl,rfl,.inl (by decide),_,_,rfl,rfl,_,_,rfl,rfl,(by decide:(0:Int) < 2 * ((10:Int) ^ (60:Int).toNat - 1)+1),_,rfl,_,_,rfl,rfl,q _ z1 z2 _ (Same.refl _)⟩
  have p1:0≤m / 4 % 6:=Int.emod_nonneg _ (by decide)
  have p2:m / 4 % 6 < 6:=Int.emod_lt_of_pos _ (by decide)
  refine ⟨_,rfl,_,rfl,_,rfl,10,59,rfl,rfl,⟨by decide,by decide,by decide⟩,10,59,rfl,rfl,⟨by decide,by decide,by decide⟩,_,rfl,(by show 6≤sizeLine;decide),fun p hp => ?_⟩
  refine ⟨_,rfl,_,_,rfl,rfl,div',_,_,rfl,rfl,pos',?_⟩
  have sm:Same H (upd H p (.lst [.int ((10:Int) ^ (60:Int).toNat - 1),.int (-((10:Int) ^ (60:Int).toNat - 1)),.int ((10:Int) ^ (59:Int).toNat),.int (-((10:Int) ^ (59:Int).toNat)),.int 10,.int 0])):=same_new hp _
  have fin:∀ n:Int, -(10 ^ 60) < n→n < 10 ^ 60→atI [.int ((10:Int) ^ (60:Int).toNat - 1),.int (-((10:Int) ^ (60:Int).toNat - 1)),.int ((10:Int) ^ (59:Int).toNat),.int (-((10:Int) ^ (59:Int).toNat)),V.int 10,.int 0] (m / 4 % 6)=some (.int n) →
      rIxL K (.ref p) (.int (m / 4 % 6)) (upd H p (.lst [.int ((10:Int) ^ (60:Int).toNat - 1),.int (-((10:Int) ^ (60:Int).toNat - 1)),.int ((10:Int) ^ (59:Int).toNat),.int (-((10:Int) ^ (59:Int).toNat)),.int 10,.int 0])) Q :=
    fun n n1 n2 hn=>⟨p,_,_,.int n,rfl,rfl,SqL.of upd_same,hn,q n n1 n2 _ sm⟩
  rcases (by omega:m / 4 % 6=0∨m / 4 % 6=1∨m / 4 % 6=2∨m / 4 % 6=3∨m / 4 % 6=4∨m / 4 % 6=5) with e | e | e | e | e | e
  · exact fin ((10:Int) ^ (60:Int).toNat - 1) (by decide) (by decide) (by rw [e];rfl)
  · exact fin (-((10:Int) ^ (60:Int).toNat - 1)) (by decide) (by decide) (by rw [e];rfl)
  · exact fin ((10:Int) ^ (59:Int).toNat) (by decide) (by decide) (by rw [e];rfl)
  · exact fin (-((10:Int) ^ (59:Int).toNat)) (by decide) (by decide) (by rw [e];rfl)
  · exact fin 10 (by decide) (by decide) (by rw [e];rfl)
  · exact fin 0 (by decide) (by decide) (by rw [e];rfl)
end

section
variable {P:Program} {w:World} {K:PySem.W.Frag} {mg:Str→Option Value} {base:Heap}
theorem isW_turn {z:Str} (h:IsW z) {k:Nat} (hk:k < z.length) {j:Int} (h0:0≤j) (h1:j < 26):IsW (Txt.slice z none (some ((k:Nat):Int)) ++ sg j ++ Txt.slice z (some (((k:Nat):Int)+1)) none):=by
  obtain ⟨l1,l8,hc⟩:=h
  have e1:HT.sIx z.length z.length (some (k:Int))=k:=by rw [HT.sIx_nat];exact Nat.min_eq_left (Nat.le_of_lt hk)
  have e2:HT.sIx z.length 0 (some ((k:Int)+1))=k+1:=by
    have e:(k:Int)+1=((k+1:Nat):Int):=rfl
    rw [e,HT.sIx_nat];exact Nat.min_eq_left hk
  have ec:(Txt.slice z none (some ((k:Nat):Int)) ++ sg j ++ Txt.slice z (some (((k:Nat):Int)+1)) none).cps.toList=z.cps.toList.take k ++ [97+j.toNat] ++ z.cps.toList.drop (k+1):=by
    rw [app_cps,app_cps,slice_cps,slice_cps,e1,e2,HT.sIx_none,HT.sIx_none,List.drop_zero,Nat.sub_zero]
    congr 1
    refine List.take_of_length_le ?_
    rw [List.length_drop, ← len_cps]
    exact Nat.le_refl _
  have el:(Txt.slice z none (some ((k:Nat):Int)) ++ sg j ++ Txt.slice z (some (((k:Nat):Int)+1)) none).length=z.length:=by
    rw [len_cps,ec,List.length_append,List.length_append,List.length_take,List.length_drop, ← len_cps]
    show min k z.length+1+(z.length - (k+1))=z.length
    omega
  refine ⟨by rw [el];exact l1,by rw [el];exact l8,fun c hc' => ?_⟩
  rw [ec] at hc'
  rcases List.mem_append.mp hc' with hc' | hc'
  · rcases List.mem_append.mp hc' with hc' | hc'
    · exact hc c (List.mem_of_mem_take hc')
    · have:=List.mem_singleton.mp hc'
      omega
  · exact hc c (List.mem_of_mem_drop hc')
theorem isW_more {z:Str} (h:IsW z) (hl:z.length < 8) {j:Int} (h0:0≤j) (h1:j < 26):IsW (z ++ sg j):=by
  obtain ⟨l1,l8,hc⟩:=h
  refine ⟨by rw [Str.length_append];omega,by rw [Str.length_append,sg_len];omega,fun c hc' => ?_⟩
  rw [app_cps] at hc'
  rcases List.mem_append.mp hc' with hc' | hc'
  · exact hc c hc'
  · have:=List.mem_singleton.mp (show c ∈ [97+j.toNat] from hc')
    omega
theorem isW_cut {z:Str} (h:IsW z):IsW (Txt.slice z none (some 7)):=by
  obtain ⟨l1,l8,hc⟩:=h
  have e7:HT.sIx z.length z.length (some (7:Int))=min 7 z.length:=HT.sIx_nat z.length z.length 7
  have ec:(Txt.slice z none (some 7)).cps.toList=z.cps.toList.take (min 7 z.length):=by
    rw [slice_cps,e7,HT.sIx_none,List.drop_zero,Nat.sub_zero]
  have el:(Txt.slice z none (some 7)).length=min 7 z.length:=by
    rw [len_cps,ec,List.length_take, ← len_cps];omega
  refine ⟨by rw [el];omega,by rw [el];omega,fun c hc' => ?_⟩
  rw [ec] at hc'
  exact hc c (List.mem_of_mem_take hc')
theorem turn_len {z:Str} {k:Nat} (hk:k < z.length) {j:Int}:(Txt.slice z none (some ((k:Nat):Int)) ++ sg j ++ Txt.slice z (some (((k:Nat):Int)+1)) none).length=z.length:=by
  have e1:HT.sIx z.length z.length (some (k:Int))=k:=by rw [HT.sIx_nat];exact Nat.min_eq_left (Nat.le_of_lt hk)
  have e2:HT.sIx z.length 0 (some ((k:Int)+1))=k+1:=by
    have e:(k:Int)+1=((k+1:Nat):Int):=rfl
    rw [e,HT.sIx_nat];exact Nat.min_eq_left hk
  rw [len_cps,app_cps,app_cps,slice_cps,slice_cps,e1,e2,HT.sIx_none,HT.sIx_none,List.drop_zero,Nat.sub_zero,List.length_append,List.length_append,List.length_take,List.length_take,List.length_drop, ← len_cps]
  show min k z.length+1+min (z.length - (k+1)) (z.length - (k+1))=z.length
  omega
theorem cut7_len (z:Str):(Txt.slice z none (some 7)).length=min 7 z.length:=by
  have e7:HT.sIx z.length z.length (some (7:Int))=min 7 z.length:=HT.sIx_nat z.length z.length 7
  rw [len_cps,slice_cps,e7,HT.sIx_none,List.drop_zero,Nat.sub_zero,List.length_take, ← len_cps]
  omega
structure PoolAt (H:Hp) (l:Addr) (z0 z1 z2:Str):Prop where
  at_:H l=some (.lst [.str z0,.str z1,.str z2])
  w0:IsW z0
  w1:IsW z1
  w2:IsW z2
  e1:z1.length=z0.length
  e2:z2.length≠z0.length
inductive SpPool (vs:List V) (H:Hp) (Q:VK):Prop
  | mk (m:Int) (z0:vs = [.int m]) (z1:∀ l z0 z1 z2 H',Same H H'→PoolAt H' l z0 z1 z2→Q (.ref l) H'):SpPool  vs H Q
noncomputable def spPool:Sp:=fun vs H Q _=>SpPool  vs H Q
theorem ok_pool (B:Blt mg) (h_word:Has P w K mg base 1 "_law_word" ["_law_m"] spWord) (D:Def K mg "_law_pool" s_pool ["_law_m"]):Has P w K mg base 2 "_law_pool" ["_law_m"] spPool:=by
  refine D.has sc_pool (fun vs H Q E h => ?_) (fun f cdv A outer s H vs Q E hr h => ?_)
  · obtain ⟨m,rfl,_⟩:=h;rfl
  obtain ⟨m,rfl,q⟩:=h
  refine ⟨_,(pss_cons (ps_set (i:=1) sc_pool.nd rfl (Or.inl rfl) pe_str)
    (pss_cons (ps_set (i:=2) sc_pool.nd rfl (Or.inl rfl) (pe_callH h_word hr (by omega) rfl (pa_cons (pv 0) pa_nil)))
    (pss_cons (ps_set (i:=3) sc_pool.nd rfl (Or.inl rfl) (pe_op op_mod (pe_op op_fdiv (pv 0) pe_int) (pe_callB call_len_str rfl B.len_ PySem.boot_len (pa_cons (pv 2) pa_nil))))
    (pss_cons (ps_set (i:=4) sc_pool.nd rfl (Or.inl rfl) (pe_ix ix_str (pv 1) (pe_op op_mod (pe_op op_add (pe_op op_add (pe_bm PySem.F.plainAttrs_str PySem.F.slot_str_index PySem.F.type_str_index mt_abcIx (pv 1) (pa_cons (pe_ix ix_str (pv 2) (pv 3) (fun _ _=>rfl)) pa_nil)) pe_int) (pe_op op_mod (pe_op op_fdiv (pv 0) pe_int) pe_int)) pe_int) (fun _ _=>rfl)))
    (pss_cons (ps_set (i:=5) sc_pool.nd rfl (Or.inl rfl) (pe_op op_add_str (pe_op op_add_str (pe_slice sl_str (pv 2) po_none (po_some (pv 3))) (pv 4)) (pe_slice sl_str (pv 2) (po_some (pe_op op_add (pv 3) pe_int)) po_none)))
    (pss_cons (ps_if (pt_cmpR op_lt (pe_callB call_len_str rfl B.len_ PySem.boot_len (pa_cons (pv 2) pa_nil)) pe_int (nomark _)) (pss_one (ps_ret (pe_lst (pa_cons (pv 2) (pa_cons (pv 5) (pa_cons (pe_op op_add_str (pv 2) (pe_ix ix_str (pv 1) (pe_op op_mod (pe_op op_fdiv (pv 0) pe_int) pe_int) (fun _ _=>rfl))) pa_nil)))))) pss_nil)
    (pss_one (ps_ret (pe_lst (pa_cons (pv 2) (pa_cons (pv 5) (pa_cons (pe_slice sl_str (pv 2) po_none (po_some pe_int)) pa_nil)))))))))))),?_⟩
  try dsimp only [cxOf]
  have hw:=wordOf_ok m
  refine ⟨_,rfl,m,rfl,?_⟩
  dsimp only [gName]
  generalize wordOf m=z at hw
  obtain ⟨l1,l8,hc⟩:=id hw
  have hz:z.length≤sizeLine:=Nat.le_trans l8 (by decide)
  refine ⟨_,rfl,_,_,rfl,rfl,div',_,rfl,z,rfl,hz,_,_,rfl,rfl,(by omega),?_⟩
  dsimp only [gName]
  have k0:0≤m / 7 % ((z.length:Nat):Int):=Int.emod_nonneg _ (by omega)
  have k1:m / 7 % ((z.length:Nat):Int) < ((z.length:Nat):Int):=Int.emod_lt_of_pos _ (by omega)
  obtain ⟨k,ek⟩:∃ k:Nat,m / 7 % ((z.length:Nat):Int)=(k:Int):=⟨_,(Int.toNat_of_nonneg k0).symm⟩
  rw [ek] at k1 ⊢
  have hk:k < z.length:=Int.ofNat_lt.mp k1
  have hk':k < z.cps.toList.length:=by rw [← len_cps];exact hk
  have hcm:=hc _ (List.getElem_mem hk')
  refine ⟨_,rfl,_,rfl,rfl,_,rfl,_,rfl,z,_,_,rfl,rfl,hz,atI_nat (List.getElem?_eq_getElem hk'),_,rfl,rfl,hcm.1,hcm.2,fun ix => ?_⟩
  refine ⟨_,_,rfl,rfl,_,rfl,_,_,rfl,rfl,div',_,_,rfl,rfl,pos',_,_,rfl,rfl,_,_,rfl,rfl,pos',?_⟩
  have t0:0≤((ix:Int)+1+m / 50 % 25) % 26:=Int.emod_nonneg _ (by decide)
  have t1:((ix:Int)+1+m / 50 % 25) % 26 < 26:=Int.emod_lt_of_pos _ (by decide)
  refine ⟨_,_,_,rfl,rfl,by decide,abc_at t0 t1,?_⟩
  dsimp only [gName]
  have ho:=isW_turn hw hk t0 t1
  generalize ((ix:Int)+1+m / 50 % 25) % 26=tj at t0 t1 ho ⊢
  have sl1:=Txt.slice_le z none (some ((k:Nat):Int))
  have sl2:=Txt.slice_le z (some (((k:Nat):Int)+1)) none
  refine ⟨_,rfl,_,rfl,_,rfl,z,rfl,hz,_,rfl,_,_,rfl,rfl,?_,?_⟩
  · show (Txt.slice z none (some ((k:Nat):Int))).length+(sg tj).length≤sizeLine
    rw [sg_len]
    exact Nat.le_trans (by omega:_≤1000) (by decide)
  refine ⟨_,rfl,_,rfl,_,_,rfl,rfl,_,rfl,z,rfl,hz,_,_,rfl,rfl,?_,?_⟩
  · show (Txt.slice z none (some ((k:Nat):Int)) ++ sg tj).length+(Txt.slice z (some (((k:Nat):Int)+1)) none).length≤sizeLine
    rw [Str.length_append,sg_len]
    exact Nat.le_trans (by omega:_≤1000) (by decide)
  dsimp only [gName]
  have g0:0≤m / 90 % 26:=Int.emod_nonneg _ (by decide)
  have g1:m / 90 % 26 < 26:=Int.emod_lt_of_pos _ (by decide)
  refine ⟨_,rfl,z,rfl,hz,_,_,rfl,rfl,_,rfl,iteD (fun hlt => ?_) (fun hge => ?_)⟩
  · have hl8:z.length < 8:=by omega
    refine ⟨_,rfl,_,rfl,_,rfl,_,rfl,_,rfl,_,_,rfl,rfl,div',_,_,rfl,rfl,pos',_,_,_,rfl,rfl,by decide,abc_at g0 g1,_,_,rfl,rfl,?_,(show 3≤sizeLine by decide),fun l hl => ?_⟩
    · show z.length+(sg (m / 90 % 26)).length≤sizeLine
      rw [sg_len]
      exact Nat.le_trans (by omega:_≤1000) (by decide)
    · exact q l z _ (z ++ sg (m / 90 % 26)) _ (same_new hl _) ⟨upd_same,hw,ho,isW_more hw hl8 g0 g1,turn_len hk,by rw [Str.length_append,sg_len];omega⟩
  · refine ⟨_,rfl,_,rfl,_,rfl,_,rfl,z,rfl,hz,(show 3≤sizeLine by decide),fun l hl => ?_⟩
    exact q l z _ (Txt.slice z none (some 7)) _ (same_new hl _) ⟨upd_same,hw,ho,isW_cut hw,turn_len hk,by rw [cut7_len];omega⟩
end

end K41
namespace K41
open PySem L2 Sw
section
variable {P:Program} {w:World} {K:PySem.W.Frag} {mg:Str→Option Value} {base:Heap}
noncomputable def add (acc:List Str) (x:Str):List Str:=if x∈acc then acc else acc ++ [x]
mutual
noncomputable def raw:T→List Str
  | .num _ => []
  | .name _ => []
  | .any x => [x]
  | .of _ ts=>raws ts
noncomputable def raws:List T→List Str
  | [] => []
  | t :: ts=>raw t ++ raws ts
end
noncomputable def note (t:T) (acc:List Str):List Str:=(raw t).foldl add acc
theorem mem_add {acc:List Str} {x y:Str}:y∈add acc x↔y∈acc∨y=x:=by
  unfold add
  split
  · rename_i h
    constructor
    · exact .inl
    · rintro (h' | rfl)
      · exact h'
      · exact h
  · simp
theorem mem_adds:∀ {l acc:List Str} {y:Str},y∈l.foldl add acc↔y∈acc∨y∈l
  | [],acc,y=>by simp
  | x :: l,acc,y=>by
    rw [List.foldl_cons,mem_adds (l:=l),mem_add]
    simp [or_assoc]
theorem add_len (acc:List Str) (x:Str):(add acc x).length≤acc.length+1:=by
  unfold add
  split
  · omega
  · rw [List.length_append,List.length_singleton];exact Nat.le_refl _
theorem adds_len:∀ (l acc:List Str),(l.foldl add acc).length≤acc.length+l.length
  | [],acc=>Nat.le_refl _
  | x :: l,acc=>by
    have h1:=adds_len l (add acc x)
    have h2:=add_len acc x
    rw [List.foldl_cons,List.length_cons]
    omega
mutual
theorem raw_len:∀ t:T,(raw t).length≤t.parts
  | .num _=>by rw [raw];exact Nat.zero_le _
  | .name _=>by rw [raw];exact Nat.zero_le _
  | .any _=>by rw [raw,T.parts];exact Nat.le_refl _
  | .of _ ts=>by
    rw [raw,T.parts]
    have:=raws_len ts
    omega
theorem raws_len:∀ ts:List T,(raws ts).length≤T.partss ts
  | []=>by rw [raws];exact Nat.zero_le _
  | t :: ts=>by
    rw [raws,T.partss,List.length_append]
    have:=raw_len t
    have:=raws_len ts
    omega
end
theorem raws_app:∀ (a b:List T),raws (a ++ b)=raws a ++ raws b
  | [],b=>by rw [List.nil_append,raws,List.nil_append]
  | t :: a,b=>by rw [List.cons_append,raws,raws,raws_app a b,List.append_assoc]
theorem raws_one (t:T):raws [t]=raw t:=by rw [raws,raws,List.append_nil]
theorem raws_take {ts:List T} {i:Nat} {t:T} (h:ts[i]? = some t):raws (ts.take (i+1))=raws (ts.take i) ++ raw t:=by
  rw [List.take_add_one,h,raws_app]
  show _ ++ raws [t]=_
  rw [raws_one]
noncomputable def dOf (acc:List Str):List (Key × V):=acc.map fun x=>(Sum.inr x,V.bl true)
theorem put_dOf (acc:List Str) (x:Str):putK (dOf acc) (Sum.inr x) (.bl true)=dOf (add acc x):=by
  have e:((dOf acc).any fun kv=>decide (kv.1=Sum.inr x))=decide (x∈acc):=by
    unfold dOf
    rw [List.any_map]
    induction acc with
    | nil=>rfl
    | cons y r ih =>
      rw [List.any_cons,ih]
      by_cases h:y=x
      · subst h;simp
      · have:¬ x=y:=fun z=>h z.symm
        simp [h,this]
  unfold putK add
  rw [e]
  by_cases h:x∈acc
  · rw [if_pos (decide_eq_true h),if_pos h]
    unfold dOf
    rw [List.map_map]
    apply List.map_congr_left
    intro y _
    simp only [Function.comp]
    split
    · rfl
    · rfl
  · rw [if_neg (by simpa using h),if_neg h]
    unfold dOf
    rw [List.map_append]
    rfl

theorem partss_cut (n:Nat) (ts:List T):T.partss (ts.take n)+T.partss (ts.drop n)=T.partss ts:=by
  rw [partss_sum,partss_sum,partss_sum, ← List.sum_append, ← List.map_append,List.take_append_drop]
noncomputable def spParts (n:Nat):Sp:=fun vs H Q _=>∃ v t,vs = [v]∧IsTr H t v∧t.depth≤n∧Q (.int (t.parts:Int)) H
theorem sum_take_parts (ts:List T) (i:Nat) (h:i < ts.length):T.partss (ts.take (i+1))=T.partss (ts.take i)+ts[i].parts:=by
  rw [List.take_add_one,List.getElem?_eq_getElem h]
  rw [partss_sum,partss_sum,List.map_append,List.sum_append]
  simp
theorem ok_parts (D:Def K mg "parts" s_parts ["tree"]):∀ n,Has P w K mg base n "parts" ["tree"] (spParts n)
  | 0=>by
    obtain ⟨fa,fd,F,hm,hb⟩:=D.ex
    have no:∀ vs H Q E, ¬ spParts 0 vs H Q E:=fun vs H Q E h=>by
      obtain ⟨v,t,_,_,z,_⟩:=h
      have:=depth_pos t
      omega
    exact ⟨fa,fd,⟨fun vs H Q E h=>absurd h (no vs H Q E),fun A outer s H args us vs Q E _ _ _ _ h=>absurd h (no vs H Q E)⟩,hm,F.kp,hb⟩
  | n+1=>by
    have h_parts:=ok_parts D n
    refine D.has sc_parts (fun vs H Q E h => ?_) (fun f cdv A outer s H vs Q E hr h => ?_)
    · obtain ⟨v,t,rfl,_⟩:=h;rfl
    obtain ⟨v,t,rfl,hT,hd,q⟩:=h
    refine ⟨_,(pss_cons (ps_if (pt_cmpR op_ne (pe_ix ix_tup (pv 0) pe_int (fun _ _=>rfl)) pe_str (nomark _)) (pss_one (ps_ret pe_int)) pss_nil)
    (pss_cons (ps_set (i:=1) sc_parts.nd rfl (Or.inl rfl) pe_int)
    (pss_cons (ps_for PassesOwn.never rfl (pi_tup (pe_ix ix_tup (pv 0) pe_int (fun _ _=>rfl))) (pg_name (i:=2) sc_parts.nd rfl (Or.inl rfl))
    (pss_one (ps_aug (i:=1) sc_parts.nd rfl (Or.inl rfl) (pe_callH h_parts hr (by omega) rfl (pa_cons (pv 2) pa_nil)) ip_add)))
    (pss_one (ps_ret (pv 1)))))),?_⟩
    try dsimp only [cxOf]
    cases t with
    | num k =>
      rw [IsTr] at hT
      obtain ⟨a,rfl,h⟩:=hT
      rw [T.parts] at q
      exact ⟨_,rfl,a,_,0,_,rfl,rfl,SqT.of h,atI_nat (j:=0) rfl,rfl,_,rfl,iteDN (fun _=>q) (fun z=>absurd (V.str.inj z) (by decide))⟩
    | name x =>
      rw [IsTr] at hT
      obtain ⟨a,rfl,h⟩:=hT
      rw [T.parts] at q
      exact ⟨_,rfl,a,_,0,_,rfl,rfl,SqT.of h,atI_nat (j:=0) rfl,rfl,_,rfl,iteDN (fun _=>q) (fun z=>absurd (V.str.inj z) (by decide))⟩
    | any x =>
      rw [IsTr] at hT
      obtain ⟨a,rfl,h⟩:=hT
      rw [T.parts] at q
      exact ⟨_,rfl,a,_,0,_,rfl,rfl,SqT.of h,atI_nat (j:=0) rfl,rfl,_,rfl,iteDN (fun _=>q) (fun z=>absurd (V.str.inj z) (by decide))⟩
    | of x ts =>
      rw [IsTr] at hT
      rw [T.depth] at hd
      rw [T.parts] at q
      obtain ⟨a,b,vs,rfl,ha,hb,htr⟩:=hT
      refine ⟨_,rfl,a,_,0,_,rfl,rfl,SqT.of ha,atI_nat (j:=0) rfl,rfl,_,rfl,iteDN (fun z=>absurd rfl z) (fun _ => ?_)⟩
      have hlen:=trs_len htr
      refine ⟨_,rfl,a,_,2,_,rfl,rfl,SqT.of ha,atI_nat (j:=2) rfl,b,rfl,⟨vs,SqT.of hb⟩,?_⟩
      refine for_tup (xs:=vs) (fun i σ H'=>∃ o, σ = [some (.ref a),some (.int ((1+T.partss (ts.take i):Nat):Int)),o]∧H'=H) ⟨none,rfl,rfl⟩ ?_ ?_ ?_
      · rintro i σ H' _ ⟨o,rfl,rfl⟩
        exact SqT.of hb
      · rintro i y σ H' hy ⟨o,rfl,rfl⟩
        obtain ⟨ti,hti,hTi⟩:=trs_at htr hy
        have hmem:ti∈ts:=List.mem_of_getElem? hti
        have d1:=deepest_le hmem
        obtain ⟨hi,hge⟩:=List.getElem?_eq_some_iff.mp hti
        have e:((1+T.partss (ts.take (i+1)):Nat):Int)=((1+T.partss (ts.take i):Nat):Int)+((ti.parts:Nat):Int):=by rw [sum_take_parts ts i hi,hge];omega
        refine ⟨_,rfl,_,rfl,y,ti,rfl,hTi,by omega,_,_,rfl,rfl,⟨some y,?_,rfl⟩⟩
        rw [e]
        rfl
      · rintro σ H' ⟨o,rfl,rfl⟩
        rw [← hlen,List.take_length]
        exact ⟨_,rfl,q⟩
mutual
noncomputable def knF:T→Nat
  | .num _=>0
  | .name _=>0
  | .any _=>0
  | .of _ ts=>1+knFs ts
noncomputable def knFs:List T→Nat
  | []=>0
  | t :: ts=>knF t+knFs ts
end
theorem knFs_sum:∀ ts:List T,knFs ts=(ts.map knF).sum
  | []=>by rw [knFs];rfl
  | t :: ts=>by rw [knFs,knFs_sum ts,List.map_cons,List.sum_cons]
noncomputable def spKnotsT (n:Nat):Sp:=fun vs H Q _=>∃ v t,vs = [v]∧IsTr H t v∧t.depth≤n∧Q (.int (knF t:Int)) H
theorem sum_take_knots (ts:List T) (i:Nat) (h:i < ts.length):knFs (ts.take (i+1))=knFs (ts.take i)+knF ts[i]:=by
  rw [List.take_add_one,List.getElem?_eq_getElem h]
  rw [knFs_sum,knFs_sum,List.map_append,List.sum_append]
  simp
theorem ok_knots (D:Def K mg "knots" s_knots ["pattern"]):∀ n,Has P w K mg base n "knots" ["pattern"] (spKnotsT n)
  | 0=>by
    obtain ⟨fa,fd,F,hm,hb⟩:=D.ex
    have no:∀ vs H Q E, ¬ spKnotsT 0 vs H Q E:=fun vs H Q E h=>by
      obtain ⟨v,t,_,_,z,_⟩:=h
      have:=depth_pos t
      omega
    exact ⟨fa,fd,⟨fun vs H Q E h=>absurd h (no vs H Q E),fun A outer s H args us vs Q E _ _ _ _ h=>absurd h (no vs H Q E)⟩,hm,F.kp,hb⟩
  | n+1=>by
    have h_knots:=ok_knots D n
    refine D.has sc_knots (fun vs H Q E h => ?_) (fun f cdv A outer s H vs Q E hr h => ?_)
    · obtain ⟨v,t,rfl,_⟩:=h;rfl
    obtain ⟨v,t,rfl,hT,hd,q⟩:=h
    refine ⟨_,(pss_cons (ps_if (pt_cmpR op_ne (pe_ix ix_tup (pv 0) pe_int (fun _ _=>rfl)) pe_str (nomark _)) (pss_one (ps_ret pe_int)) pss_nil)
    (pss_cons (ps_set (i:=1) sc_knots.nd rfl (Or.inl rfl) pe_int)
    (pss_cons (ps_for PassesOwn.never rfl (pi_tup (pe_ix ix_tup (pv 0) pe_int (fun _ _=>rfl))) (pg_name (i:=2) sc_knots.nd rfl (Or.inl rfl))
    (pss_one (ps_aug (i:=1) sc_knots.nd rfl (Or.inl rfl) (pe_callH h_knots hr (by omega) rfl (pa_cons (pv 2) pa_nil)) ip_add)))
    (pss_one (ps_ret (pv 1)))))),?_⟩
    try dsimp only [cxOf]
    cases t with
    | num k =>
      rw [IsTr] at hT
      obtain ⟨a,rfl,h⟩:=hT
      rw [knF] at q
      exact ⟨_,rfl,a,_,0,_,rfl,rfl,SqT.of h,atI_nat (j:=0) rfl,rfl,_,rfl,iteDN (fun _=>q) (fun z=>absurd (V.str.inj z) (by decide))⟩
    | name x =>
      rw [IsTr] at hT
      obtain ⟨a,rfl,h⟩:=hT
      rw [knF] at q
      exact ⟨_,rfl,a,_,0,_,rfl,rfl,SqT.of h,atI_nat (j:=0) rfl,rfl,_,rfl,iteDN (fun _=>q) (fun z=>absurd (V.str.inj z) (by decide))⟩
    | any x =>
      rw [IsTr] at hT
      obtain ⟨a,rfl,h⟩:=hT
      rw [knF] at q
      exact ⟨_,rfl,a,_,0,_,rfl,rfl,SqT.of h,atI_nat (j:=0) rfl,rfl,_,rfl,iteDN (fun _=>q) (fun z=>absurd (V.str.inj z) (by decide))⟩
    | of x ts =>
      rw [IsTr] at hT
      rw [T.depth] at hd
      rw [knF] at q
      obtain ⟨a,b,vs,rfl,ha,hb,htr⟩:=hT
      refine ⟨_,rfl,a,_,0,_,rfl,rfl,SqT.of ha,atI_nat (j:=0) rfl,rfl,_,rfl,iteDN (fun z=>absurd rfl z) (fun _ => ?_)⟩
      have hlen:=trs_len htr
      refine ⟨_,rfl,a,_,2,_,rfl,rfl,SqT.of ha,atI_nat (j:=2) rfl,b,rfl,⟨vs,SqT.of hb⟩,?_⟩
      refine for_tup (xs:=vs) (fun i σ H'=>∃ o, σ = [some (.ref a),some (.int ((1+knFs (ts.take i):Nat):Int)),o]∧H'=H) ⟨none,rfl,rfl⟩ ?_ ?_ ?_
      · rintro i σ H' _ ⟨o,rfl,rfl⟩
        exact SqT.of hb
      · rintro i y σ H' hy ⟨o,rfl,rfl⟩
        obtain ⟨ti,hti,hTi⟩:=trs_at htr hy
        have hmem:ti∈ts:=List.mem_of_getElem? hti
        have d1:=deepest_le hmem
        obtain ⟨hi,hge⟩:=List.getElem?_eq_some_iff.mp hti
        have e:((1+knFs (ts.take (i+1)):Nat):Int)=((1+knFs (ts.take i):Nat):Int)+((knF ti:Nat):Int):=by rw [sum_take_knots ts i hi,hge];omega
        refine ⟨_,rfl,_,rfl,y,ti,rfl,hTi,by omega,_,_,rfl,rfl,⟨some y,?_,rfl⟩⟩
        rw [e]
        rfl
      · rintro σ H' ⟨o,rfl,rfl⟩
        rw [← hlen,List.take_length]
        exact ⟨_,rfl,q⟩
noncomputable def spNote (n:Nat):Sp:=fun vs H Q _=>∃ v d t acc,vs = [v,.ref d]∧IsTr H t v∧t.depth≤n∧H d=some (.dK (dOf acc))∧acc.length+t.parts≤10000∧Q .non (upd H d (.dK (dOf (note t acc))))
theorem ok_note_holes (D:Def K mg "note_holes" s_note_holes ["pattern", "found"]):∀ n,Has P w K mg base n "note_holes" ["pattern", "found"] (spNote n)
  | 0=>by
    obtain ⟨fa,fd,F,hm,hb⟩:=D.ex
    have no:∀ vs H Q E, ¬ spNote 0 vs H Q E:=fun vs H Q E h=>by
      obtain ⟨v,d,t,acc,_,_,z,_⟩:=h
      have:=depth_pos t
      omega
    exact ⟨fa,fd,⟨fun vs H Q E h=>absurd h (no vs H Q E),fun A outer s H args us vs Q E _ _ _ _ h=>absurd h (no vs H Q E)⟩,hm,F.kp,hb⟩
  | n+1=>by
    have h_note_holes:=ok_note_holes D n
    refine D.has sc_note_holes (fun vs H Q E h => ?_) (fun f cdv A outer s H vs Q E hr h => ?_)
    · obtain ⟨v,d,t,acc,rfl,_⟩:=h;rfl
    obtain ⟨v,d,t,acc,rfl,hT,hd,hD,hz,q⟩:=h
    refine ⟨_,(pss_cons (ps_if (pt_cmpR op_eq (pe_ix ix_tup (pv 0) pe_int (fun _ _=>rfl)) pe_str (nomark _)) (pss_one (ps_dput (hu_of hr) (pv 1) (pe_ix ix_tup (pv 0) pe_int (fun _ _=>rfl)) pe_bl rfl)) pss_nil)
    (pss_one (ps_if (pt_cmpR op_eq (pe_ix ix_tup (pv 0) pe_int (fun _ _=>rfl)) pe_str (nomark _)) (pss_one (ps_for PassesOwn.never rfl (pi_tup (pe_ix ix_tup (pv 0) pe_int (fun _ _=>rfl))) (pg_name (i:=2) sc_note_holes.nd rfl (Or.inl rfl))
    (pss_one (ps_expr (pe_callH h_note_holes hr (by omega) rfl (pa_cons (pv 2) (pa_cons (pv 1) pa_nil))))))) pss_nil))),?_⟩
    try dsimp only [cxOf]
    have same0:note t acc=acc→Q .non H:=fun hn=>by
      have e:upd H d (.dK (dOf acc))=H:=by
        funext b
        by_cases hb:b=d
        · rw [hb,upd_same,hD]
        · rw [upd_ne hb]
      rw [hn,e] at q
      exact q
    cases t with
    | num k =>
      rw [IsTr] at hT
      obtain ⟨a,rfl,h⟩:=hT
      refine ⟨_,rfl,a,_,0,_,rfl,rfl,SqT.of h,atI_nat (j:=0) rfl,rfl,_,rfl,iteD (fun z=>absurd (V.str.inj z) (by decide)) (fun _ => ?_)⟩
      exact ⟨_,rfl,a,_,0,_,rfl,rfl,SqT.of h,atI_nat (j:=0) rfl,rfl,_,rfl,iteD (fun z=>absurd (V.str.inj z) (by decide)) (fun _=>same0 (by unfold note;rw [raw];rfl))⟩
    | name x =>
      rw [IsTr] at hT
      obtain ⟨a,rfl,h⟩:=hT
      refine ⟨_,rfl,a,_,0,_,rfl,rfl,SqT.of h,atI_nat (j:=0) rfl,rfl,_,rfl,iteD (fun z=>absurd (V.str.inj z) (by decide)) (fun _ => ?_)⟩
      exact ⟨_,rfl,a,_,0,_,rfl,rfl,SqT.of h,atI_nat (j:=0) rfl,rfl,_,rfl,iteD (fun z=>absurd (V.str.inj z) (by decide)) (fun _=>same0 (by unfold note;rw [raw];rfl))⟩
    | any x =>
      rw [IsTr] at hT
      obtain ⟨a,rfl,h⟩:=hT
      have en:note (.any x) acc=add acc x:=by unfold note;rw [raw];rfl
      rw [en] at q
      refine ⟨_,rfl,a,_,0,_,rfl,rfl,SqT.of h,atI_nat (j:=0) rfl,rfl,_,rfl,iteD (fun _ => ?_) (fun z=>absurd rfl z)⟩
      have kp:=keep_put (o' := .dK (dOf (add acc x))) hD trivial
      refine ⟨_,rfl,_,rfl,a,_,1,_,rfl,rfl,SqT.of h,atI_nat (j:=1) rfl,d,_,rfl,DPut.k (k:=Sum.inr x) hD ?_,?_⟩
      · unfold dOf
        rw [List.length_map]
        exact Nat.lt_of_le_of_lt (by omega:acc.length≤10000) (by decide)
      rw [put_dOf]
      refine ⟨_,rfl,a,_,0,_,rfl,rfl,SqT.of (kp _ _ h),atI_nat (j:=0) rfl,rfl,_,rfl,iteD (fun z=>absurd (V.str.inj z) (by decide)) (fun _=>q)⟩
    | of x ts =>
      rw [IsTr] at hT
      obtain ⟨a,b,vs,rfl,h,hb,hTs⟩:=hT
      rw [T.depth] at hd
      rw [T.parts] at hz
      have hlen:=trs_len hTs
      refine ⟨_,rfl,a,_,0,_,rfl,rfl,SqT.of h,atI_nat (j:=0) rfl,rfl,_,rfl,iteD (fun z=>absurd (V.str.inj z) (by decide)) (fun _ => ?_)⟩
      refine ⟨_,rfl,a,_,0,_,rfl,rfl,SqT.of h,atI_nat (j:=0) rfl,rfl,_,rfl,iteD (fun _ => ?_) (fun z=>absurd rfl z)⟩
      refine ⟨_,rfl,a,_,2,_,rfl,rfl,SqT.of h,atI_nat (j:=2) rfl,b,rfl,⟨vs,SqT.of hb⟩,?_⟩
      refine for_tup (xs:=vs) (fun i σ H'=>(∃ o, σ = [some (.ref a),some (.ref d),o])∧H'=upd H d (.dK (dOf ((raws (ts.take i)).foldl add acc)))) ⟨⟨none,rfl⟩,?_⟩ ?_ ?_ ?_
      · rw [List.take_zero,raws]
        funext c
        by_cases hc:c=d
        · rw [hc,upd_same,hD];rfl
        · rw [upd_ne hc]
      · rintro i σ H' _ ⟨_,rfl⟩
        exact SqT.of (keep_put hD trivial _ _ hb)
      · rintro i y σ H' hy ⟨⟨o,rfl⟩,rfl⟩
        obtain ⟨ti,hti,hTi⟩:=trs_at hTs hy
        have hmem:ti∈ts:=List.mem_of_getElem? hti
        have d1:=deepest_le hmem
        have et:=raws_take hti
        have l1:=adds_len (raws (ts.take i)) acc
        have l2:=raws_len (ts.take i)
        have l3:=partss_cut i ts
        have l4:ti.parts≤T.partss (ts.drop i):=by
          have e:ts.drop i=ti :: ts.drop (i+1):=by
            obtain ⟨h1,h2⟩:=List.getElem?_eq_some_iff.mp hti
            rw [List.drop_eq_getElem_cons h1,h2]
          rw [e,T.partss]
          omega
        refine ⟨_,rfl,_,rfl,y,d,ti,_,rfl,tr_keep (keep_put hD trivial) hTi,by omega,upd_same,by omega,⟨_,rfl⟩,?_⟩
        rw [upd_upd,et,List.foldl_append]
        rfl
      · rintro σ H' ⟨⟨o,rfl⟩,rfl⟩
        rw [← hlen,List.take_length]
        have en:note (.of x ts) acc=(raws ts).foldl add acc:=by unfold note;rw [raw]
        rw [en] at q
        exact q
noncomputable def spHoles (n:Nat):Sp:=fun vs H Q _=>∃ v t,vs = [v]∧IsTr H t v∧t.depth+1≤n∧t.parts≤1000∧∀ l H',Same H H'→H' l=some (.lst ((note t []).map V.str))→Q (.ref l) H'
theorem ok_holes {n:Nat} (B:Blt mg) (h_note_holes:Has P w K mg base n "note_holes" ["pattern", "found"] (spNote n)) (D:Def K mg "holes" s_holes ["pattern"]):Has P w K mg base (n+1) "holes" ["pattern"] (spHoles (n+1)):=by
  refine D.has sc_holes (fun vs H Q E h => ?_) (fun f cdv A outer s H vs Q E hr h => ?_)
  · obtain ⟨v,t,rfl,_⟩:=h;rfl
  obtain ⟨v,t,rfl,hT,hd,hz,q⟩:=h
  refine ⟨_,(pss_cons (ps_set (i:=1) sc_holes.nd rfl (Or.inl rfl) pe_dnewK)
    (pss_cons (ps_expr (pe_callH h_note_holes hr (by omega) rfl (pa_cons (pv 0) (pa_cons (pv 1) pa_nil))))
    (pss_one (ps_ret (pe_callTy (call_list_dict rfl) rfl B.list_ boot_list_ (pa_cons (pv 1) pa_nil)))))),?_⟩
  try dsimp only [cxOf]
  refine fun d hd0 => ?_
  have s1:=same_new hd0 (.dK [])
  refine ⟨_,rfl,_,rfl,v,d,t, [],rfl,tr_same s1 hT,by omega,upd_same,by simp only [List.length_nil];omega,?_⟩
  rw [upd_upd]
  have s2:=same_new hd0 (.dK (dOf (note t [])))
  refine ⟨_,rfl,d,_,rfl,.inl upd_same,fun l hl => ?_⟩
  refine q l _ (s2.trans (same_new hl _)) ?_
  rw [upd_same]
  unfold dOf
  rw [List.map_map]
  rfl
end

end K41
namespace K41
open PySem L2 Sw
section
variable {P:Program} {w:World} {K:PySem.W.Frag} {mg:Str→Option Value} {base:Heap} {CU CNR:Addr}
structure TopU (K:PySem.W.Frag) (mg:Str→Option Value) (CU CNR:Addr):Prop where
  cU:Cls K CU
  nTitle:NoAttr K CU "title"
  nWeight:NoAttr K CU "weight"
  nLeft:NoAttr K CU "left"
  nRight:NoAttr K CU "right"
  nAsks:NoAttr K CU "asks"
  g_LETTERS:∃ t,mg "LETTERS" = some (.str "abcdefghijklmnopqrstuvwxyz" t)
  g_MOST_WEIGHT:∃ t,mg "MOST_WEIGHT" = some (.int 1000000000000 t)
  g_MOST_RULE_PARTS:∃ t,mg "MOST_RULE_PARTS" = some (.int 12 t)
  g_MOST_LEFT_KNOTS:∃ t,mg "MOST_LEFT_KNOTS" = some (.int 3 t)
  g_MOST_ASKS:∃ t,mg "MOST_ASKS" = some (.int 4 t)
  g_MOST_MASK:∃ t,mg "MOST_MASK" = some (.int 7 t)
  g_MOST_LETTERS:∃ t,mg "MOST_LETTERS" = some (.int 8 t)
  oNoRule:Exc K mg "NoRule" CNR
theorem abc_no:∀ c,c < 128→¬ (97≤c∧c≤122)→Builtin.Str.occurrences ("abcdefghijklmnopqrstuvwxyz" : Str) ⟨#[c]⟩ 0 ("abcdefghijklmnopqrstuvwxyz" : Str).length 1 = []:=by decide +kernel
inductive SpIsWord (vs:List V) (H:Hp) (Q:VK):Prop
  | mk (z:Str) (z0:vs = [.str z]) (z1:(∀ c∈z.cps.toList,c < 128)) (z2:z.length≤1000) (z3:∀ b:Bool,(b=true↔IsW z)→Q (.bl b) H):SpIsWord  vs H Q
noncomputable def spIsWord:Sp:=fun vs H Q _=>SpIsWord  vs H Q
inductive IwI (H:Hp) (z:Str) (i:Nat) (σ : St) (H':Hp):Prop
  | mk (o:Option V) (e : σ = [some (.str z),o]) (eh:H'=H) (al:∀ j c,j < i→z.cps.toList[j]? = some c→97≤c∧c≤122)
theorem ok_is_word (B:Blt mg) (Z:TopU K mg CU CNR) (D:Def K mg "is_word" s_is_word ["text"]):Has P w K mg base 1 "is_word" ["text"] spIsWord:=by
  have g_LETTERS:=Z.g_LETTERS
  have g_MOST_LETTERS:=Z.g_MOST_LETTERS
  refine D.has sc_is_word (fun vs H Q E h => ?_) (fun f cdv A outer s H vs Q E hr h => ?_)
  · obtain ⟨z,rfl,_⟩:=h;rfl
  obtain ⟨z,rfl,h128,hlen,q⟩:=h
  refine ⟨_,(pss_cons (ps_if (PW.pt (pw_or (pt_cmpR op_eq (pv 0) pe_str (nomark _)) (pw_or1 (pt_cmpR op_gt (pe_callB call_len_str rfl B.len_ PySem.boot_len (pa_cons (pv 0) pa_nil)) (pe_globI g_MOST_LETTERS rfl) (nomark _))))) (pss_one (ps_ret pe_bl)) pss_nil)
    (pss_cons (ps_for PassesOwn.never rfl (pi_str (pv 0)) (pg_name (i:=1) sc_is_word.nd rfl (Or.inl rfl))
    (pss_one (ps_if (pt_cmpR op_notIn_str (pv 1) (pe_globS g_LETTERS rfl) (by with_unfolding_all rfl)) (pss_one (ps_ret pe_bl)) pss_nil)))
    (pss_one (ps_ret pe_bl)))),?_⟩
  try dsimp only [cxOf]
  have h128':z.cps.all (· < 128)=true:=by
    rw [← Array.all_toList]
    exact List.all_eq_true.mpr fun c hc'=>decide_eq_true (h128 c hc')
  refine rd_if2 (fun b Hc=>Hc=H∧(b=true→¬ IsW z)∧(b=false→1≤z.length∧z.length≤8)) (fun Qc qc=>⟨_,rfl,rfl,_,rfl,iteD (fun e=>qc _ _ ⟨rfl,fun _ w => ?_,fun x=>nomatch x⟩) (fun e=>⟨_,rfl,z,rfl,Nat.le_trans hlen (by decide),_,_,rfl,rfl,_,rfl,qc _ _ ⟨rfl,fun x w => ?_,fun x => ?_⟩⟩)⟩) ?_ ?_
  · have:=V.str.inj e
    rw [this] at w
    exact absurd w.1 (by decide)
  · have:=of_decide_eq_true x
    have:=w.2.1
    omega
  · have:=of_decide_eq_false x
    refine ⟨Nat.pos_of_ne_zero fun h0=>e ?_,by omega⟩
    have:z = "" := str_ext (by
      have:z.cps.toList = []:=List.length_eq_zero_iff.mp (by rw [← len_cps];exact h0)
      rw [this];rfl)
    rw [this]
  · rintro Hc ⟨rfl,hn,_⟩
    exact q false ⟨fun x=>(nomatch x),fun w=>absurd w (hn rfl)⟩
  rintro H ⟨rfl,_,hl⟩
  obtain ⟨l1,l8⟩:=hl rfl
  dsimp only [tNext]
  refine ⟨_,rfl,z,rfl,h128',?_⟩
  refine for_str (IwI H z) (IwI.mk none rfl rfl fun j c hj=>absurd hj (Nat.not_lt_zero _)) ?_ ?_
  · rintro i c σ H' hc' ⟨o,rfl,rfl,al⟩
    dsimp only [gName]
    have hm:=List.mem_of_getElem? hc'
    by_cases hcc:97≤c∧c≤122
    · have e:=abc_occ (c - 97) (by omega)
      rw [show 97+(c - 97)=c by omega] at e
      refine ⟨_,rfl,_,_,rfl,rfl,_,rfl,?_⟩
      rw [e]
      refine iteF (IwI.mk _ rfl rfl fun j d hj hd => ?_)
      by_cases ej:j=i
      · rw [ej,hc'] at hd
        cases hd
        exact hcc
      · exact al j d (by omega) hd
    · refine ⟨_,rfl,_,_,rfl,rfl,_,rfl,?_⟩
      rw [abc_no c (h128 c hm) hcc]
      exact iteT (q false ⟨fun x=>(nomatch x),fun w=>absurd (w.2.2 c hm) hcc⟩)
  · rintro σ H' ⟨o,rfl,rfl,al⟩
    refine q true ⟨fun _=>⟨l1,l8,fun c hc => ?_⟩,fun _=>rfl⟩
    obtain ⟨j,hj⟩:=List.getElem?_of_mem hc
    have hjl:=(List.getElem?_eq_some_iff.mp hj).1
    exact al j c (by rw [len_cps];exact hjl) hj
theorem in_strs {z:Str} {hs:List Str}:inV (.str z) (hs.map V.str)=decide (z∈hs):=by
  unfold inV
  induction hs with
  | nil=>rfl
  | cons x l ih =>
    rw [List.map_cons,List.any_cons,ih]
    have e:eqV (.str x) (.str z)=decide (x=z):=by
      show (x == z)=_
      rw [Bool.eq_iff_iff,beq_iff_eq,decide_eq_true_iff]
    rw [e,Bool.eq_iff_iff,Bool.or_eq_true,decide_eq_true_iff,decide_eq_true_iff,decide_eq_true_iff,List.mem_cons]
    exact ⟨fun h=>h.elim (fun h => .inl h.symm) .inr,fun h=>h.elim (fun h => .inl h.symm) .inr⟩
theorem flat_strs (hs:List Str):(hs.map V.str).all flatV=true:=by
  rw [List.all_eq_true]
  intro y hy
  obtain ⟨z,_,rfl⟩:=List.mem_map.mp hy
  rfl
noncomputable def isOf:T→Bool
  | .of _ _=>true
  | _=>false
noncomputable def PatOk (l r:T):Prop:=isOf l=true∧l.parts≤12∧r.parts≤12∧knF l≤3∧∀ h∈raw r,h∈raw l
theorem mem_note {t:T} {h:Str}:h∈note t []↔h∈raw t:=by unfold note;rw [mem_adds];simp
inductive SpRefP (CNR:Addr) (vs:List V) (H:Hp) (Q:VK) (E:XK):Prop
  | mk (v u:V) (l r:T) (ev:vs = [v,u]) (hv:IsTr H l v) (hu:IsTr H r u) (dl:l.depth≤14) (dr:r.depth≤14) (pl:l.parts≤100) (pr:r.parts≤100) (q1:PatOk l r→∀ H',Same H H'→Q .non H') (q2:¬ PatOk l r→∀ H',Same H H'→E (.ref CNR) none H'):SpRefP CNR vs H Q E
noncomputable def spRefP (CNR:Addr):Sp:=fun vs H Q E=>SpRefP CNR vs H Q E
inductive RpI (H:Hp) (a:V) (u:V) (l:Addr) (lt:T) (hs:List Str) (i:Nat) (σ : St) (H':Hp):Prop
  | mk (o:Option V) (e : σ = [some a,some u,some (.ref l),o]) (eh:H'=H) (al:∀ j h,j < i→hs[j]? = some h→h∈raw lt)
theorem ok_refuse_patterns (B:Blt mg) (Z:TopU K mg CU CNR) (h_parts:Has P w K mg base 14 "parts" ["tree"] (spParts 14)) (h_knots:Has P w K mg base 14 "knots" ["pattern"] (spKnotsT 14)) (h_holes:Has P w K mg base 15 "holes" ["pattern"] (spHoles 15))
    (D:Def K mg "refuse_patterns" s_refuse_patterns ["left", "right"]):HasE P w K mg base 16 "refuse_patterns" ["left", "right"] (spRefP CNR):=by
  have oNoRule:=Z.oNoRule
  have g_MOST_RULE_PARTS:=Z.g_MOST_RULE_PARTS
  have g_MOST_LEFT_KNOTS:=Z.g_MOST_LEFT_KNOTS
  refine D.hasE sc_refuse_patterns (fun vs H Q E h => ?_) (fun f cdv A outer s H vs Q E hr h => ?_)
  · obtain ⟨v,u,l,r,rfl,_⟩:=h;rfl
  obtain ⟨v,u,l,r,rfl,hv,hu,dl,dr,pl,pr,q1,q2⟩:=h
  refine ⟨_,(pss_cons (ps_if (pt_cmpR op_ne (pe_ix ix_tup (pv 0) pe_int (fun _ _=>rfl)) pe_str (nomark _)) (pss_one (ps_raise oNoRule rfl (fun _ _ _ _ _ _ _ I hx q=>flies I hx q) (pa_cons pe_str pa_nil) rfl)) pss_nil)
    (pss_cons (ps_if (PW.pt (pw_or (pt_cmpR op_gt (pe_callH h_parts hr (by omega) rfl (pa_cons (pv 0) pa_nil)) (pe_globI g_MOST_RULE_PARTS rfl) (nomark _)) (pw_or1 (pt_cmpR op_gt (pe_callH h_parts hr (by omega) rfl (pa_cons (pv 1) pa_nil)) (pe_globI g_MOST_RULE_PARTS rfl) (nomark _))))) (pss_one (ps_raise oNoRule rfl (fun _ _ _ _ _ _ _ I hx q=>flies I hx q) (pa_cons (pe_joined (pj_cons pe_str (pj_cons (pe_fmtI (pe_globI g_MOST_RULE_PARTS rfl)) (pj_cons pe_str pj_nil)))) pa_nil) rfl)) pss_nil)
    (pss_cons (ps_if (pt_cmpR op_gt (pe_callH h_knots hr (by omega) rfl (pa_cons (pv 0) pa_nil)) (pe_globI g_MOST_LEFT_KNOTS rfl) (nomark _)) (pss_one (ps_raise oNoRule rfl (fun _ _ _ _ _ _ _ I hx q=>flies I hx q) (pa_cons (pe_joined (pj_cons pe_str (pj_cons (pe_fmtI (pe_globI g_MOST_LEFT_KNOTS rfl)) (pj_cons pe_str pj_nil)))) pa_nil) rfl)) pss_nil)
    (pss_cons (ps_set (i:=2) sc_refuse_patterns.nd rfl (Or.inl rfl) (pe_callH h_holes hr (by omega) rfl (pa_cons (pv 0) pa_nil)))
    (pss_one (ps_for PassesOwn.leaving rfl (pi_list (pe_callH h_holes hr (by omega) rfl (pa_cons (pv 1) pa_nil))) (pg_name (i:=3) sc_refuse_patterns.nd rfl (Or.inl rfl))
    (pss_one (ps_if (pt_cmpR op_notIn_seq (pv 3) (pv 2) (by with_unfolding_all rfl)) (pss_one (ps_raise oNoRule rfl (fun _ _ _ _ _ _ _ I hx q=>flies I hx q) (pa_cons pe_str pa_nil) rfl)) pss_nil)))))))),?_⟩
  try dsimp only [cxOf]
  refine rd_if2 (fun b Hc=>Hc=H∧(b=true↔¬ isOf l=true)) (fun Qc qc => ?_) ?_ ?_
  · cases l with
    | num n =>
      rw [IsTr] at hv
      obtain ⟨a,rfl,h⟩:=hv
      exact ⟨_,rfl,a,_,0,_,rfl,rfl,SqT.of h,atI_nat (j:=0) rfl,rfl,_,rfl,qc _ _ ⟨rfl,⟨fun _ x=>(nomatch x),fun _=>rfl⟩⟩⟩
    | name n =>
      rw [IsTr] at hv
      obtain ⟨a,rfl,h⟩:=hv
      exact ⟨_,rfl,a,_,0,_,rfl,rfl,SqT.of h,atI_nat (j:=0) rfl,rfl,_,rfl,qc _ _ ⟨rfl,⟨fun _ x=>(nomatch x),fun _=>rfl⟩⟩⟩
    | any n =>
      rw [IsTr] at hv
      obtain ⟨a,rfl,h⟩:=hv
      exact ⟨_,rfl,a,_,0,_,rfl,rfl,SqT.of h,atI_nat (j:=0) rfl,rfl,_,rfl,qc _ _ ⟨rfl,⟨fun _ x=>(nomatch x),fun _=>rfl⟩⟩⟩
    | of x ts =>
      rw [IsTr] at hv
      obtain ⟨a,b,vs,rfl,h,_⟩:=hv
      exact ⟨_,rfl,a,_,0,_,rfl,rfl,SqT.of h,atI_nat (j:=0) rfl,rfl,_,rfl,qc _ _ ⟨rfl,⟨fun x=>(nomatch x),fun x=>absurd rfl x⟩⟩⟩
  · rintro Hc ⟨rfl,hn⟩
    exact ⟨(show 1≤sizeLine by decide),q2 (fun p=>hn.mp rfl p.1) _ (Same.refl _)⟩
  rintro H ⟨rfl,hof⟩
  have hof:isOf l=true:=by
    cases e:isOf l with
    | true=>rfl
    | false=>rw [e] at hof;exact absurd (hof.mpr (by decide)) (by decide)
  dsimp only [tNext]
  refine rd_if2 (fun b Hc=>Hc=H∧(b=true↔¬ (l.parts≤12∧r.parts≤12))) (fun Qc qc=>⟨_,rfl,v,l,rfl,hv,dl,_,_,rfl,rfl,_,rfl,iteD (fun e=>qc _ _ ⟨rfl,⟨fun _ x=>by omega,fun _=>rfl⟩⟩) (fun e=>⟨_,rfl,u,r,rfl,hu,dr,_,_,rfl,rfl,_,rfl,qc _ _ ⟨rfl,?_⟩⟩)⟩) ?_ ?_
  · rw [decide_eq_true_iff]
    exact ⟨fun x y=>by omega,fun x=>by omega⟩
  · rintro Hc ⟨rfl,hn⟩
    exact ⟨by decide,_,rfl,by decide,_,rfl,by decide,_,rfl,by decide,_,rfl,by decide,fun zz=>⟨(show 1≤sizeLine by decide),q2 (fun p=>hn.mp rfl ⟨p.2.1,p.2.2.1⟩) _ (Same.refl _)⟩⟩
  rintro H ⟨rfl,hpt⟩
  have hpt:l.parts≤12∧r.parts≤12:=Classical.byContradiction fun c=>nomatch hpt.mpr c
  dsimp only [tNext]
  refine ⟨_,rfl,v,l,rfl,hv,dl,_,_,rfl,rfl,_,rfl,iteD (fun e => ?_) (fun e => ?_)⟩
  · exact ⟨by decide,_,rfl,by decide,_,rfl,by decide,_,rfl,by decide,_,rfl,by decide,fun zz=>⟨(show 1≤sizeLine by decide),q2 (fun p=>by have:=p.2.2.2.1;omega) _ (Same.refl _)⟩⟩
  dsimp only [tNext]
  refine ⟨_,rfl,v,l,rfl,hv,(by omega),(by omega),fun lh H1 s1 hlh => ?_⟩
  dsimp only [gName]
  refine ⟨_,rfl,u,r,rfl,tr_same s1 hu,(by omega),(by omega),fun rh H2 s2 hrh=>⟨rh,rfl,⟨_,SqL.of hrh⟩,?_⟩⟩
  have hlh2:=s2 _ _ hlh
  have g2:=s1.trans s2
  refine for_list (xs:=(note r []).map V.str) (RpI H2 v u lh l (note r [])) (RpI.mk none rfl rfl fun j h hj=>absurd hj (Nat.not_lt_zero _)) ?_ ?_ ?_
  · rintro i σ H' _ ⟨o,rfl,rfl,_⟩
    exact SqL.of hrh
  · rintro i y σ H' hy ⟨o,rfl,rfl,al⟩
    rw [List.getElem?_map] at hy
    obtain ⟨h,hh,rfl⟩:=Option.map_eq_some_iff.mp hy
    dsimp only [gName]
    refine ⟨_,rfl,_,rfl,lh,_,rfl,.inl (SqL.of hlh2),rfl,flat_strs _,_,rfl,?_⟩
    rw [if_pos rfl,in_strs]
    by_cases hm:h∈note l []
    · rw [decide_eq_true hm]
      refine iteF (RpI.mk _ rfl rfl fun j d hj hd => ?_)
      by_cases ej:j=i
      · rw [ej,hh] at hd
        cases hd
        exact mem_note.mp hm
      · exact al j d (by omega) hd
    · rw [decide_eq_false hm]
      exact iteT ⟨(show 1≤sizeLine by decide),q2 (fun p=>hm (mem_note.mpr (p.2.2.2.2 h (mem_note.mp (List.mem_of_getElem? hh))))) _ g2⟩
  · rintro σ H' ⟨o,rfl,rfl,al⟩
    refine q1 ⟨hof,hpt.1,hpt.2,by omega,fun h hh => ?_⟩ _ g2
    obtain ⟨j,hj⟩:=List.getElem?_of_mem (mem_note.mpr hh)
    have hjl:=(List.getElem?_eq_some_iff.mp hj).1
    exact al j h (by rw [List.length_map];exact hjl) hj
end

end K41
namespace K41
open PySem L2 Sw
section
variable {P:Program} {w:World} {K:PySem.W.Frag} {mg:Str→Option Value} {base:Heap} {CU CNR:Addr}
inductive Ask where
  | free (h z:Str)
  | sign (h:Str) (m:Int)
  | num (h:Str)
noncomputable def Ask.hole:Ask→Str
  | .free h _=>h
  | .sign h _=>h
  | .num h=>h
noncomputable def AskAt (H:Hp) (v:V):Ask→Prop
  | .free h z=>∃ a,v = .ref a∧H a=some (.tup [.str "free",.str h,.str z])
  | .sign h m=>∃ a,v = .ref a∧H a=some (.tup [.str "sign",.str h,.int m])
  | .num h=>∃ a,v = .ref a∧H a=some (.tup [.str "number",.str h])
theorem AskAt.keep {H H':Hp} {v:V} {a:Ask} (k:∀ b ys,H b=some (.tup ys)→H' b=some (.tup ys)) (h:AskAt H v a):AskAt H' v a:=by
  cases a with
  | free x z=>obtain ⟨b,e,h⟩:=h;exact ⟨b,e,k _ _ h⟩
  | sign x m=>obtain ⟨b,e,h⟩:=h;exact ⟨b,e,k _ _ h⟩
  | num x=>obtain ⟨b,e,h⟩:=h;exact ⟨b,e,k _ _ h⟩
noncomputable def Asc (z:Str):Prop:=(∀ c∈z.cps.toList,c < 128)∧z.length≤1000
theorem isW_asc {z:Str} (h:IsW z):Asc z:=⟨fun c hc=>by have:=h.2.2 c hc;omega,by have:=h.2.1;omega⟩
noncomputable def AskA:Ask→Prop
  | .free _ z=>Asc z
  | _=>True
noncomputable def AskOk (bs:List Str):Ask→Prop
  | .free h z=>h∈bs∧IsW z
  | .sign h m=>h∈bs∧1≤m∧m≤7
  | .num h=>h∈bs
noncomputable def AsksOk (bs:List Str) (as:List Ask):Prop:=as.length≤4∧∀ a∈as,AskOk bs a
theorem paired_at {α β : Type} {R : α → β → Prop}:∀ {xs:List α} {ys:List β} {i:Nat} {x : α},Paired R xs ys→xs[i]? = some x→∃ y,ys[i]? = some y∧R x y
  | _,_,_,_,.nil,h=>by simp at h
  | _,_,0,_,.cons r _,h=>⟨_,rfl,by simp at h;rw [← h];exact r⟩
  | _,_,i+1,_,.cons _ t,h=>by
    obtain ⟨y,hy,r⟩:=paired_at (i:=i) t (by simpa using h)
    exact ⟨y,by simpa using hy,r⟩
inductive SpRefA (CNR:Addr) (vs:List V) (H:Hp) (Q:VK) (E:XK):Prop
  | mk (A L:Addr) (avs:List V) (as:List Ask) (bs:List Str) (ev:vs = [.ref A,.ref L]) (hA:H A=some (.lst avs)) (hp:Paired (AskAt H) avs as) (ha:∀ a∈as,AskA a) (hL:H L=some (.lst (bs.map V.str))) (few:as.length≤100) (q1:AsksOk bs as→Q .non H) (q2:¬ AsksOk bs as→E (.ref CNR) none H):SpRefA CNR vs H Q E
noncomputable def spRefA (CNR:Addr):Sp:=fun vs H Q E=>SpRefA CNR vs H Q E
inductive RaI (H:Hp) (A L:Addr) (as:List Ask) (bs:List Str) (i:Nat) (σ : St) (H':Hp):Prop
  | mk (o:Option V) (e : σ = [some (.ref A),some (.ref L),o]) (eh:H'=H) (al:∀ j a,j < i→as[j]? = some a→AskOk bs a)
theorem ok_refuse_asks (B:Blt mg) (Z:TopU K mg CU CNR) (h_is_word:Has P w K mg base 1 "is_word" ["text"] spIsWord) (D:Def K mg "refuse_asks" s_refuse_asks ["asks", "bound"]):HasE P w K mg base 2 "refuse_asks" ["asks", "bound"] (spRefA CNR):=by
  have oNoRule:=Z.oNoRule
  have g_MOST_ASKS:=Z.g_MOST_ASKS
  have g_MOST_MASK:=Z.g_MOST_MASK
  refine D.hasE sc_refuse_asks (fun vs H Q E h => ?_) (fun f cdv A outer s H vs Q E hr h => ?_)
  · obtain ⟨A,L,avs,as,bs,rfl,_⟩:=h;rfl
  obtain ⟨A,L,avs,as,bs,rfl,hA,hp,hasc,hL,few,q1,q2⟩:=h
  refine ⟨_,(pss_cons (ps_if (pt_cmpR op_gt (pe_callB call_len_seq rfl B.len_ PySem.boot_len (pa_cons (pv 0) pa_nil)) (pe_globI g_MOST_ASKS rfl) (nomark _)) (pss_one (ps_raise oNoRule rfl (fun _ _ _ _ _ _ _ I hx q=>flies I hx q) (pa_cons (pe_joined (pj_cons pe_str (pj_cons (pe_fmtI (pe_globI g_MOST_ASKS rfl)) (pj_cons pe_str pj_nil)))) pa_nil) rfl)) pss_nil)
    (pss_one (ps_for PassesOwn.leaving rfl (pi_list (pv 0)) (pg_name (i:=2) sc_refuse_asks.nd rfl (Or.inl rfl))
    (pss_cons (ps_if (pt_cmpR op_notIn_seq (pe_ix ix_tup (pv 2) pe_int (fun _ _=>rfl)) (pv 1) (by with_unfolding_all rfl)) (pss_one (ps_raise oNoRule rfl (fun _ _ _ _ _ _ _ I hx q=>flies I hx q) (pa_cons pe_str pa_nil) rfl)) pss_nil)
    (pss_cons (ps_if (PW.pt (pw_and (pt_cmpR op_eq (pe_ix ix_tup (pv 2) pe_int (fun _ _=>rfl)) pe_str (nomark _)) (pw_and1 (pt_not (pt_val (pe_callH h_is_word hr (by omega) rfl (pa_cons (pe_ix ix_tup (pv 2) pe_int (fun _ _=>rfl)) pa_nil))))))) (pss_one (ps_raise oNoRule rfl (fun _ _ _ _ _ _ _ I hx q=>flies I hx q) (pa_cons pe_str pa_nil) rfl)) pss_nil)
    (pss_one (ps_if (PW.pt (pw_and (pt_cmpR op_eq (pe_ix ix_tup (pv 2) pe_int (fun _ _=>rfl)) pe_str (nomark _)) (pw_and1 (PW.pt (pw_or (pt_cmpR op_lt (pe_ix ix_tup (pv 2) pe_int (fun _ _=>rfl)) pe_int (nomark _)) (pw_or1 (pt_cmpR op_gt (pe_ix ix_tup (pv 2) pe_int (fun _ _=>rfl)) (pe_globI g_MOST_MASK rfl) (nomark _)))))))) (pss_one (ps_raise oNoRule rfl (fun _ _ _ _ _ _ _ I hx q=>flies I hx q) (pa_cons (pe_joined (pj_cons pe_str (pj_cons (pe_fmtI (pe_globI g_MOST_MASK rfl)) pj_nil))) pa_nil) rfl)) pss_nil))))))),?_⟩
  try dsimp only [cxOf]
  have hpl:=Paired.length hp
  refine ⟨_,rfl,A,avs,rfl,.inl (SqL.of hA),_,_,rfl,rfl,_,rfl,iteD (fun e => ?_) (fun e => ?_)⟩
  · exact ⟨by decide,_,rfl,by decide,_,rfl,by decide,_,rfl,by decide,_,rfl,by decide,fun zz=>⟨(show 1≤sizeLine by decide),q2 fun p=>by have:=p.1;omega⟩⟩
  have h4:as.length≤4:=by omega
  dsimp only [tNext]
  refine ⟨_,rfl,A,rfl,⟨_,SqL.of hA⟩,?_⟩
  refine for_list (xs:=avs) (RaI H A L as bs) (RaI.mk none rfl rfl fun j a hj=>absurd hj (Nat.not_lt_zero _)) ?_ ?_ ?_
  · rintro i σ H' _ ⟨o,rfl,rfl,_⟩
    exact SqL.of hA
  · rintro i y σ H' hy ⟨o,rfl,rfl,al⟩
    obtain ⟨k,hk,ha⟩:=paired_at hp hy
    have hkm:=List.mem_of_getElem? hk
    have nxt:AskOk bs k→∀ j a,j < i+1→as[j]? = some a→AskOk bs a:=fun ok j a hj hja=>by
      by_cases ej:j=i
      · rw [ej,hk] at hja
        cases hja
        exact ok
      · exact al j a (by omega) hja
    have no:¬ AskOk bs k→E (.ref CNR) none H':=fun n=>q2 fun p=>n (p.2 k hkm)
    dsimp only [gName]
    cases k with
    | free x z =>
      obtain ⟨a,rfl,h⟩:=ha
      refine ⟨_,rfl,a,_,1,_,rfl,rfl,SqT.of h,atI_nat (j:=1) rfl,_,rfl,L,_,rfl,.inl (SqL.of hL),rfl,flat_strs bs,_,rfl,?_⟩
      rw [if_pos rfl,in_strs]
      by_cases hx:x∈bs
      · rw [decide_eq_true hx]
        refine iteF ?_
        dsimp only [tNext]
        obtain ⟨z1,z2⟩:=(show Asc z from hasc _ hkm)
        refine ⟨_,rfl,a,_,0,_,rfl,rfl,SqT.of h,atI_nat (j:=0) rfl,rfl,_,rfl,iteD (fun _ => ?_) (fun z=>absurd rfl z)⟩
        refine ⟨_,rfl,a,_,2,_,rfl,rfl,SqT.of h,atI_nat (j:=2) rfl,z,rfl,z1,z2,fun b hb=>⟨_,rfl,?_⟩⟩
        cases b with
        | false=>exact iteT ⟨(show 1≤sizeLine by decide),no fun p=>nomatch hb.mpr p.2⟩
        | true =>
          refine iteF ?_
          dsimp only [tNext]
          exact ⟨_,rfl,a,_,0,_,rfl,rfl,SqT.of h,atI_nat (j:=0) rfl,rfl,_,rfl,iteD (fun z=>absurd (V.str.inj z) (by decide)) (fun _=>iteF (RaI.mk _ rfl rfl (nxt ⟨hx,hb.mp rfl⟩)))⟩
      · rw [decide_eq_false hx]
        exact iteT ⟨(show 1≤sizeLine by decide),no fun p=>hx p.1⟩
    | sign x m =>
      obtain ⟨a,rfl,h⟩:=ha
      refine ⟨_,rfl,a,_,1,_,rfl,rfl,SqT.of h,atI_nat (j:=1) rfl,_,rfl,L,_,rfl,.inl (SqL.of hL),rfl,flat_strs bs,_,rfl,?_⟩
      rw [if_pos rfl,in_strs]
      by_cases hx:x∈bs
      · rw [decide_eq_true hx]
        refine iteF ?_
        dsimp only [tNext]
        refine ⟨_,rfl,a,_,0,_,rfl,rfl,SqT.of h,atI_nat (j:=0) rfl,rfl,_,rfl,iteD (fun z=>absurd (V.str.inj z) (by decide)) (fun _=>iteF ?_)⟩
        dsimp only [tNext]
        refine ⟨_,rfl,a,_,0,_,rfl,rfl,SqT.of h,atI_nat (j:=0) rfl,rfl,_,rfl,iteD (fun _ => ?_) (fun z=>absurd rfl z)⟩
        refine ⟨_,rfl,a,_,2,_,rfl,rfl,SqT.of h,atI_nat (j:=2) rfl,_,_,rfl,rfl,_,rfl,iteD (fun z=>iteT ?_) (fun z1 => ?_)⟩
        · exact ⟨by decide,_,rfl,by decide,_,rfl,by decide,_,rfl,by decide,fun zz=>⟨(show 1≤sizeLine by decide),no fun p=>by have:=p.2.1;omega⟩⟩
        refine ⟨_,rfl,a,_,2,_,rfl,rfl,SqT.of h,atI_nat (j:=2) rfl,_,_,rfl,rfl,_,rfl,iteD (fun z => ?_) (fun z2=>RaI.mk _ rfl rfl (nxt ⟨hx,by omega,by omega⟩))⟩
        exact ⟨by decide,_,rfl,by decide,_,rfl,by decide,_,rfl,by decide,fun zz=>⟨(show 1≤sizeLine by decide),no fun p=>by have:=p.2.2;omega⟩⟩
      · rw [decide_eq_false hx]
        exact iteT ⟨(show 1≤sizeLine by decide),no fun p=>hx p.1⟩
    | num x =>
      obtain ⟨a,rfl,h⟩:=ha
      refine ⟨_,rfl,a,_,1,_,rfl,rfl,SqT.of h,atI_nat (j:=1) rfl,_,rfl,L,_,rfl,.inl (SqL.of hL),rfl,flat_strs bs,_,rfl,?_⟩
      rw [if_pos rfl,in_strs]
      by_cases hx:x∈bs
      · rw [decide_eq_true hx]
        refine iteF ?_
        dsimp only [tNext]
        refine ⟨_,rfl,a,_,0,_,rfl,rfl,SqT.of h,atI_nat (j:=0) rfl,rfl,_,rfl,iteD (fun z=>absurd (V.str.inj z) (by decide)) (fun _=>iteF ?_)⟩
        dsimp only [tNext]
        exact ⟨_,rfl,a,_,0,_,rfl,rfl,SqT.of h,atI_nat (j:=0) rfl,rfl,_,rfl,iteD (fun z=>absurd (V.str.inj z) (by decide)) (fun _=>iteF (RaI.mk _ rfl rfl (nxt hx)))⟩
      · rw [decide_eq_false hx]
        exact iteT ⟨(show 1≤sizeLine by decide),no fun p=>hx p⟩
  · rintro σ H' ⟨o,rfl,rfl,al⟩
    refine q1 ⟨h4,fun a ha => ?_⟩
    obtain ⟨j,hj⟩:=List.getElem?_of_mem ha
    have hjl:=(List.getElem?_eq_some_iff.mp hj).1
    exact al j a (by omega) hj
noncomputable def RuleOk (z:Str) (wt:Int) (l r:T) (as:List Ask):Prop:=IsW z∧(1≤wt∧wt≤1000000000000)∧PatOk l r∧AsksOk (note l []) as
inductive SpRInit (CU CNR:Addr) (vs:List V) (H:Hp) (Q:VK) (E:XK):Prop
  | mk (o dx A:Addr) (z:Str) (wt:Int) (vl vr:V) (l r:T) (avs:List V) (as:List Ask) (ev:vs = [.ref o,.str z,.int wt,vl,vr,.ref A]) (ho:H o=some (.ins CU dx [])) (hz:Asc z) (hl:IsTr H l vl) (hr:IsTr H r vr) (dl:l.depth≤14) (dr:r.depth≤14) (pl:l.parts≤100) (pr:r.parts≤100)
    (hA:H A=some (.lst avs)) (hp:Paired (AskAt H) avs as) (ha:∀ a∈as,AskA a) (few:as.length≤100)
    (q1:RuleOk z wt l r as→∀ H' A2,(∀ b u,b≠o→H b=some u→H' b=some u)→H A2=none→H' A2=some (.lst avs)→H' o=some (.ins CU dx [("title",.str z),("weight",.int wt),("left",vl),("right",vr),("asks",.ref A2)])→Q .non H')
    (q2:¬ RuleOk z wt l r as→∀ H',Same H H'→E (.ref CNR) none H'):SpRInit CU CNR vs H Q E
noncomputable def spRInit (CU CNR:Addr):Sp:=fun vs H Q E=>SpRInit CU CNR vs H Q E
theorem ok_rinit (B:Blt mg) (Z:TopU K mg CU CNR) (h_is_word:Has P w K mg base 1 "is_word" ["text"] spIsWord) (h_refuse_patterns:HasE P w K mg base 16 "refuse_patterns" ["left", "right"] (spRefP CNR)) (h_refuse_asks:HasE P w K mg base 2 "refuse_asks" ["asks", "bound"] (spRefA CNR)) (h_holes:Has P w K mg base 15 "holes" ["pattern"] (spHoles 15))
    (D:DefC K mg "Rule" CU "Rule.__init__" s_rinit ["self", "title", "weight", "left", "right", "asks"]):HasC P w K mg base 17 "Rule" CU ["self", "title", "weight", "left", "right", "asks"] (spRInit CU CNR):=by
  have oNoRule:=Z.oNoRule
  have g_MOST_WEIGHT:=Z.g_MOST_WEIGHT
  refine D.has sc_rinit (fun vs H Q E h => ?_) (fun f cdv A outer s H vs Q E hr h => ?_)
  · obtain ⟨o,dx,A,z,wt,vl,vr,l,r,avs,as,rfl,_⟩:=h;rfl
  obtain ⟨o,dx,A,z,wt,vl,vr,l,r,avs,as,rfl,ho,hz,hl,hr',dl,dr,pl,pr,hA,hp,hasc,few,q,q2⟩:=h
  refine ⟨_,(pss_cons (ps_if (pt_not (pt_val (pe_callH h_is_word hr (by omega) rfl (pa_cons (pv 1) pa_nil)))) (pss_one (ps_raise oNoRule rfl (fun _ _ _ _ _ _ _ I hx q=>flies I hx q) (pa_cons pe_str pa_nil) rfl)) pss_nil)
    (pss_cons (ps_if (PW.pt (pw_or (pt_cmpR op_lt (pv 2) pe_int (nomark _)) (pw_or1 (pt_cmpR op_gt (pv 2) (pe_globI g_MOST_WEIGHT rfl) (nomark _))))) (pss_one (ps_raise oNoRule rfl (fun _ _ _ _ _ _ _ I hx q=>flies I hx q) (pa_cons (pe_joined (pj_cons pe_str (pj_cons (pe_fmtI (pe_globI g_MOST_WEIGHT rfl)) pj_nil))) pa_nil) rfl)) pss_nil)
    (pss_cons (ps_expr (pe_callE h_refuse_patterns hr (by omega) (passE fun _ _ _ z=>z) rfl (pa_cons (pv 3) (pa_cons (pv 4) pa_nil))))
    (pss_cons (ps_expr (pe_callE h_refuse_asks hr (by omega) (passE fun _ _ _ z=>z) rfl (pa_cons (pv 5) (pa_cons (pe_callH h_holes hr (by omega) rfl (pa_cons (pv 3) pa_nil)) pa_nil))))
    (pss_cons (ps_fld (pv 0) (pv 1) rfl)
    (pss_cons (ps_fld (pv 0) (pv 2) rfl)
    (pss_cons (ps_fld (pv 0) (pv 3) rfl)
    (pss_cons (ps_fld (pv 0) (pv 4) rfl)
    (pss_one (ps_fld (pv 0) (pe_callTy call_list_of rfl B.list_ boot_list_ (pa_cons (pv 5) pa_nil)) rfl)))))))))),?_⟩
  try dsimp only [cxOf]
  refine ⟨_,rfl,z,rfl,hz.1,hz.2,fun b hb=>⟨_,rfl,?_⟩⟩
  cases b with
  | false=>exact iteT ⟨(show 1≤sizeLine by decide),q2 (fun p=>nomatch hb.mpr p.1) _ (Same.refl _)⟩
  | true =>
  have hw:IsW z:=hb.mp rfl
  refine iteF ?_
  dsimp only [tNext]
  refine ⟨_,rfl,_,_,rfl,rfl,_,rfl,iteD (fun e=>iteT ?_) (fun e1=>⟨_,rfl,_,_,rfl,rfl,_,rfl,iteD (fun e => ?_) (fun e2 => ?_)⟩)⟩
  · exact ⟨by decide,_,rfl,by decide,_,rfl,by decide,_,rfl,by decide,fun zz=>⟨(show 1≤sizeLine by decide),q2 (fun p=>by have:=p.2.1.1;omega) _ (Same.refl _)⟩⟩
  · exact ⟨by decide,_,rfl,by decide,_,rfl,by decide,_,rfl,by decide,fun zz=>⟨(show 1≤sizeLine by decide),q2 (fun p=>by have:=p.2.1.2;omega) _ (Same.refl _)⟩⟩
  have w12:1≤wt∧wt≤1000000000000:=⟨by omega,by omega⟩
  dsimp only [tNext]
  refine ⟨_,rfl,_,rfl,SpRefP.mk vl vr l r rfl hl hr' dl dr pl pr (fun pok H1 s1 => ?_) (fun n H' s'=>q2 (fun p=>n p.2.2.1) _ s')⟩
  refine ⟨_,rfl,_,rfl,vl,l,rfl,tr_same s1 hl,(by omega),(by omega),fun lh H2 s2 hlh => ?_⟩
  have g2:=s1.trans s2
  refine SpRefA.mk A lh avs as (note l []) rfl (g2 _ _ hA) (Paired.mapP hp fun _ _ y=>y.keep fun b ys=>g2 _ _) hasc hlh few (fun aok => ?_) (fun n=>q2 (fun p=>n p.2.2.2) _ g2)
  have ho2:=g2 _ _ ho
  have hAo:A≠o:=ne_of hA ho (fun z=>nomatch z)
  have k2:∀ b u,b≠o→H b=some u→H2 b=some u:=fun b u _ h=>g2 _ _ h
  have f2:∀ b,H2 b=none→H b=none:=fun b h=>g2.free h
  refine ⟨_,rfl,_,rfl,o,CU,dx,_,rfl,ho2,Z.cU,Z.nTitle,by decide,?_⟩
  refine ⟨_,rfl,_,rfl,o,CU,dx,_,rfl,upd_same,Z.cU,Z.nWeight,(show 1 < 1000 by decide),?_⟩
  rw [upd_upd]
  refine ⟨_,rfl,_,rfl,o,CU,dx,_,rfl,upd_same,Z.cU,Z.nLeft,(show 2 < 1000 by decide),?_⟩
  rw [upd_upd]
  refine ⟨_,rfl,_,rfl,o,CU,dx,_,rfl,upd_same,Z.cU,Z.nRight,(show 3 < 1000 by decide),?_⟩
  rw [upd_upd]
  refine ⟨_,rfl,A,avs,rfl,.inl (SqL.of (by rw [upd_ne hAo];exact g2 _ _ hA)),fun A2 hA2 => ?_⟩
  have hA2o:A2≠o:=fun e=>by rw [e,upd_same] at hA2;cases hA2
  have hA20:H A2=none:=f2 _ (by rw [upd_ne hA2o] at hA2;exact hA2)
  refine ⟨_,rfl,o,CU,dx, [("title",.str z),("weight",.int wt),("left",vl),("right",vr)],rfl,(by rw [upd_ne (Ne.symm hA2o),upd_same];rfl),Z.cU,Z.nAsks,(show 4 < 1000 by decide),?_⟩
  refine q ⟨hw,w12,pok,aok⟩ _ A2 (fun b u n h => ?_) hA20 ?_ upd_same
  · rw [upd_ne n,upd_ne (ne_of_none h hA20),upd_ne n];exact k2 b u n h
  · rw [upd_ne hA2o];exact upd_same
end

end K41
namespace K41
open PySem L2 Sw
section
variable {P:Program} {w:World} {K:PySem.W.Frag} {mg:Str→Option Value} {base:Heap} {CU CNR:Addr}
noncomputable abbrev Prs (H:Hp):List V→List T→Prop:=Paired (fun v t=>IsTr H t v)
theorem prs_trs {H:Hp} {vs:List V} {ts:List T} (h:Prs H vs ts):IsTrs H ts vs:=by
  induction h with
  | nil=>rw [IsTrs]
  | cons r _ ih=>rw [IsTrs];exact ⟨_,_,rfl,r,ih⟩
theorem prs_keep {H H':Hp} {vs:List V} {ts:List T} (k:∀ a xs,H a=some (.tup xs)→H' a=some (.tup xs)) (h:Prs H vs ts):Prs H' vs ts:=Paired.mapP h fun _ _ z=>tr_keep k z
theorem prs_same {H H':Hp} {vs:List V} {ts:List T} (s:Same H H') (h:Prs H vs ts):Prs H' vs ts:=prs_keep (fun a xs e=>s _ _ e) h
theorem cut_take (xs:List V):cutV xs none (some 4)=xs.take 4:=by
  unfold cutV
  have e:HT.sIx xs.length xs.length (some (4:Int))=min 4 xs.length:=HT.sIx_nat xs.length xs.length 4
  rw [e,HT.sIx_none,List.drop_zero,Nat.sub_zero]
  rcases Nat.le_total 4 xs.length with h | h
  · rw [Nat.min_eq_left h]
  · rw [Nat.min_eq_right h,List.take_length,List.take_of_length_le h]
theorem cut_drop (xs:List V):cutV xs (some 4) none=xs.drop 4:=by
  unfold cutV
  have e:HT.sIx xs.length 0 (some (4:Int))=min 4 xs.length:=HT.sIx_nat xs.length 0 4
  rw [e,HT.sIx_none]
  rcases Nat.le_total 4 xs.length with h | h
  · rw [Nat.min_eq_left h]
    exact List.take_of_length_le (by rw [List.length_drop];exact Nat.le_refl _)
  · rw [Nat.min_eq_right h,List.drop_length,List.drop_of_length_le h,List.take_nil]
theorem mem_raws {h:Str}:∀ {ts:List T},h∈raws ts↔∃ t∈ts,h∈raw t
  | []=>by rw [raws];simp
  | t :: ts=>by rw [raws,List.mem_append,mem_raws (ts:=ts)];simp
structure RowI (lts:List T) (i:Nat) (rs:List T):Prop where
  parts:T.partss rs=T.partss lts+i
  kn:knFs rs=knFs lts+i
  dep:∀ t∈rs,t.depth≤T.deepest lts+i
  raw_:∀ h,h∈raws rs↔h∈raws lts
  pos:0 < rs.length
  le:rs.length≤lts.length
structure KnOk (lts:List T) (n:Nat) (t:T):Prop where
  of_:isOf t=true
  parts:t.parts=T.partss lts+n
  kn:knF t=knFs lts+n
  dep:t.depth≤T.deepest lts+n
  raw_:∀ h,h∈raw t↔h∈raws lts
theorem RowI.of {lts rs:List T} {i:Nat} (h:RowI lts i rs) (x:Str):KnOk lts (i+1) (.of x rs):=by
  refine ⟨rfl,by rw [T.parts,h.parts];omega,by rw [knF,h.kn];omega,?_,fun z=>by rw [raw];exact h.raw_ z⟩
  rw [T.depth]
  have:=deepest_is h.dep
  omega
theorem row_step {lts rs:List T} {i k:Nat} (h:RowI lts i rs) (x:Str) (hk:k≤(rs.drop 4).length):RowI lts (i+1) ((rs.drop 4).take k ++ .of x (rs.take 4) :: (rs.drop 4).drop k):=by
  have mem:∀ t,t∈(rs.drop 4).take k ++ .of x (rs.take 4) :: (rs.drop 4).drop k↔t∈rs.drop 4∨t = .of x (rs.take 4):=fun t=>by
    rw [List.mem_append,List.mem_cons]
    constructor
    · rintro (z | z | z)
      · exact .inl (List.mem_of_mem_take z)
      · exact .inr z
      · exact .inl (List.mem_of_mem_drop z)
    · rintro (z | z)
      · rw [← List.take_append_drop k (rs.drop 4)] at z
        rcases List.mem_append.mp z with z | z
        · exact .inl z
        · exact .inr (.inr z)
      · exact .inr (.inl z)
  have ps:T.partss rs=T.partss (rs.take 4)+T.partss (rs.drop 4):=(partss_cut 4 rs).symm
  have ks:knFs rs=knFs (rs.take 4)+knFs (rs.drop 4):=by rw [knFs_sum,knFs_sum,knFs_sum, ← List.sum_append, ← List.map_append,List.take_append_drop]
  refine ⟨?_,?_,fun t ht => ?_,fun z => ?_,?_,?_⟩
  · have e:=partss_cut k (rs.drop 4)
    have hp:=h.parts
    rw [partss_sum,List.map_append,List.sum_append,List.map_cons,List.sum_cons, ← partss_sum, ← partss_sum,T.parts]
    omega
  · have e:knFs (rs.drop 4)=knFs ((rs.drop 4).take k)+knFs ((rs.drop 4).drop k):=by rw [knFs_sum,knFs_sum,knFs_sum, ← List.sum_append, ← List.map_append,List.take_append_drop]
    have hp:=h.kn
    rw [knFs_sum,List.map_append,List.sum_append,List.map_cons,List.sum_cons, ← knFs_sum, ← knFs_sum,knF]
    omega
  · rcases (mem t).mp ht with z | z
    · have:=h.dep t (List.mem_of_mem_drop z)
      omega
    · rw [z,T.depth]
      have:=deepest_is (ts:=rs.take 4) (M:=T.deepest lts+i) fun u hu=>h.dep u (List.mem_of_mem_take hu)
      omega
  · rw [← h.raw_ z,mem_raws,mem_raws]
    constructor
    · rintro ⟨t,ht,hz⟩
      rcases (mem t).mp ht with y | y
      · exact ⟨t,List.mem_of_mem_drop y,hz⟩
      · rw [y,raw,mem_raws] at hz
        obtain ⟨u,hu,hz⟩:=hz
        exact ⟨u,List.mem_of_mem_take hu,hz⟩
    · rintro ⟨t,ht,hz⟩
      rw [← List.take_append_drop 4 rs] at ht
      rcases List.mem_append.mp ht with y | y
      · exact ⟨_,(mem _).mpr (.inr rfl),by rw [raw,mem_raws];exact ⟨t,y,hz⟩⟩
      · exact ⟨t,(mem t).mpr (.inl y),hz⟩
  · rw [List.length_append,List.length_cons];omega
  · have hp:=h.pos
    have hl:=h.le
    simp only [List.length_append,List.length_cons,List.length_take,List.length_drop] at hk ⊢
    omega
inductive SpKnotted (vs:List V) (H:Hp) (Q:VK):Prop
  | mk (A:Addr) (lvs:List V) (lts:List T) (n:Nat) (m:Int) (ev:vs = [.ref A,nV n,.int m]) (hA:H A=some (.lst lvs)) (hp:Prs H lvs lts) (pos:0 < lts.length) (few:lts.length≤20) (n1:1≤n) (n13:n≤13) (q:∀ v t H',Same H H'→IsTr H' t v→KnOk lts n t→Q v H'):SpKnotted vs H Q
noncomputable def spKnotted:Sp:=fun vs H Q _=>SpKnotted vs H Q
inductive KnI (H:Hp) (A:Addr) (n:Nat) (m:Int) (lts:List T) (i:Nat) (σ : St) (H':Hp):Prop
  | mk (R:Addr) (rvs:List V) (rs:List T) (x4 x5:Option V) (e : σ = [some (.ref A),some (nV n),some (.int m),some (.ref R),x4,x5]) (sm:Same H H') (hR:H' R=some (.lst rvs)) (hp:Prs H' rvs rs) (ri:RowI lts i rs)
theorem ok_knotted (B:Blt mg) (h_word:Has P w K mg base 1 "_law_word" ["_law_m"] spWord) (D:Def K mg "_law_knotted" s_knotted ["_law_leaves", "_law_many", "_law_m"]):Has P w K mg base 2 "_law_knotted" ["_law_leaves", "_law_many", "_law_m"] spKnotted:=by
  refine D.has sc_knotted (fun vs H Q E h => ?_) (fun f cdv A outer s H vs Q E hr h => ?_)
  · obtain ⟨A,lvs,lts,n,m,rfl,_⟩:=h;rfl
  obtain ⟨A,lvs,lts,n,m,rfl,hA,hp,pos,few,n1,n13,q⟩:=h
  refine ⟨_,(pss_cons (ps_set (i:=3) sc_knotted.nd rfl (Or.inl rfl) (pe_callTy call_list_of rfl B.list_ boot_list_ (pa_cons (pv 0) pa_nil)))
    (pss_cons (ps_for PassesOwn.never rfl (pi_range1 rfl B.range_ (pa_cons (pe_op op_sub (pv 1) pe_int) pa_nil)) (pg_name (i:=4) sc_knotted.nd rfl (Or.inl rfl))
    (pss_cons (ps_set (i:=5) sc_knotted.nd rfl (Or.inl rfl) (pe_tup (pa_cons pe_str (pa_cons (pe_callH h_word hr (by omega) rfl (pa_cons (pe_op op_fdiv (pv 2) (pe_op op_add (pv 4) pe_int)) pa_nil)) (pa_cons (pe_callTy call_tuple_of rfl B.tuple_ boot_tuple_ (pa_cons (pe_slice sl_list (pv 3) po_none (po_some pe_int)) pa_nil)) pa_nil)))))
    (pss_cons (ps_set (i:=3) sc_knotted.nd rfl (Or.inl rfl) (pe_slice sl_list (pv 3) (po_some pe_int) po_none))
    (pss_one (ps_expr (pe_bm PySem.F.plainAttrs_list PySem.F.slot_list_insert PySem.F.type_list_insert mt_insert (pv 3) (pa_cons (pe_op op_mod (pe_op op_fdiv (pv 2) (pe_op op_add (pv 4) pe_int)) (pe_op op_add (pe_callB call_len_seq rfl B.len_ PySem.boot_len (pa_cons (pv 3) pa_nil)) pe_int)) (pa_cons (pv 5) pa_nil))))))))
    (pss_one (ps_ret (pe_tup (pa_cons pe_str (pa_cons (pe_callH h_word hr (by omega) rfl (pa_cons (pe_op op_fdiv (pv 2) pe_int) pa_nil)) (pa_cons (pe_callTy call_tuple_of rfl B.tuple_ boot_tuple_ (pa_cons (pv 3) pa_nil)) pa_nil)))))))),?_⟩
  try dsimp only [cxOf]
  have hlv:=Paired.length hp
  refine ⟨_,rfl,A,lvs,rfl,.inl (SqL.of hA),fun R0 hR0 => ?_⟩
  dsimp only [gName]
  have s1:=same_new hR0 (.lst lvs)
  have hR1:=upd_same (H:=H) (a:=R0) (o := .lst lvs)
  generalize upd H R0 (.lst lvs)=H1 at s1 hR1 ⊢
  refine rd_cut (KnI H A n m lts (n - 1)) ?_ (fun key => ?_)
  rotate_left
  · refine ⟨_,rfl,_,_,rfl,rfl,_,rfl,by omega,by omega,?_⟩
    have en:((n:Nat):Int) - 1=((n - 1:Nat):Int):=by omega
    rw [en,Int.toNat_natCast]
    refine for_range (lo:=0) (KnI H A n m lts) (KnI.mk R0 lvs lts none none rfl s1 hR1 (prs_same s1 hp) ⟨rfl,rfl,fun t ht=>deepest_le ht,fun h=>Iff.rfl,pos,Nat.le_refl _⟩) ?_ (fun σ' H' h=>key _ _ h)
    rintro i σ H2 hi ⟨R,rvs,rs,x4,x5,rfl,s2,hR,hp2,ri⟩
    have hrl:=Paired.length hp2
    have rle:=ri.le
    show tSeq _ _ _ _ _
    dsimp only [gName]
    refine ⟨_,rfl,_,rfl,_,_,rfl,rfl,_,_,rfl,rfl,⟨by omega,by omega⟩,_,rfl,_,rfl,_,rfl,R,_,rfl,SqL.of hR,fun L1 hL1 => ?_⟩
    rw [cut_take]
    generalize wordOf (m / (0+(i:Int)+3))=x
    have t3:=same_new hL1 (.lst (rvs.take 4))
    have hL13:=upd_same (H:=H2) (a:=L1) (o := .lst (rvs.take 4))
    generalize upd H2 L1 (.lst (rvs.take 4))=H3 at t3 hL13 ⊢
    refine ⟨L1,_,rfl,.inl ⟨SqL.of hL13,fun b hb => ?_⟩⟩
    have t4:=same_new hb (.tup (rvs.take 4))
    have hb4:=upd_same (H:=H3) (a:=b) (o := .tup (rvs.take 4))
    have t34:=t3.trans t4
    generalize upd H3 b (.tup (rvs.take 4))=H4 at t34 hb4 ⊢
    refine ⟨(show 3≤sizeLine by decide),fun p hp' => ?_⟩
    dsimp only [gName]
    have t5:=same_new hp' (.tup [.str "of",.str x,.ref b])
    have hp5:=upd_same (H:=H4) (a:=p) (o := .tup [.str "of",.str x,.ref b])
    have hb5:=t5 _ _ hb4
    have t25:=t34.trans t5
    generalize upd H4 p (.tup [.str "of",.str x,.ref b])=H5 at t25 hp5 hb5 ⊢
    have hs5:IsTr H5 (.of x (rs.take 4)) (.ref p):=by
      rw [IsTr]
      exact ⟨p,b,_,rfl,hp5,hb5,prs_trs (paired_take 4 (prs_same t25 hp2))⟩
    refine ⟨_,rfl,_,rfl,R,_,rfl,SqL.of (t25 _ _ hR),fun R2 hR2 => ?_⟩
    rw [cut_drop]
    dsimp only [gName]
    have t6:=same_new hR2 (.lst (rvs.drop 4))
    have hR26:=upd_same (H:=H5) (a:=R2) (o := .lst (rvs.drop 4))
    have t26:=t25.trans t6
    have hs6:=tr_same t6 hs5
    have hR20:H R2=none:=(s2.trans t25).free hR2
    generalize upd H5 R2 (.lst (rvs.drop 4))=H6 at t26 hR26 hs6 ⊢
    have hdl:(rvs.drop 4).length=(rs.drop 4).length:=by rw [List.length_drop,List.length_drop,hrl]
    have hd20:(rvs.drop 4).length≤20:=by rw [List.length_drop];omega
    have pz:(0:Int) < (((rvs.drop 4).length:Nat):Int)+1:=by omega
    have k0:=Int.emod_nonneg (m / (0+(i:Int)+2)) (show (((rvs.drop 4).length:Nat):Int)+1≠0 by omega)
    have k1:=Int.emod_lt_of_pos (m / (0+(i:Int)+2)) pz
    generalize hj:m / (0+(i:Int)+2) % ((((rvs.drop 4).length:Nat):Int)+1)=j at k0 k1
    obtain ⟨k,rfl⟩:=Int.eq_ofNat_of_zero_le k0
    have hk:k≤(rvs.drop 4).length:=by omega
    have kp:∀ a xs,H6 a=some (.tup xs)→(upd H6 R2 (.lst ((rvs.drop 4).take k ++ .ref p :: (rvs.drop 4).drop k))) a=some (.tup xs):=fun a xs e=>by rw [upd_ne (ne_of e hR26 (fun z=>nomatch z))];exact e
    refine ⟨_,rfl,.inl ⟨rfl,_,SqL.of hR26⟩,_,rfl,_,rfl,_,_,rfl,rfl,_,_,rfl,rfl,⟨by omega,by omega⟩,_,rfl,R2,_,rfl,.inl (SqL.of hR26),_,_,rfl,rfl,_,_,rfl,rfl,pz,_,rfl,R2,rvs.drop 4,_,k,.ref p,rfl,rfl,hj,hR26,hk,by omega,?_⟩
    refine KnI.mk R2 _ _ _ _ rfl ((s2.trans t26).put hR20) upd_same ?_ (row_step ri x (by rw [← hdl];exact hk))
    have pd:=prs_keep kp (paired_drop 4 (prs_same t26 hp2))
    exact paired_app (paired_take k pd) (.cons (tr_keep kp hs6) (paired_drop k pd))
  rintro σ' H2 ⟨R,rvs,rs,x4,x5,rfl,s2,hR,hp2,ri⟩
  have hrl:=Paired.length hp2
  have rle:=ri.le
  refine ⟨_,rfl,_,_,rfl,rfl,div',_,rfl,?_⟩
  generalize wordOf (m / 2)=x
  refine ⟨_,rfl,R,rvs,rfl,.inl ⟨SqL.of hR,fun b hb => ?_⟩⟩
  have t4:=same_new hb (.tup rvs)
  have hb4:=upd_same (H:=H2) (a:=b) (o := .tup rvs)
  generalize upd H2 b (.tup rvs)=H4 at t4 hb4 ⊢
  refine ⟨(show 3≤sizeLine by decide),fun p hp' => ?_⟩
  have t5:=same_new hp' (.tup [.str "of",.str x,.ref b])
  have g5:=t4.trans t5
  have ok:=ri.of x
  rw [show n - 1+1=n by omega] at ok
  refine q (.ref p) (.of x rs) _ (s2.trans g5) ?_ ok
  rw [IsTr]
  exact ⟨p,b,rvs,rfl,upd_same,t5 _ _ hb4,prs_trs (prs_same g5 hp2)⟩
end

end K41
namespace K41
open PySem L2 Sw
section
variable {P:Program} {w:World} {K:PySem.W.Frag} {mg:Str→Option Value} {base:Heap} {CU CNR:Addr}
theorem atI_ex {xs:List V} {i:Int} (h0:0≤i) (h1:i < xs.length):∃ v,atI xs i=some v∧v∈xs:=by
  have hi:i.toNat < xs.length:=by omega
  have z:atI xs ((i.toNat:Nat):Int)=some xs[i.toNat]:=atI_nat (List.getElem?_eq_getElem hi)
  rw [show ((i.toNat:Nat):Int)=i by omega] at z
  exact ⟨_,z,List.getElem_mem hi⟩
structure LeafOk (ws:List Str) (t:T):Prop where
  parts:t.parts=1
  kn:knF t=0
  dep:t.depth=1
  no:isOf t=false
  raw_:∀ h∈raw t,h∈ws
theorem leaf_any {ws:List Str} {z:Str} (h:z∈ws):LeafOk ws (.any z):=⟨by rw [T.parts],by rw [knF],by rw [T.depth],rfl,fun y hy=>by rw [raw] at hy;rw [List.mem_singleton.mp hy];exact h⟩
theorem leaf_num {ws:List Str} {n:Int}:LeafOk ws (.num n):=⟨by rw [T.parts],by rw [knF],by rw [T.depth],rfl,fun y hy=>by rw [raw] at hy;cases hy⟩
theorem leaf_name {ws:List Str} {n:Str}:LeafOk ws (.name n):=⟨by rw [T.parts],by rw [knF],by rw [T.depth],rfl,fun y hy=>by rw [raw] at hy;cases hy⟩
theorem LeafOk.mono {ws ws':List Str} {t:T} (h:LeafOk ws t) (k:∀ z∈ws,z∈ws'):LeafOk ws' t:=⟨h.parts,h.kn,h.dep,h.no,fun y hy=>k y (h.raw_ y hy)⟩
inductive SpLeaf (K:PySem.W.Frag) (vs:List V) (H:Hp) (Q:VK):Prop
  | mk (c m:Int) (Wl:Addr) (ws:List Str) (ev:vs = [.int c,.int m,.ref Wl]) (m0:0≤m) (m1:m < 2147483629) (hW:SqL K H Wl (ws.map V.str)) (q:∀ v t H',Same H H'→IsTr H' t v→LeafOk ws t→Q v H'):SpLeaf K vs H Q
noncomputable def spLeaf (K:PySem.W.Frag):Sp:=fun vs H Q _=>SpLeaf K vs H Q
theorem ok_leaf (B:Blt mg) (h_word:Has P w K mg base 1 "_law_word" ["_law_m"] spWord) (h_number:Has P w K mg base 1 "_law_number" ["_law_cell", "_law_m"] spNumber) (D:Def K mg "_law_leaf" s_leaf ["_law_cell", "_law_m", "_law_words"]):Has P w K mg base 2 "_law_leaf" ["_law_cell", "_law_m", "_law_words"] (spLeaf K):=by
  refine D.has sc_leaf (fun vs H Q E h => ?_) (fun f cdv A outer s H vs Q E hr h => ?_)
  · obtain ⟨c,m,Wl,ws,rfl,_⟩:=h;rfl
  obtain ⟨c,m,Wl,ws,rfl,m0,m1,hW,q⟩:=h
  refine ⟨_,(pss_cons (ps_if (PW.pt (pw_and (pt_cmpR op_lt (pe_op op_mod (pv 1) pe_int) pe_int (nomark _)) (pw_and1 (pt_cmpR op_gt (pe_callB call_len_seq rfl B.len_ PySem.boot_len (pa_cons (pv 2) pa_nil)) pe_int (nomark _))))) (pss_one (ps_ret (pe_tup (pa_cons pe_str (pa_cons (pe_ix ix_list (pv 2) (pe_op op_mod (pe_op op_fdiv (pv 1) pe_int) (pe_callB call_len_seq rfl B.len_ PySem.boot_len (pa_cons (pv 2) pa_nil))) (fun _ _=>rfl)) pa_nil))))) pss_nil)
    (pss_cons (ps_if (pt_cmpR op_eq (pe_op op_mod (pv 1) pe_int) pe_int (nomark _)) (pss_one (ps_ret (pe_tup (pa_cons pe_str (pa_cons (pe_callH h_number hr (by omega) rfl (pa_cons (pv 0) (pa_cons (pe_op op_fdiv (pv 1) pe_int) pa_nil))) pa_nil))))) pss_nil)
    (pss_one (ps_ret (pe_tup (pa_cons pe_str (pa_cons (pe_callH h_word hr (by omega) rfl (pa_cons (pe_op op_fdiv (pv 1) pe_int) pa_nil)) pa_nil))))))),?_⟩
  try dsimp only [cxOf]
  have hwl:(ws.map V.str).length=ws.length:=List.length_map ..
  refine rd_if2 (fun b Hc=>Hc=H∧(b=true→0 < ws.length)) (fun Qc qc => ?_) (fun Hc h => ?_) (fun Hc h => ?_)
  · exact ⟨_,rfl,_,_,rfl,rfl,pos',_,_,rfl,rfl,_,rfl,iteD (fun _=>⟨_,rfl,Wl,_,rfl,.inl hW,_,_,rfl,rfl,_,rfl,qc _ _ ⟨rfl,fun x=>by have:=of_decide_eq_true x;omega⟩⟩) (fun _=>qc _ _ ⟨rfl,fun x=>nomatch x⟩)⟩
  · obtain ⟨rfl,hp⟩:=h
    have hp:=hp rfl
    have pw:(0:Int) < (((ws.map V.str).length:Nat):Int):=by omega
    obtain ⟨v,hv,hvm⟩:=atI_ex (xs:=ws.map V.str) (Int.emod_nonneg (m / 4) (show (((ws.map V.str).length:Nat):Int)≠0 by omega)) (Int.emod_lt_of_pos (m / 4) pw)
    obtain ⟨y,hy,rfl⟩:=List.mem_map.mp hvm
    refine ⟨_,rfl,_,rfl,_,_,rfl,rfl,div',_,rfl,Wl,_,rfl,.inl hW,_,_,rfl,rfl,pw,Wl,_,_,_,rfl,rfl,hW,hv,(show 2≤sizeLine by decide),fun p hp' => ?_⟩
    refine q _ (.any y) _ (same_new hp' _) ?_ (leaf_any hy)
    rw [IsTr]
    exact ⟨p,rfl,upd_same⟩
  obtain ⟨rfl, -⟩:=h
  dsimp only [tNext]
  refine ⟨_,rfl,_,_,rfl,rfl,pos',rfl,_,rfl,iteD (fun _ => ?_) (fun _ => ?_)⟩
  · refine ⟨_,rfl,_,rfl,_,_,rfl,rfl,div',_,_,rfl,by omega,by omega,fun n n1 n2 H' s'=>⟨(show 2≤sizeLine by decide),fun p hp' => ?_⟩⟩
    refine q _ (.num n) _ (s'.trans (same_new hp' _)) ?_ leaf_num
    rw [IsTr]
    exact ⟨p,rfl,upd_same⟩
  dsimp only [tNext]
  refine ⟨_,rfl,_,_,rfl,rfl,div',_,rfl,(show 2≤sizeLine by decide),fun p hp' => ?_⟩
  refine q _ (.name (wordOf (m / 4))) _ (same_new hp' _) ?_ leaf_name
  rw [IsTr]
  exact ⟨p,rfl,upd_same⟩
inductive SpAsk (vs:List V) (H:Hp) (Q:VK):Prop
  | mk (m:Int) (Bl:Addr) (bs:List Str) (ev:vs = [.int m,.ref Bl]) (hB:H Bl=some (.lst (bs.map V.str))) (bp:0 < bs.length) (q:∀ v a H',Same H H'→AskAt H' v a→(∀ cs,(∀ z∈bs,z∈cs)→AskOk cs a)→AskA a→a.hole∈bs→Q v H'):SpAsk vs H Q
noncomputable def spAsk:Sp:=fun vs H Q _=>SpAsk vs H Q
theorem ok_ask (B:Blt mg) (h_word:Has P w K mg base 1 "_law_word" ["_law_m"] spWord) (D:Def K mg "_law_ask" s_ask ["_law_m", "_law_bound"]):Has P w K mg base 2 "_law_ask" ["_law_m", "_law_bound"] spAsk:=by
  refine D.has sc_ask (fun vs H Q E h => ?_) (fun f cdv A outer s H vs Q E hr h => ?_)
  · obtain ⟨m,Bl,bs,rfl,_⟩:=h;rfl
  obtain ⟨m,Bl,bs,rfl,hB,bp,q⟩:=h
  refine ⟨_,(pss_cons (ps_set (i:=2) sc_ask.nd rfl (Or.inl rfl) (pe_ix ix_list (pv 1) (pe_op op_mod (pe_op op_fdiv (pv 0) pe_int) (pe_callB call_len_seq rfl B.len_ PySem.boot_len (pa_cons (pv 1) pa_nil))) (fun _ _=>rfl)))
    (pss_cons (ps_if (pt_cmpR op_eq (pe_op op_mod (pv 0) pe_int) pe_int (nomark _)) (pss_one (ps_ret (pe_tup (pa_cons pe_str (pa_cons (pv 2) (pa_cons (pe_callH h_word hr (by omega) rfl (pa_cons (pe_op op_fdiv (pv 0) pe_int) pa_nil)) pa_nil)))))) pss_nil)
    (pss_cons (ps_if (pt_cmpR op_eq (pe_op op_mod (pv 0) pe_int) pe_int (nomark _)) (pss_one (ps_ret (pe_tup (pa_cons pe_str (pa_cons (pv 2) (pa_cons (pe_op op_add pe_int (pe_op op_mod (pe_op op_fdiv (pv 0) pe_int) pe_int)) pa_nil)))))) pss_nil)
    (pss_one (ps_ret (pe_tup (pa_cons pe_str (pa_cons (pv 2) pa_nil)))))))),?_⟩
  try dsimp only [cxOf]
  have hbl:(bs.map V.str).length=bs.length:=List.length_map ..
  have pw:(0:Int) < (((bs.map V.str).length:Nat):Int):=by omega
  obtain ⟨v,hv,hvm⟩:=atI_ex (xs:=bs.map V.str) (Int.emod_nonneg (m / 3) (show (((bs.map V.str).length:Nat):Int)≠0 by omega)) (Int.emod_lt_of_pos (m / 3) pw)
  obtain ⟨y,hy,rfl⟩:=List.mem_map.mp hvm
  refine ⟨_,rfl,_,rfl,_,_,rfl,rfl,div',_,rfl,Bl,_,rfl,.inl (SqL.of hB),_,_,rfl,rfl,pw,Bl,_,_,_,rfl,rfl,SqL.of hB,hv,?_⟩
  dsimp only [gName]
  refine ⟨_,rfl,_,_,rfl,rfl,pos',rfl,_,rfl,iteD (fun _ => ?_) (fun _ => ?_)⟩
  · have hw:=wordOf_ok (m / 9)
    refine ⟨_,rfl,_,rfl,_,_,rfl,rfl,div',_,rfl,(show 3≤sizeLine by decide),fun p hp' => ?_⟩
    exact q _ (.free y (wordOf (m / 9))) _ (same_new hp' _) ⟨p,rfl,upd_same⟩ (fun cs k=>⟨k y hy,hw⟩) (isW_asc hw) hy
  dsimp only [tNext]
  refine ⟨_,rfl,_,_,rfl,rfl,pos',rfl,_,rfl,iteD (fun _ => ?_) (fun _ => ?_)⟩
  · have k0:=Int.emod_nonneg (m / 9) (show (7:Int)≠0 by decide)
    have k1:=Int.emod_lt_of_pos (m / 9) (show (0:Int) < 7 by decide)
    refine ⟨_,rfl,_,rfl,_,_,rfl,rfl,div',_,_,rfl,rfl,pos',_,_,rfl,rfl,(show 3≤sizeLine by decide),fun p hp' => ?_⟩
    exact q _ (.sign y (1+m / 9 % 7)) _ (same_new hp' _) ⟨p,rfl,upd_same⟩ (fun cs k=>⟨k y hy,by omega,by omega⟩) trivial hy
  dsimp only [tNext]
  refine ⟨_,rfl,(show 2≤sizeLine by decide),fun p hp' => ?_⟩
  exact q _ (.num y) _ (same_new hp' _) ⟨p,rfl,upd_same⟩ (fun cs k=>k y hy) trivial hy
noncomputable def badS:Str := " !\"#$&'()*+,-./0123456789:;<=>?@ABCDEFGHIJKLMNOPQRSTUVWXYZ[\\]^_`" ++ "{|}~"
theorem bad_chars:∀ c∈badS.cps.toList,c < 128∧¬ (97≤c∧c≤122):=by decide +kernel
theorem bad_len:badS.length=68:=by decide +kernel
theorem sl_mem {z:Str} {lo hi:Option Int} {c:Nat} (h:c∈(Txt.slice z lo hi).cps.toList):c∈z.cps.toList:=by
  rw [slice_cps] at h
  exact List.mem_of_mem_drop (List.mem_of_mem_take h)
theorem times_mem {z:Str} {n c:Nat} (h:c∈(timesS z n).cps.toList):c∈z.cps.toList:=by
  unfold timesS at h
  simp at h
  obtain ⟨l,⟨_,rfl⟩,hc⟩:=h
  exact hc
inductive SpBad (vs:List V) (H:Hp) (Q:VK):Prop
  | mk (m:Int) (z0:vs = [.int m]) (z1:∀ z H',Same H H'→Asc z→¬ IsW z→Q (.str z) H'):SpBad  vs H Q
noncomputable def spBad:Sp:=fun vs H Q _=>SpBad  vs H Q
theorem long_bad {z:Str} {n k:Nat} (hz:IsW z) (hn:k≤n) (k8:8 < k) (k9:k≤100):Asc (Txt.slice (timesS z n) none (some ((k:Nat):Int)))∧¬ IsW (Txt.slice (timesS z n) none (some ((k:Nat):Int))):=by
  have hl:=timesS_len z n
  have h1:=hz.1
  have hkl:k≤(timesS z n).length:=by rw [hl];exact Nat.le_trans hn (Nat.le_mul_of_pos_right n h1)
  have e:HT.sIx (timesS z n).length (timesS z n).length (some ((k:Nat):Int))=k:=by rw [HT.sIx_nat];exact Nat.min_eq_left hkl
  have el:(Txt.slice (timesS z n) none (some ((k:Nat):Int))).length=k:=by
    rw [len_cps,slice_cps,e,HT.sIx_none,List.drop_zero,Nat.sub_zero,List.length_take, ← len_cps];omega
  refine ⟨⟨fun c hc => ?_,by rw [el];omega⟩,fun w => ?_⟩
  · have:=hz.2.2 c (times_mem (sl_mem hc));omega
  · have:=w.2.1;rw [el] at this;omega
theorem ok_bad (B:Blt mg) (h_word:Has P w K mg base 1 "_law_word" ["_law_m"] spWord) (D:Def K mg "_law_bad" s_bad ["_law_m"]):Has P w K mg base 2 "_law_bad" ["_law_m"] spBad:=by
  refine D.has sc_bad (fun vs H Q E h => ?_) (fun f cdv A outer s H vs Q E hr h => ?_)
  · obtain ⟨m,rfl,_⟩:=h;rfl
  obtain ⟨m,rfl,q⟩:=h
  refine ⟨_,(pss_cons (ps_set (i:=1) sc_bad.nd rfl (Or.inl rfl) (pe_callH h_word hr (by omega) rfl (pa_cons (pe_op op_fdiv (pv 0) pe_int) pa_nil)))
    (pss_cons (ps_if (pt_cmpR op_eq (pe_op op_mod (pv 0) pe_int) pe_int (nomark _)) (pss_one (ps_ret (pe_ix ix_list (pe_lst (pa_cons pe_str (pa_cons (pe_slice sl_str (pe_op op_mul_str0 (pv 1) pe_int) po_none (po_some pe_int)) (pa_cons (pe_slice sl_str (pe_op op_mul_str0 (pv 1) pe_int) po_none (po_some pe_int)) pa_nil)))) (pe_op op_mod (pe_op op_fdiv (pv 0) pe_int) pe_int) (fun _ _=>rfl)))) pss_nil)
    (pss_cons (ps_set (i:=2) sc_bad.nd rfl (Or.inl rfl) (pe_op op_mod (pe_op op_fdiv (pv 0) pe_int) (pe_callB call_len_str rfl B.len_ PySem.boot_len (pa_cons (pv 1) pa_nil))))
    (pss_cons (ps_set (i:=3) sc_bad.nd rfl (Or.inl rfl) pe_str)
    (pss_one (ps_ret (pe_op op_add_str (pe_op op_add_str (pe_slice sl_str (pv 1) po_none (po_some (pv 2))) (pe_ix ix_str (pe_op op_add_str (pv 3) pe_str) (pe_op op_mod (pe_op op_fdiv (pv 0) pe_int) pe_int) (fun _ _=>rfl))) (pe_slice sl_str (pv 1) (po_some (pe_op op_add (pv 2) pe_int)) po_none)))))))),?_⟩
  try dsimp only [cxOf]
  have hw:=wordOf_ok (m / 3)
  refine ⟨_,rfl,_,_,rfl,rfl,div',_,rfl,?_⟩
  dsimp only [gName]
  generalize wordOf (m / 3)=z at hw
  obtain ⟨l1,l8,hc'⟩:=id hw
  have hz:z.length≤sizeLine:=Nat.le_trans l8 (by decide)
  refine ⟨_,rfl,_,_,rfl,rfl,pos',rfl,_,rfl,iteD (fun _ => ?_) (fun _ => ?_)⟩
  · have t9:(timesS z 9).length≤sizeLine:=by rw [timesS_len];exact Nat.le_trans (show 9 * z.length≤1000 by omega) (by decide)
    have t30:(timesS z 30).length≤sizeLine:=by rw [timesS_len];exact Nat.le_trans (show 30 * z.length≤1000 by omega) (by decide)
    refine ⟨_,rfl,_,_,rfl,rfl,by decide,by decide,by omega,_,rfl,_,rfl,t9,_,rfl,_,_,rfl,rfl,by decide,by decide,by omega,_,rfl,_,rfl,t30,(show 3≤sizeLine by decide),fun p hp => ?_⟩
    have k0:=Int.emod_nonneg (m / 7) (show (3:Int)≠0 by decide)
    have k1:=Int.emod_lt_of_pos (m / 7) (show (0:Int) < 3 by decide)
    have three:∃ y:Str,atI [V.str "",.str (Txt.slice (timesS z 9) none (some 9)),.str (Txt.slice (timesS z 30) none (some 27))] (m / 7 % 3)=some (.str y)∧Asc y∧¬ IsW y:=by
      rcases (show m / 7 % 3=0∨m / 7 % 3=1∨m / 7 % 3=2 by omega) with e | e | e <;> rw [e]
      · exact ⟨"",rfl,⟨by decide,by decide⟩,fun x=>absurd x.1 (by decide)⟩
      · exact ⟨_,rfl,long_bad (k:=9) hw (by decide) (by decide) (by decide)⟩
      · exact ⟨_,rfl,long_bad (k:=27) hw (by decide) (by decide) (by decide)⟩
    obtain ⟨y,hy,ya,yn⟩:=three
    exact ⟨_,rfl,_,_,rfl,rfl,div',_,_,rfl,rfl,pos',p,_,_,_,rfl,rfl,SqL.of upd_same,hy,q y _ (same_new hp _) ya yn⟩
  dsimp only [tNext]
  have pz:(0:Int) < ((z.length:Nat):Int):=by omega
  refine ⟨_,rfl,_,_,rfl,rfl,div',_,rfl,z,rfl,hz,_,_,rfl,rfl,pz,?_⟩
  dsimp only [gName]
  have k0:=Int.emod_nonneg (m / 7) (show ((z.length:Nat):Int)≠0 by omega)
  have k1:=Int.emod_lt_of_pos (m / 7) pz
  generalize m / 7 % ((z.length:Nat):Int)=kk at k0 k1
  have g0:=Int.emod_nonneg (m / 60) (show (68:Int)≠0 by decide)
  have g1:=Int.emod_lt_of_pos (m / 60) (show (0:Int) < 68 by decide)
  obtain ⟨j,hj⟩:∃ j:Nat,m / 60 % 68=(j:Int):=⟨_,(Int.toNat_of_nonneg g0).symm⟩
  have hjl:j < badS.cps.toList.length:=by
    have:=bad_len
    rw [len_cps] at this
    omega
  have hch:=bad_chars _ (List.getElem_mem hjl)
  have hat:atI badS.cps.toList (m / 60 % 68)=some badS.cps.toList[j]:=by rw [hj];exact atI_nat (List.getElem?_eq_getElem hjl)
  generalize badS.cps.toList[j]=ch at hch hat
  have s1:=Txt.slice_le z none (some kk)
  have s2:=Txt.slice_le z (some (kk+1)) none
  have ck:∀ c∈(Txt.slice z none (some kk) ++ (⟨#[ch]⟩:Str) ++ Txt.slice z (some (kk+1)) none).cps.toList,c∈z.cps.toList∨c=ch:=fun c hc=>by
    rw [app_cps,app_cps] at hc
    rcases List.mem_append.mp hc with y | y
    · rcases List.mem_append.mp y with y | y
      · exact .inl (sl_mem y)
      · exact .inr (List.mem_singleton.mp y)
    · exact .inl (sl_mem y)
  have cm:ch∈(Txt.slice z none (some kk) ++ (⟨#[ch]⟩:Str) ++ Txt.slice z (some (kk+1)) none).cps.toList:=by
    rw [app_cps,app_cps]
    exact List.mem_append_left _ (List.mem_append_right _ (List.mem_singleton.mpr rfl))
  have l1':(⟨#[ch]⟩:Str).length=1:=rfl
  refine ⟨_,rfl,_,rfl,_,rfl,z,rfl,hz,_,rfl,_,_,rfl,rfl,by decide,_,rfl,_,_,rfl,rfl,div',_,_,rfl,rfl,pos',badS,_,ch,rfl,rfl,(by rw [bad_len];decide),hat,_,_,rfl,rfl,?_,?_⟩
  · show (Txt.slice z none (some kk)).length+(⟨#[ch]⟩:Str).length≤sizeLine
    rw [l1']
    exact Nat.le_trans (by omega:_≤1000) (by decide)
  refine ⟨_,rfl,_,rfl,_,_,rfl,rfl,_,rfl,z,rfl,hz,_,_,rfl,rfl,?_,?_⟩
  · show (Txt.slice z none (some kk) ++ (⟨#[ch]⟩:Str)).length+(Txt.slice z (some (kk+1)) none).length≤sizeLine
    rw [Str.length_append,l1']
    exact Nat.le_trans (by omega:_≤1000) (by decide)
  refine q _ _ (Same.refl _) ⟨fun c hc => ?_,?_⟩ (fun x=>hch.2 (x.2.2 ch cm))
  · rcases ck c hc with y | y
    · have:=hc' c y;omega
    · rw [y];exact hch.1
  · rw [Str.length_append,Str.length_append,l1'];omega
end

end K41
namespace K41
open PySem L2 Sw
section
variable {P:Program} {w:World} {K:PySem.W.Frag} {mg:Str→Option Value} {base:Heap} {CU CNR:Addr}
theorem leaves_sum {ws:List Str}:∀ {lts:List T},(∀ t∈lts,LeafOk ws t)→T.partss lts=lts.length∧knFs lts=0∧T.deepest lts≤1∧∀ h∈raws lts,h∈ws
  | [],_=>⟨by rw [T.partss];rfl,by rw [knFs],by rw [T.deepest];omega,fun h hh=>by rw [raws] at hh;cases hh⟩
  | t :: ts,h=>by
    obtain ⟨a,b,c,d⟩:=leaves_sum (lts:=ts) fun u hu=>h u (List.mem_cons_of_mem _ hu)
    have ht:=h t List.mem_cons_self
    refine ⟨by rw [T.partss,a,ht.parts,List.length_cons];omega,by rw [knFs,b,ht.kn],?_,fun z hz => ?_⟩
    · exact deepest_is fun u hu=>by
        rcases List.mem_cons.mp hu with rfl | hu
        · rw [ht.dep];exact Nat.le_refl _
        · exact Nat.le_trans (deepest_le hu) c
    · rw [raws] at hz
      rcases List.mem_append.mp hz with hz | hz
      · exact ht.raw_ z hz
      · exact d z hz
theorem paired_set {α β : Type} {R : α → β → Prop}:∀ {xs:List α} {ys:List β} (j:Nat) {x : α} {y : β},Paired R xs ys→R x y→Paired R (xs.set j x) (ys.set j y)
  | _,_,j,x,y,.nil,r=>by rw [List.set_nil,List.set_nil];exact .nil
  | _,_,0,x,y,.cons _ t,r => .cons r t
  | _,_,j+1,x,y,.cons h t,r => .cons h (paired_set j t r)
noncomputable def leafD:T→L2.D
  | .num n => .tup [.str "num",.int n]
  | .name z => .tup [.str "name",.str z]
  | .any z => .tup [.str "any",.str z]
  | .of _ _ => .non
theorem den_leaf {H:Hp} {t:T} {v:V} (h:IsTr H t v) (n:isOf t=false):Den H (leafD t) v:=by
  cases t with
  | num k=>rw [IsTr] at h;obtain ⟨a,rfl,h⟩:=h;rw [leafD,Den];exact ⟨a,_,rfl,h,dens_cons (by rw [Den]) (dens_cons (by rw [Den];exact .inl rfl) dens_nil)⟩
  | name k=>rw [IsTr] at h;obtain ⟨a,rfl,h⟩:=h;rw [leafD,Den];exact ⟨a,_,rfl,h,dens_cons (by rw [Den]) (dens_cons (by rw [Den]) dens_nil)⟩
  | any k=>rw [IsTr] at h;obtain ⟨a,rfl,h⟩:=h;rw [leafD,Den];exact ⟨a,_,rfl,h,dens_cons (by rw [Den]) (dens_cons (by rw [Den]) dens_nil)⟩
  | of x ts=>cases n
theorem dens_leaf {H:Hp} {vs:List V} {ts:List T} (h:Prs H vs ts) (n:∀ t∈ts,isOf t=false):Dens H (ts.map leafD) vs:=by
  induction h with
  | nil=>exact dens_nil
  | cons r _ ih=>rw [List.map_cons];exact dens_cons (den_leaf r (n _ List.mem_cons_self)) (ih fun u hu=>n u (List.mem_cons_of_mem _ hu))
theorem leafD_deep:∀ t:T,(leafD t).deep≤1
  | .num n=>by rw [leafD,L2.D.deep,L2.D.deeps,L2.D.deeps,L2.D.deeps,L2.D.deep,L2.D.deep];decide
  | .name n=>by rw [leafD,L2.D.deep,L2.D.deeps,L2.D.deeps,L2.D.deeps,L2.D.deep,L2.D.deep];decide
  | .any n=>by rw [leafD,L2.D.deep,L2.D.deeps,L2.D.deeps,L2.D.deeps,L2.D.deep,L2.D.deep];decide
  | .of x ts=>by rw [leafD,L2.D.deep];decide
theorem leaves_deep:∀ ts:List T,L2.D.deeps (ts.map leafD)≤150
  | []=>by rw [List.map_nil,L2.D.deeps];decide
  | t :: ts=>by rw [List.map_cons,L2.D.deeps];have:=leaves_deep ts;have:=leafD_deep t;omega
theorem any_mem {z:Str} {ts:List T} {ws:List Str} (h:∀ t∈ts,LeafOk ws t):L2.D.tup [.str "any",.str z]∈ts.map leafD↔z∈raws ts:=by
  rw [mem_raws]
  constructor
  · intro m
    obtain ⟨t,ht,e⟩:=List.mem_map.mp m
    refine ⟨t,ht,?_⟩
    cases t with
    | num n=>rw [leafD] at e;simp at e
    | name n=>rw [leafD] at e;simp at e;exact absurd e.1 (by decide)
    | any n=>rw [leafD] at e;simp at e;subst e;rw [raw];exact List.mem_cons_self
    | of x us=>cases e
  · rintro ⟨t,ht,hz⟩
    refine List.mem_map.mpr ⟨t,ht,?_⟩
    have hl:=h t ht
    cases t with
    | num n=>rw [raw] at hz;cases hz
    | name n=>rw [raw] at hz;cases hz
    | any n=>rw [raw] at hz;rw [List.mem_singleton.mp hz,leafD]
    | of x us=>cases hl.no
noncomputable def bdV (lts:List T) (v:V):Option V:=match v with
  | .str z=>if z∈raws lts then some (.str z) else none
  | _=>none
theorem bd_map (lts:List T):∀ zs:List Str,(zs.map V.str).filterMap (bdV lts)=(zs.filter fun z=>decide (z∈raws lts)).map V.str
  | []=>rfl
  | z :: zs=>by
    rw [List.map_cons,List.filterMap_cons,List.filter_cons,bd_map lts zs]
    by_cases h:z∈raws lts
    · have e:bdV lts (V.str z)=some (V.str z):=if_pos h
      rw [e,if_pos (decide_eq_true h)];rfl
    · have e:bdV lts (V.str z)=none:=if_neg h
      rw [e,if_neg (by rw [decide_eq_false h];decide)]
structure ManyOk (way:Int) (n:Nat):Prop where
  lo:1≤n
  hi:n≤10
  three:way=3→n≤8
  four:way=4→n=10
  else_:way≠4→n≤9
structure SidesOk (way:Int) (z0 z1:Str) (bs:List Str) (t:T):Prop where
  bp:0 < bs.length
  sub:∀ b∈bs,b=z0∨b=z1
  two:way=2→isOf t=false
  of_:way≠2→isOf t=true
  raw_:way≠2→∀ h,h∈raw t↔h∈bs
  three:way=3→knF t=4
  four:way=4→t.parts=13
  else_:way≠2→way≠3→way≠4→t.parts≤12∧knF t≤3
  dep:t.depth≤14
  parts:t.parts≤100
inductive SpSides (K:PySem.W.Frag) (vs:List V) (H:Hp) (Q:VK):Prop
  | mk (a Pl:Addr) (ns:List Int) (way:Int) (z0 z1 z2:Str) (ev:vs = [.ref a,.int way,.ref Pl]) (hS:SqL K H a (ns.map V.int)) (hP:PoolAt H Pl z0 z1 z2) (q:∀ p v Bl t bs H',Same H H'→H' p=some (.tup [v,.ref Bl])→H' Bl=some (.lst (bs.map V.str))→IsTr H' t v→SidesOk way z0 z1 bs t→Q (.ref p) H'):SpSides K vs H Q
noncomputable def spSides (K:PySem.W.Frag):Sp:=fun vs H Q _=>SpSides K vs H Q
inductive SdI (H:Hp) (a Pl L:Addr) (way m:Int) (n:Nat) (z0 z1:Str) (i:Nat) (σ : St) (H':Hp):Prop
  | mk (lvs:List V) (lts:List T) (x6 x7:Option V) (e : σ = [some (.ref a),some (.int way),some (.ref Pl),some (.int m),some (nV n),some (.ref L),x6,x7,none,none]) (sm:Same H H') (hL:H' L=some (.lst lvs)) (hp:Prs H' lvs lts) (len:lts.length=i) (ok:∀ t∈lts,LeafOk [z0,z1] t)
inductive SdL (H:Hp) (a Pl L Bl:Addr) (way m:Int) (n:Nat) (z0 z1:Str) (lvs:List V) (lts:List T) (bs:List Str) (x6 x7:Option V) (ok:T→Prop) (σ : St) (H':Hp):Prop
  | mk (v:V) (t:T) (e : σ = [some (.ref a),some (.int way),some (.ref Pl),some (.int m),some (nV n),some (.ref L),x6,x7,some (.ref Bl),some v]) (sm:Same H H') (hv:IsTr H' t v) (tok:ok t)
theorem pool_cut (a b c:V):cutV [a,b,c] none (some 2) = [a,b]:=rfl
theorem ok_sides (B:Blt mg) (h_cell_at:Has P w K mg base 1 "_law_cell_at" ["_law_script", "_law_k"] (spCell K)) (h_mixed:Has P w K mg base 1 "_law_mixed" ["_law_cell", "_law_k"] spMixed) (h_leaf:Has P w K mg base 2 "_law_leaf" ["_law_cell", "_law_m", "_law_words"] (spLeaf K))
    (h_knotted:Has P w K mg base 2 "_law_knotted" ["_law_leaves", "_law_many", "_law_m"] spKnotted) (D:Def K mg "_law_sides" s_sides ["_law_script", "_law_way", "_law_pool_here"]):Has P w K mg base 3 "_law_sides" ["_law_script", "_law_way", "_law_pool_here"] (spSides K):=by
  refine D.has sc_sides (fun vs H Q E h => ?_) (fun f cdv A outer s H vs Q E hr h => ?_)
  · obtain ⟨a,Pl,ns,way,z0,z1,z2,rfl,_⟩:=h;rfl
  obtain ⟨a,Pl,ns,way,z0,z1,z2,rfl,hS,hP,q⟩:=h
  refine ⟨_,(pss_cons (ps_set (i:=3) sc_sides.nd rfl (Or.inl rfl) (pe_callH h_mixed hr (by omega) rfl (pa_cons (pe_callH h_cell_at hr (by omega) rfl (pa_cons (pv 0) (pa_cons pe_int pa_nil))) (pa_cons pe_int pa_nil))))
    (pss_cons (ps_set (i:=4) sc_sides.nd rfl (Or.inl rfl) (pe_op op_add pe_int (pe_op op_mod (pv 3) pe_int)))
    (pss_cons (ps_if (pt_cmpR op_eq (pv 1) pe_int (nomark _)) (pss_one (ps_set (i:=4) sc_sides.nd rfl (Or.inl rfl) (pe_op op_add pe_int (pe_op op_mod (pv 3) pe_int)))) pss_nil)
    (pss_cons (ps_if (pt_cmpR op_eq (pv 1) pe_int (nomark _)) (pss_one (ps_set (i:=4) sc_sides.nd rfl (Or.inl rfl) pe_int)) pss_nil)
    (pss_cons (ps_set (i:=5) sc_sides.nd rfl (Or.inr rfl) (pe_lst pa_nil))
    (pss_cons (ps_for PassesOwn.never rfl (pi_range1 rfl B.range_ (pa_cons (pv 4) pa_nil)) (pg_name (i:=6) sc_sides.nd rfl (Or.inl rfl))
    (pss_cons (ps_set (i:=7) sc_sides.nd rfl (Or.inl rfl) (pe_callH h_cell_at hr (by omega) rfl (pa_cons (pv 0) (pa_cons (pe_op op_add pe_int (pv 6)) pa_nil))))
    (pss_one (ps_expr (pe_bm PySem.F.plainAttrs_list PySem.F.slot_list_append PySem.F.type_list_append mt_append (pv 5) (pa_cons (pe_callH h_leaf hr (by omega) rfl (pa_cons (pv 7) (pa_cons (pe_callH h_mixed hr (by omega) rfl (pa_cons (pv 7) (pa_cons (pv 6) pa_nil))) (pa_cons (pe_slice sl_list (pv 2) po_none (po_some pe_int)) pa_nil)))) pa_nil))))))
    (pss_cons (ps_asg (pe_tup (pa_cons pe_str (pa_cons (pe_ix ix_list (pv 2) (pe_op op_mod (pe_op op_fdiv (pv 3) pe_int) pe_int) (fun _ _=>rfl)) pa_nil))) (pg_sub (pv 5) (pe_op op_mod (pe_op op_fdiv (pv 3) pe_int) (pv 4)) set_list))
    (pss_cons (ps_setCompI (i:=8) sc_sides.nd rfl rfl (te:=_) (ct:=(tTest (tOp _ _ _))) (own := ["_law_word_here"]) (caps := [("_law_leaves",5)]) (comp_scope (defScope s_sides) ["_law_script", "_law_way", "_law_pool_here", "_law_m", "_law_many", "_law_leaves", "_law_k", "_law_cell", "_law_bound", "_law_left"] rfl rfl rfl (by decide +kernel)) (pi_list (pv 2)) rfl (fun _ _ _=>pg_name (i:=0) (show (["_law_word_here", "_law_leaves"]:List Str).Nodup by decide +kernel) rfl (Or.inl rfl)) (fun _ _ _=>(pt_cmpR (op_inD (un101 hr)) (pe_tup (pa_cons pe_str (pa_cons (pv 0) pa_nil))) (pv 1) (by with_unfolding_all rfl))) (fun _ _ _=>(pv 0)) rfl)
    (pss_cons (ps_set (i:=9) sc_sides.nd rfl (Or.inl rfl) (pe_callH h_knotted hr (by omega) rfl (pa_cons (pv 5) (pa_cons (pe_callB (call_max2 rfl) rfl B.max_ boot_max_ (pa_cons (pe_op op_fdiv (pe_op op_add (pv 4) pe_int) pe_int) (pa_cons (pe_op op_add pe_int (pe_op op_mod (pe_op op_fdiv (pv 3) pe_int) pe_int)) pa_nil))) (pa_cons (pe_op op_fdiv (pv 3) pe_int) pa_nil)))))
    (pss_cons (ps_if (pt_cmpR op_eq (pv 1) pe_int (nomark _)) (pss_one (ps_set (i:=9) sc_sides.nd rfl (Or.inl rfl) (pe_ix ix_list (pv 5) pe_int (fun _ _=>rfl)))) pss_nil)
    (pss_cons (ps_if (pt_cmpR op_eq (pv 1) pe_int (nomark _)) (pss_one (ps_set (i:=9) sc_sides.nd rfl (Or.inl rfl) (pe_callH h_knotted hr (by omega) rfl (pa_cons (pv 5) (pa_cons pe_int (pa_cons (pe_op op_fdiv (pv 3) pe_int) pa_nil)))))) pss_nil)
    (pss_cons (ps_if (pt_cmpR op_eq (pv 1) pe_int (nomark _)) (pss_one (ps_set (i:=9) sc_sides.nd rfl (Or.inl rfl) (pe_callH h_knotted hr (by omega) rfl (pa_cons (pv 5) (pa_cons pe_int (pa_cons (pe_op op_fdiv (pv 3) pe_int) pa_nil)))))) pss_nil)
    (pss_one (ps_ret (pe_tup (pa_cons (pv 9) (pa_cons (pv 8) pa_nil))))))))))))))))),?_⟩
  try dsimp only [cxOf]
  refine ⟨_,rfl,a,ns,_,rfl,hS,by decide,fun c=>⟨c,_,rfl,by decide,by decide,fun m m0 m1 => ?_⟩⟩
  dsimp only [gName]
  have r9:=Int.emod_nonneg m (show (9:Int)≠0 by decide)
  have r9':=Int.emod_lt_of_pos m (show (0:Int) < 9 by decide)
  have r8:=Int.emod_nonneg m (show (8:Int)≠0 by decide)
  have r8':=Int.emod_lt_of_pos m (show (0:Int) < 8 by decide)
  refine ⟨_,rfl,_,_,rfl,rfl,pos',_,_,rfl,rfl,?_⟩
  dsimp only [gName]
  refine rd_cut (fun σ' H'=>∃ n:Nat, σ' = [some (.ref a),some (.int way),some (.ref Pl),some (.int m),some (nV n),none,none,none,none,none]∧H'=H∧1≤n∧n≤9∧(way=3→n≤8)) ?_ (fun key => ?_)
  rotate_left
  · obtain ⟨u9,e9⟩:=Int.eq_ofNat_of_zero_le r9
    obtain ⟨u8,e8⟩:=Int.eq_ofNat_of_zero_le r8
    refine ⟨_,rfl,rfl,_,rfl,iteD (fun z => ?_) (fun z => ?_)⟩
    · refine ⟨_,rfl,_,_,rfl,rfl,pos',_,_,rfl,rfl,?_⟩
      refine key _ _ ⟨1+u8,?_,rfl,by omega,by omega,fun _=>by omega⟩
      rw [e8];rfl
    · refine key _ _ ⟨1+u9,?_,rfl,by omega,by omega,fun e=>absurd (congrArg V.int e) z⟩
      rw [e9];rfl
  rintro σ' H ⟨n,rfl,rfl,n1,n9,n3⟩
  refine rd_cut (fun σ' H'=>∃ n:Nat, σ' = [some (.ref a),some (.int way),some (.ref Pl),some (.int m),some (nV n),none,none,none,none,none]∧H'=H∧ManyOk way n) ?_ (fun key => ?_)
  rotate_left
  · refine ⟨_,rfl,rfl,_,rfl,iteD (fun z => ?_) (fun z => ?_)⟩
    · have ez:way=4:=V.int.inj z
      exact key _ _ ⟨10,rfl,rfl,⟨by decide,by decide,fun e=>by omega,fun _=>rfl,fun e=>absurd ez e⟩⟩
    · exact key _ _ ⟨n,rfl,rfl,⟨n1,by omega,n3,fun e=>absurd (congrArg V.int e) z,fun _=>n9⟩⟩
  rintro σ' H ⟨n,rfl,rfl,mo⟩
  have n1:=mo.lo
  have n10:=mo.hi
  clear n9 n3
  -- leaves
  refine ⟨Nat.zero_le _,fun L hL0 => ?_⟩
  dsimp only [gName]
  have s1:=same_new hL0 (.lst [])
  have hL1:=upd_same (H:=H) (a:=L) (o := .lst [])
  generalize upd H L (.lst [])=H1 at s1 hL1 ⊢
  refine rd_cut (SdI H a Pl L way m n z0 z1 n) ?_ (fun key => ?_)
  rotate_left
  · refine ⟨_,rfl,_,rfl,by omega,by omega,?_⟩
    rw [Int.toNat_natCast]
    refine for_range (lo:=0) (SdI H a Pl L way m n z0 z1) (SdI.mk [] [] none none rfl s1 hL1 .nil rfl fun t ht=>nomatch ht) ?_ (fun σ' H' h=>key _ _ h)
    rintro i σ H2 hi ⟨lvs,lts,x6,x7,rfl,s2,hL,hp,len,ok⟩
    have hlv:=Paired.length hp
    show tSeq _ _ _ _ _
    dsimp only [gName]
    refine ⟨_,rfl,_,rfl,_,_,rfl,rfl,a,ns,_,rfl,s2.seq hS,by omega,fun c1 => ?_⟩
    dsimp only [gName]
    refine ⟨_,rfl,.inl ⟨rfl,_,SqL.of hL⟩,_,rfl,_,rfl,_,rfl,c1,_,rfl,by omega,by omega,fun m2 m20 m21 => ?_⟩
    refine ⟨_,rfl,_,rfl,Pl,_,rfl,SqL.of (s2 _ _ hP.at_),fun S1 hS1 => ?_⟩
    rw [pool_cut]
    have t3:=same_new hS1 (.lst [.str z0,.str z1])
    have hS13:=upd_same (H:=H2) (a:=S1) (o := .lst [.str z0,.str z1])
    generalize upd H2 S1 (.lst [.str z0,.str z1])=H3 at t3 hS13 ⊢
    refine SpLeaf.mk c1 m2 S1 [z0,z1] rfl m20 m21 (SqL.of hS13) fun v t H4 s4 tr lo => ?_
    have t4:=t3.trans s4
    have hL4:=t4 _ _ hL
    have kp:∀ b ys,H4 b=some (.tup ys)→(upd H4 L (.lst (lvs ++ [v]))) b=some (.tup ys):=fun b ys e=>by rw [upd_ne (ne_of e hL4 (fun z=>nomatch z))];exact e
    refine ⟨L,lvs,v,rfl,rfl,hL4,small1000 (by omega),?_⟩
    refine SdI.mk (lvs ++ [v]) (lts ++ [t]) _ _ rfl ((s2.trans t4).put hL0) upd_same (Paired.snoc (prs_keep kp (prs_same t4 hp)) (tr_keep kp tr)) (by rw [List.length_append,len];rfl) fun u hu => ?_
    rcases List.mem_append.mp hu with hu | hu
    · exact ok u hu
    · rw [List.mem_singleton.mp hu];exact lo
  rintro σ' H2 ⟨lvs,lts,x6,x7,rfl,s2,hL,hp,len,ok⟩
  have hlv:=Paired.length hp
  -- leaves[..]=('any',..)
  have p2:=Int.emod_nonneg (m / 90) (show (2:Int)≠0 by decide)
  have p2':=Int.emod_lt_of_pos (m / 90) (show (0:Int) < 2 by decide)
  have hz01:∃ y:Str,atI [V.str z0,.str z1,.str z2] (m / 90 % 2)=some (.str y)∧y ∈ [z0,z1]:=by
    rcases (show m / 90 % 2=0∨m / 90 % 2=1 by omega) with e | e <;> rw [e]
    · exact ⟨z0,rfl,List.mem_cons_self⟩
    · exact ⟨z1,rfl,List.mem_cons_of_mem _ List.mem_cons_self⟩
  obtain ⟨y,hy,hym⟩:=hz01
  have pn:(0:Int) < ((n:Nat):Int):=by omega
  have j0:=Int.emod_nonneg (m / 9) (show ((n:Nat):Int)≠0 by omega)
  have j1:=Int.emod_lt_of_pos (m / 9) pn
  obtain ⟨j,hj⟩:∃ j:Nat,m / 9 % ((n:Nat):Int)=(j:Int):=⟨_,(Int.toNat_of_nonneg j0).symm⟩
  have hjn:j < n:=by omega
  refine ⟨_,rfl,_,rfl,_,_,rfl,rfl,div',_,_,rfl,rfl,pos',Pl,_,_,_,rfl,rfl,SqL.of (s2 _ _ hP.at_),hy,(show 2≤sizeLine by decide),fun pa hpa => ?_⟩
  have t3:=same_new hpa (.tup [.str "any",.str y])
  have hpa3:=upd_same (H:=H2) (a:=pa) (o := .tup [.str "any",.str y])
  have hL3:=t3 _ _ hL
  generalize upd H2 pa (.tup [.str "any",.str y])=H3 at t3 hpa3 hL3 ⊢
  have kp3:∀ b ys,H3 b=some (.tup ys)→(upd H3 L (.lst (lvs.set j (.ref pa)))) b=some (.tup ys):=fun b ys e=>by rw [upd_ne (ne_of e hL3 (fun z=>nomatch z))];exact e
  refine ⟨_,rfl,_,rfl,_,_,rfl,rfl,div',_,rfl,_,_,rfl,rfl,pn,L,lvs,_,j,rfl,rfl,hL3,?_,?_⟩
  · unfold ixN
    rw [hj,if_pos (by omega),if_pos (by omega)]
    congr 1
  have s4:Same H (upd H3 L (.lst (lvs.set j (.ref pa)))):=(s2.trans t3).put hL0
  have hL4:=upd_same (H:=H3) (a:=L) (o := .lst (lvs.set j (.ref pa)))
  have hp4:Prs (upd H3 L (.lst (lvs.set j (.ref pa)))) (lvs.set j (.ref pa)) (lts.set j (.any y)):=paired_set j (prs_keep kp3 (prs_same t3 hp)) (by rw [IsTr];exact ⟨pa,rfl,kp3 _ _ hpa3⟩)
  have len4:(lts.set j (.any y)).length=n:=by rw [List.length_set,len]
  have ok4:∀ t∈lts.set j (.any y),LeafOk [z0,z1] t:=fun t ht=>by
    rcases List.mem_or_eq_of_mem_set ht with h | h
    · exact ok t h
    · rw [h];exact leaf_any hym
  have hyr:y∈raws (lts.set j (.any y)):=mem_raws.mpr ⟨.any y,List.mem_set (by omega) _,by rw [raw];exact List.mem_singleton.mpr rfl⟩
  generalize upd H3 L (.lst (lvs.set j (.ref pa)))=H4 at s4 hL4 hp4 ⊢
  generalize lts.set j (.any y)=lts at hp4 len4 ok4 hyr
  generalize lvs.set j (.ref pa)=lvs at hL4 hp4
  have hlv4:=Paired.length hp4
  obtain ⟨sp,sk,sd,sr⟩:=leaves_sum ok4
  -- bound
  have hP4:=s4 _ _ hP.at_
  refine ⟨_,rfl,Pl,rfl,⟨_,SqL.of hP4⟩,?_⟩
  refine compI_listS (xs:=([z0,z1,z2]:List Str).map V.str) (bdV lts) (SqL.of hP4) (show 3≤1000 by decide) (fun x hx H' sm R r => ?_) (fun x v hx e H' sm Q' q' => ?_) (fun Bl H5 hB0 s5 hB5 => ?_)
  · obtain ⟨z,_,rfl⟩:=List.mem_map.mp hx
    refine ⟨_,rfl,(show 2≤sizeLine by decide),fun p hp' => ?_⟩
    have t6:=sm.trans (same_new hp' (.tup [.str "any",.str z]))
    refine ⟨_,rfl,.tup [.str "any",.str z],lts.map leafD,by rw [Den];exact ⟨p,_,rfl,upd_same,dens_cons (by rw [Den]) (dens_cons (by rw [Den]) dens_nil)⟩,.inl (by rw [Den];exact ⟨L,lvs,rfl,t6 _ _ hL4,dens_leaf (prs_same t6 hp4) fun t ht=>(ok4 t ht).no⟩),leaves_deep lts,_,rfl,?_⟩
    have r1:=r _ (same_new hp' (.tup [.str "any",.str z]))
    have e:(if false=true then !decide (L2.D.tup [.str "any",.str z]∈lts.map leafD) else decide (L2.D.tup [.str "any",.str z]∈lts.map leafD))=(bdV lts (.str z)).isSome:=by
      rw [if_neg (by decide)]
      show _=(if z∈raws lts then some (V.str z) else none).isSome
      by_cases h:z∈raws lts
      · rw [if_pos h,decide_eq_true ((any_mem ok4).mpr h)];rfl
      · rw [if_neg h,decide_eq_false fun c=>h ((any_mem ok4).mp c)];rfl
    rw [e]
    exact r1
  · obtain ⟨z,_,rfl⟩:=List.mem_map.mp hx
    have e':(if z∈raws lts then some (V.str z) else none)=some v:=e
    split at e'
    · rw [← Option.some.inj e'] at q';exact ⟨_,rfl,q' _ (Same.refl _)⟩
    · cases e'
  dsimp only [gName]
  rw [bd_map] at hB5
  have bmem:∀ h,h∈([z0,z1,z2]:List Str).filter (fun z=>decide (z∈raws lts))↔h∈raws lts:=fun h=>by
    rw [List.mem_filter,decide_eq_true_iff]
    refine ⟨fun x=>x.2,fun x=>⟨?_,x⟩⟩
    have:=sr h x
    rcases List.mem_cons.mp this with e | e
    · rw [e];exact List.mem_cons_self
    · rw [List.mem_singleton.mp e];exact List.mem_cons_of_mem _ List.mem_cons_self
  generalize ([z0,z1,z2]:List Str).filter (fun z=>decide (z∈raws lts))=bs at bmem hB5
  have bp:0 < bs.length:=List.length_pos_of_mem ((bmem y).mpr hyr)
  have bsub:∀ b∈bs,b=z0∨b=z1:=fun b hb=>by
    have:=sr b ((bmem b).mp hb)
    rcases List.mem_cons.mp this with e | e
    · exact .inl e
    · exact .inr (List.mem_singleton.mp e)
  have g5:=s4.trans s5
  have hL5:=s5 _ _ hL4
  have hp5:=prs_same s5 hp4
  -- left
  have q180:=Int.emod_nonneg (m / 180) (show (3:Int)≠0 by decide)
  have q180':=Int.emod_lt_of_pos (m / 180) (show (0:Int) < 3 by decide)
  obtain ⟨nn,hnn,nn1,nn3⟩:∃ nn:Nat,(if 1+m / 180 % 3 > (((n:Nat):Int)+1) / 3 then 1+m / 180 % 3 else (((n:Nat):Int)+1) / 3)=((nn:Nat):Int)∧1≤nn∧nn≤3:=by
    have d0:0≤(((n:Nat):Int)+1) / 3:=by omega
    split
    · exact ⟨(1+m / 180 % 3).toNat,by omega,by omega,by omega⟩
    · exact ⟨((((n:Nat):Int)+1) / 3).toNat,by omega,by omega,by omega⟩
  refine rd_cut (SdL H5 a Pl L Bl way m n z0 z1 lvs lts bs x6 x7 (KnOk lts nn)) ?_ (fun key => ?_)
  rotate_left
  · refine ⟨_,rfl,_,rfl,_,_,rfl,rfl,_,_,rfl,rfl,div',_,rfl,_,_,rfl,rfl,div',_,_,rfl,rfl,pos',_,_,rfl,rfl,_,_,rfl,_,rfl,_,_,rfl,rfl,div',SpKnotted.mk L lvs lts nn (m / 7) (by rw [hnn];rfl) hL5 hp5 (by omega) (by omega) nn1 (by omega) fun v t H6 s6 tr kn=>key _ _ (SdL.mk v t rfl s6 tr kn)⟩
  rintro σ' H6 ⟨v,t,rfl,s6,tr,kn⟩
  refine rd_cut (SdL H5 a Pl L Bl way m n z0 z1 lvs lts bs x6 x7 (fun t=>(way=2→LeafOk [z0,z1] t)∧(way≠2→KnOk lts nn t))) ?_ (fun key => ?_)
  rotate_left
  · refine ⟨_,rfl,rfl,_,rfl,iteD (fun z => ?_) (fun z=>key _ _ (SdL.mk v t rfl s6 tr ⟨fun e=>absurd (congrArg V.int e) z,fun _=>kn⟩))⟩
    have ez:way=2:=V.int.inj z
    obtain ⟨v0,hv0⟩:∃ v0,lvs[0]? = some v0:=⟨_,List.getElem?_eq_getElem (by omega)⟩
    obtain ⟨t0,ht0,htr0⟩:=Paired.at (prs_same s6 hp5) hv0
    exact ⟨_,rfl,L,_,0,_,rfl,rfl,SqL.of (s6 _ _ hL5),atI_nat (j:=0) hv0,key _ _ (SdL.mk v0 t0 rfl s6 htr0 ⟨fun _=>ok4 t0 (List.mem_of_getElem? ht0),fun e=>absurd ez e⟩)⟩
  rintro σ' H7 ⟨v,t,rfl,s7,tr,k2,k2'⟩
  refine rd_cut (SdL H5 a Pl L Bl way m n z0 z1 lvs lts bs x6 x7 (fun t=>(way=2→LeafOk [z0,z1] t)∧(way=3→KnOk lts 4 t)∧(way≠2→way≠3→KnOk lts nn t))) ?_ (fun key => ?_)
  rotate_left
  · refine ⟨_,rfl,rfl,_,rfl,iteD (fun z => ?_) (fun z=>key _ _ (SdL.mk v t rfl s7 tr ⟨k2,fun e=>absurd (congrArg V.int e) z,fun e _=>k2' e⟩))⟩
    have ez:way=3:=V.int.inj z
    refine ⟨_,rfl,_,rfl,_,_,rfl,rfl,div',SpKnotted.mk L lvs lts 4 (m / 7) rfl (s7 _ _ hL5) (prs_same s7 hp5) (by omega) (by omega) (by decide) (by decide) fun v t H8 s8 tr kn=>key _ _ (SdL.mk v t rfl (s7.trans s8) tr ⟨fun e=>by omega,fun _=>kn,fun _ e=>absurd ez e⟩)⟩
  rintro σ' H8 ⟨v,t,rfl,s8,tr,k2,k3,k3'⟩
  refine rd_cut (SdL H5 a Pl L Bl way m n z0 z1 lvs lts bs x6 x7 (fun t=>(way=2→LeafOk [z0,z1] t)∧(way=3→KnOk lts 4 t)∧(way=4→KnOk lts 3 t)∧(way≠2→way≠3→way≠4→KnOk lts nn t))) ?_ (fun key => ?_)
  rotate_left
  · refine ⟨_,rfl,rfl,_,rfl,iteD (fun z => ?_) (fun z=>key _ _ (SdL.mk v t rfl s8 tr ⟨k2,k3,fun e=>absurd (congrArg V.int e) z,fun e e' _=>k3' e e'⟩))⟩
    have ez:way=4:=V.int.inj z
    refine ⟨_,rfl,_,rfl,_,_,rfl,rfl,div',SpKnotted.mk L lvs lts 3 (m / 7) rfl (s8 _ _ hL5) (prs_same s8 hp5) (by omega) (by omega) (by decide) (by decide) fun v t H9 s9 tr kn=>key _ _ (SdL.mk v t rfl (s8.trans s9) tr ⟨fun e=>by omega,fun e=>by omega,fun _=>kn,fun _ _ e=>absurd ez e⟩)⟩
  rintro σ' H9 ⟨v,t,rfl,s9,tr,k2,k3,k4,k5⟩
  refine ⟨_,rfl,_,rfl,(show 2≤sizeLine by decide),fun p hp' => ?_⟩
  have t10:=same_new hp' (.tup [v,.ref Bl])
  have gA:=s9.trans t10
  have kn:way≠2→∃ k,k≤4∧KnOk lts k t:=fun e=>by
    by_cases e3:way=3
    · exact ⟨4,by omega,k3 e3⟩
    by_cases e4:way=4
    · exact ⟨3,by omega,k4 e4⟩
    · exact ⟨nn,by omega,k5 e e3 e4⟩
  refine q p v Bl t bs _ (g5.trans gA) upd_same (gA _ _ hB5) (tr_same t10 tr) ⟨bp,bsub,fun e=>(k2 e).no,fun e => ?_,fun e h => ?_,fun e => ?_,fun e => ?_,fun e e3 e4 => ?_,?_,?_⟩
  · obtain ⟨k,_,kk⟩:=kn e;exact kk.of_
  · obtain ⟨k,_,kk⟩:=kn e;rw [kk.raw_ h,bmem h]
  · rw [(k3 e).kn,sk]
  · rw [(k4 e).parts,sp,len4,mo.four e]
  · have kk:=k5 e e3 e4
    have:=mo.else_ e4
    exact ⟨by rw [kk.parts,sp,len4];omega,by rw [kk.kn,sk];omega⟩
  · by_cases e:way=2
    · rw [(k2 e).dep];decide
    · obtain ⟨k,hk,kk⟩:=kn e
      have:=kk.dep
      omega
  · by_cases e:way=2
    · rw [(k2 e).parts];decide
    · obtain ⟨k,hk,kk⟩:=kn e
      rw [kk.parts,sp,len4]
      omega
end

end K41
namespace K41
open PySem L2 Sw
section
variable {P:Program} {w:World} {K:PySem.W.Frag} {mg:Str→Option Value} {base:Heap} {CU CNR:Addr}
noncomputable def stV (bs:List Str) (v:V):Option V:=match v with
  | .str z=>if z∈bs then none else some (.str z)
  | _=>none
theorem st_map (bs:List Str):∀ zs:List Str,(zs.map V.str).filterMap (stV bs)=(zs.filter fun z => !decide (z∈bs)).map V.str
  | []=>rfl
  | z :: zs=>by
    rw [List.map_cons,List.filterMap_cons,List.filter_cons,st_map bs zs]
    by_cases h:z∈bs
    · have e:stV bs (V.str z)=none:=if_pos h
      rw [e,if_neg (by rw [decide_eq_true h];decide)]
    · have e:stV bs (V.str z)=some (V.str z):=if_neg h
      rw [e,if_pos (by rw [decide_eq_false h];rfl)];rfl
structure RightOk (way:Int) (bs:List Str) (t:T):Prop where
  five:way=5→t.parts=13
  six:way=6→∃ h∈raw t,h ∉ bs
  sub:way≠6→∀ h∈raw t,h∈bs
  else_:way≠5→t.parts≤12
  dep:t.depth≤14
  parts:t.parts≤100
inductive SpRight (K:PySem.W.Frag) (vs:List V) (H:Hp) (Q:VK):Prop
  | mk (a Pl Bl:Addr) (ns:List Int) (way:Int) (z0 z1 z2:Str) (bs:List Str) (ev:vs = [.ref a,.int way,.ref Pl,.ref Bl]) (hS:SqL K H a (ns.map V.int)) (hP:PoolAt H Pl z0 z1 z2) (hB:H Bl=some (.lst (bs.map V.str))) (bp:0 < bs.length) (bsub:∀ b∈bs,b=z0∨b=z1)
    (q:∀ v t H',Same H H'→IsTr H' t v→RightOk way bs t→Q v H'):SpRight K vs H Q
noncomputable def spRight (K:PySem.W.Frag):Sp:=fun vs H Q _=>SpRight K vs H Q
theorem strange {z0 z1 z2:Str} {bs:List Str} (e1:z1.length=z0.length) (e2:z2.length≠z0.length) (bsub:∀ b∈bs,b=z0∨b=z1):z2∈([z0,z1,z2]:List Str).filter fun z => !decide (z∈bs):=by
  rw [List.mem_filter]
  refine ⟨by simp,?_⟩
  have:z2 ∉ bs:=fun h=>by
    rcases bsub z2 h with e | e
    · exact e2 (by rw [e])
    · exact e2 (by rw [e,e1])
  rw [decide_eq_false this];rfl
inductive RtI (H:Hp) (a Pl Bl L:Addr) (way m:Int) (n:Nat) (bs:List Str) (i:Nat) (σ : St) (H':Hp):Prop
  | mk (lvs:List V) (lts:List T) (x7 x8:Option V) (e : σ = [some (.ref a),some (.int way),some (.ref Pl),some (.ref Bl),some (.int m),some (nV n),some (.ref L),x7,x8,none,none,none]) (sm:Same H H') (hL:H' L=some (.lst lvs)) (hp:Prs H' lvs lts) (len:lts.length=i) (ok:∀ t∈lts,LeafOk bs t)
inductive RtS (H:Hp) (a Pl Bl L:Addr) (way m:Int) (n:Nat) (bs:List Str) (x7 x8:Option V) (σ : St) (H':Hp):Prop
  | mk (lvs:List V) (lts:List T) (x9:Option V) (ws:List Str) (e : σ = [some (.ref a),some (.int way),some (.ref Pl),some (.ref Bl),some (.int m),some (nV n),some (.ref L),x7,x8,x9,none,none]) (sm:Same H H') (hL:H' L=some (.lst lvs)) (hp:Prs H' lvs lts) (len:lts.length=n) (ok:∀ t∈lts,LeafOk ws t)
    (six:way=6→∃ h∈raws lts,h ∉ bs) (no6:way≠6→∀ h∈raws lts,h∈bs)
theorem ok_right (B:Blt mg) (h_cell_at:Has P w K mg base 1 "_law_cell_at" ["_law_script", "_law_k"] (spCell K)) (h_mixed:Has P w K mg base 1 "_law_mixed" ["_law_cell", "_law_k"] spMixed) (h_leaf:Has P w K mg base 2 "_law_leaf" ["_law_cell", "_law_m", "_law_words"] (spLeaf K))
    (h_knotted:Has P w K mg base 2 "_law_knotted" ["_law_leaves", "_law_many", "_law_m"] spKnotted) (D:Def K mg "_law_right" s_right ["_law_script", "_law_way", "_law_pool_here", "_law_bound"]):Has P w K mg base 3 "_law_right" ["_law_script", "_law_way", "_law_pool_here", "_law_bound"] (spRight K):=by
  refine D.has sc_right (fun vs H Q E h => ?_) (fun f cdv A outer s H vs Q E hr h => ?_)
  · obtain ⟨a,Pl,Bl,ns,way,z0,z1,z2,bs,rfl,_⟩:=h;rfl
  obtain ⟨a,Pl,Bl,ns,way,z0,z1,z2,bs,rfl,hS,hP,hB,bp,bsub,q⟩:=h
  refine ⟨_,(pss_cons (ps_set (i:=4) sc_right.nd rfl (Or.inl rfl) (pe_callH h_mixed hr (by omega) rfl (pa_cons (pe_callH h_cell_at hr (by omega) rfl (pa_cons (pv 0) (pa_cons pe_int pa_nil))) (pa_cons pe_int pa_nil))))
    (pss_cons (ps_set (i:=5) sc_right.nd rfl (Or.inl rfl) (pe_op op_add pe_int (pe_op op_mod (pv 4) pe_int)))
    (pss_cons (ps_set (i:=6) sc_right.nd rfl (Or.inl rfl) (pe_lst pa_nil))
    (pss_cons (ps_for PassesOwn.never rfl (pi_range1 rfl B.range_ (pa_cons (pv 5) pa_nil)) (pg_name (i:=7) sc_right.nd rfl (Or.inl rfl))
    (pss_cons (ps_set (i:=8) sc_right.nd rfl (Or.inl rfl) (pe_callH h_cell_at hr (by omega) rfl (pa_cons (pv 0) (pa_cons (pe_op op_add pe_int (pv 7)) pa_nil))))
    (pss_one (ps_expr (pe_bm PySem.F.plainAttrs_list PySem.F.slot_list_append PySem.F.type_list_append mt_append (pv 6) (pa_cons (pe_callH h_leaf hr (by omega) rfl (pa_cons (pv 8) (pa_cons (pe_callH h_mixed hr (by omega) rfl (pa_cons (pv 8) (pa_cons (pe_op op_add (pv 7) pe_int) pa_nil))) (pa_cons (pv 3) pa_nil)))) pa_nil))))))
    (pss_cons (ps_if (pt_cmpR op_eq (pv 1) pe_int (nomark _)) (pss_cons (ps_setCompI (i:=9) sc_right.nd rfl rfl (te:=_) (ct:=(tTest (tOp (rIn K true) _ _))) (own := ["_law_word_here"]) (caps := [("_law_bound",3)]) (comp_scope (defScope s_right) ["_law_script", "_law_way", "_law_pool_here", "_law_bound", "_law_m", "_law_many", "_law_leaves", "_law_k", "_law_cell", "_law_strange", "_law_least", "_law_joins"] rfl rfl rfl (by decide +kernel)) (pi_list (pv 2)) rfl (fun _ _ _=>pg_name (i:=0) (show (["_law_word_here", "_law_bound"]:List Str).Nodup by decide +kernel) rfl (Or.inl rfl)) (fun _ _ _=>(pt_cmpR op_notIn_seq (pv 0) (pv 1) (by with_unfolding_all rfl))) (fun _ _ _=>(pv 0)) rfl)
    (pss_one (ps_asg (pe_tup (pa_cons pe_str (pa_cons (pe_ix ix_list (pv 9) (pe_op op_mod (pe_op op_fdiv (pv 4) pe_int) (pe_callB call_len_seq rfl B.len_ PySem.boot_len (pa_cons (pv 9) pa_nil))) (fun _ _=>rfl)) pa_nil))) (pg_sub (pv 6) (pe_op op_mod (pe_op op_fdiv (pv 4) pe_int) (pv 5)) set_list)))) pss_nil)
    (pss_cons (ps_if (PW.pt (pw_and (pt_cmpR op_eq (pv 5) pe_int (nomark _)) (pw_and (pt_cmpR op_eq (pe_op op_mod (pe_op op_fdiv (pv 4) pe_int) pe_int) pe_int (nomark _)) (pw_and1 (pt_cmpR op_ne (pv 1) pe_int (nomark _)))))) (pss_one (ps_ret (pe_ix ix_list (pv 6) pe_int (fun _ _=>rfl)))) pss_nil)
    (pss_cons (ps_set (i:=10) sc_right.nd rfl (Or.inl rfl) (pe_callB (call_max2 rfl) rfl B.max_ boot_max_ (pa_cons pe_int (pa_cons (pe_op op_fdiv (pe_op op_add (pv 5) pe_int) pe_int) pa_nil))))
    (pss_cons (ps_set (i:=11) sc_right.nd rfl (Or.inl rfl) (pe_op op_add (pv 10) (pe_op op_mod (pe_op op_fdiv (pv 4) pe_int) (pe_op op_sub (pe_op op_sub pe_int (pv 5)) (pv 10)))))
    (pss_cons (ps_if (pt_cmpR op_eq (pv 1) pe_int (nomark _)) (pss_one (ps_set (i:=11) sc_right.nd rfl (Or.inl rfl) (pe_op op_sub pe_int (pv 5)))) pss_nil)
    (pss_one (ps_ret (pe_callH h_knotted hr (by omega) rfl (pa_cons (pv 6) (pa_cons (pv 11) (pa_cons (pe_op op_fdiv (pv 4) pe_int) pa_nil))))))))))))))),?_⟩
  try dsimp only [cxOf]
  refine ⟨_,rfl,a,ns,_,rfl,hS,by decide,fun c=>⟨c,_,rfl,by decide,by decide,fun m m0 m1 => ?_⟩⟩
  dsimp only [gName]
  have r9:=Int.emod_nonneg m (show (9:Int)≠0 by decide)
  have r9':=Int.emod_lt_of_pos m (show (0:Int) < 9 by decide)
  refine ⟨_,rfl,_,_,rfl,rfl,pos',_,_,rfl,rfl,?_⟩
  dsimp only [gName]
  obtain ⟨n,hn,n1,n9⟩:∃ n:Nat,1+m % 9=((n:Nat):Int)∧1≤n∧n≤9:=⟨(1+m % 9).toNat,by omega,by omega,by omega⟩
  rw [hn]
  refine ⟨Nat.zero_le _,fun L hL0 => ?_⟩
  dsimp only [gName]
  have s1:=same_new hL0 (.lst [])
  have hL1:=upd_same (H:=H) (a:=L) (o := .lst [])
  generalize upd H L (.lst [])=H1 at s1 hL1 ⊢
  refine rd_cut (RtI H a Pl Bl L way m n bs n) ?_ (fun key => ?_)
  rotate_left
  · refine ⟨_,rfl,_,rfl,by omega,by omega,?_⟩
    rw [Int.toNat_natCast]
    refine for_range (lo:=0) (RtI H a Pl Bl L way m n bs) (RtI.mk [] [] none none rfl s1 hL1 .nil rfl fun t ht=>nomatch ht) ?_ (fun σ' H' h=>key _ _ h)
    rintro i σ H2 hi ⟨lvs,lts,x7,x8,rfl,s2,hL,hp,len,ok⟩
    have hlv:=Paired.length hp
    show tSeq _ _ _ _ _
    dsimp only [gName]
    refine ⟨_,rfl,_,rfl,_,_,rfl,rfl,a,ns,_,rfl,s2.seq hS,by omega,fun c1 => ?_⟩
    dsimp only [gName]
    refine ⟨_,rfl,.inl ⟨rfl,_,SqL.of hL⟩,_,rfl,_,rfl,_,rfl,_,_,rfl,rfl,c1,_,rfl,by omega,by omega,fun m2 m20 m21 => ?_⟩
    refine ⟨_,rfl,SpLeaf.mk c1 m2 Bl bs rfl m20 m21 (SqL.of (s2 _ _ hB)) fun v t H4 t4 tr lo => ?_⟩
    have hL4:=t4 _ _ hL
    have kp:∀ b ys,H4 b=some (.tup ys)→(upd H4 L (.lst (lvs ++ [v]))) b=some (.tup ys):=fun b ys e=>by rw [upd_ne (ne_of e hL4 (fun z=>nomatch z))];exact e
    refine ⟨L,lvs,v,rfl,rfl,hL4,small1000 (by omega),?_⟩
    refine RtI.mk (lvs ++ [v]) (lts ++ [t]) _ _ rfl ((s2.trans t4).put hL0) upd_same (Paired.snoc (prs_keep kp (prs_same t4 hp)) (tr_keep kp tr)) (by rw [List.length_append,len];rfl) fun u hu => ?_
    rcases List.mem_append.mp hu with hu | hu
    · exact ok u hu
    · rw [List.mem_singleton.mp hu];exact lo
  rintro σ' H2 ⟨lvs,lts,x7,x8,rfl,s2,hL,hp,len,ok⟩
  have hlv:=Paired.length hp
  -- a strange word
  refine rd_cut (RtS H a Pl Bl L way m n bs x7 x8) ?_ (fun key => ?_)
  rotate_left
  · refine ⟨_,rfl,rfl,_,rfl,iteD (fun z => ?_) (fun z=>key _ _ (RtS.mk lvs lts none bs rfl s2 hL hp len ok (fun e=>absurd (congrArg V.int e) z) fun _=>(leaves_sum ok).2.2.2))⟩
    have ez:way=6:=V.int.inj z
    have hP2:=s2 _ _ hP.at_
    refine ⟨_,rfl,Pl,rfl,⟨_,SqL.of hP2⟩,?_⟩
    refine compI_listS (xs:=([z0,z1,z2]:List Str).map V.str) (stV bs) (SqL.of hP2) (show 3≤1000 by decide) (fun x hx H' sm R r => ?_) (fun x v hx e H' sm Q' q' => ?_) (fun Sl H5 hS0 s5 hS5 => ?_)
    · obtain ⟨z,_,rfl⟩:=List.mem_map.mp hx
      refine ⟨_,rfl,_,rfl,Bl,_,rfl,.inl (SqL.of (sm _ _ (s2 _ _ hB))),rfl,flat_strs bs,_,rfl,?_⟩
      have r1:=r _ (Same.refl _)
      have e:(if true=true then !inV (.str z) (bs.map V.str) else inV (.str z) (bs.map V.str))=(stV bs (.str z)).isSome:=by
        rw [if_pos rfl,in_strs]
        show _=(if z∈bs then none else some (V.str z)).isSome
        by_cases h:z∈bs
        · rw [if_pos h,decide_eq_true h];rfl
        · rw [if_neg h,decide_eq_false h];rfl
      rw [e]
      exact r1
    · obtain ⟨z,_,rfl⟩:=List.mem_map.mp hx
      have e':(if z∈bs then none else some (V.str z))=some v:=e
      split at e'
      · cases e'
      · rw [← Option.some.inj e'] at q';exact ⟨_,rfl,q' _ (Same.refl _)⟩
    dsimp only [gName]
    rw [st_map] at hS5
    have sp:=List.length_pos_of_mem (strange hP.e1 hP.e2 bsub)
    have snb:∀ z∈([z0,z1,z2]:List Str).filter (fun z => !decide (z∈bs)),z ∉ bs:=fun z hz c=>by
      have:=(List.mem_filter.mp hz).2
      rw [decide_eq_true c] at this
      cases this
    generalize ([z0,z1,z2]:List Str).filter (fun z => !decide (z∈bs))=ss at sp snb hS5
    have ssl:(ss.map V.str).length=ss.length:=List.length_map ..
    have pw:(0:Int) < (((ss.map V.str).length:Nat):Int):=by omega
    obtain ⟨v,hv,hvm⟩:=atI_ex (xs:=ss.map V.str) (Int.emod_nonneg (m / 90) (show (((ss.map V.str).length:Nat):Int)≠0 by omega)) (Int.emod_lt_of_pos (m / 90) pw)
    obtain ⟨y,hy,rfl⟩:=List.mem_map.mp hvm
    have pn:(0:Int) < ((n:Nat):Int):=by omega
    have j0:=Int.emod_nonneg (m / 9) (show ((n:Nat):Int)≠0 by omega)
    have j1:=Int.emod_lt_of_pos (m / 9) pn
    obtain ⟨j,hj⟩:∃ j:Nat,m / 9 % ((n:Nat):Int)=(j:Int):=⟨_,(Int.toNat_of_nonneg j0).symm⟩
    have hjn:j < n:=by omega
    refine ⟨_,rfl,_,rfl,_,_,rfl,rfl,div',_,rfl,Sl,_,rfl,.inl (SqL.of hS5),_,_,rfl,rfl,pw,Sl,_,_,_,rfl,rfl,SqL.of hS5,hv,(show 2≤sizeLine by decide),fun pa hpa => ?_⟩
    have t3:=s5.trans (same_new hpa (.tup [.str "any",.str y]))
    have hpa3:=upd_same (H:=H5) (a:=pa) (o := .tup [.str "any",.str y])
    have hL3:=t3 _ _ hL
    generalize upd H5 pa (.tup [.str "any",.str y])=H3 at t3 hpa3 hL3 ⊢
    have kp3:∀ b ys,H3 b=some (.tup ys)→(upd H3 L (.lst (lvs.set j (.ref pa)))) b=some (.tup ys):=fun b ys e=>by rw [upd_ne (ne_of e hL3 (fun z=>nomatch z))];exact e
    refine ⟨_,rfl,_,rfl,_,_,rfl,rfl,div',_,rfl,_,_,rfl,rfl,pn,L,lvs,_,j,rfl,rfl,hL3,?_,?_⟩
    · unfold ixN
      rw [hj,if_pos (by omega),if_pos (by omega)]
      congr 1
    refine key _ _ (RtS.mk (lvs.set j (.ref pa)) (lts.set j (.any y)) _ (y :: bs) rfl ((s2.trans t3).put hL0) upd_same (paired_set j (prs_keep kp3 (prs_same t3 hp)) (by rw [IsTr];exact ⟨pa,rfl,kp3 _ _ hpa3⟩)) (by rw [List.length_set,len]) (fun t ht => ?_) (fun _=>⟨y,mem_raws.mpr ⟨.any y,List.mem_set (by omega) _,by rw [raw];exact List.mem_singleton.mpr rfl⟩,snb y hy⟩) fun e=>absurd ez e)
    rcases List.mem_or_eq_of_mem_set ht with h | h
    · exact (ok t h).mono fun z hz=>List.mem_cons_of_mem _ hz
    · rw [h];exact leaf_any List.mem_cons_self
  rintro σ' H3 ⟨lvs,lts,x9,ws,rfl,s3,hL,hp,len,ok,six,no6⟩
  have hlv:=Paired.length hp
  obtain ⟨sp,sk,sd,_⟩:=leaves_sum ok
  -- one leaf
  refine rd_if2 (fun b Hc=>Hc=H3∧(b=true→n=1∧way≠5)) (fun Qc qc => ?_) (fun Hc h => ?_) (fun Hc h => ?_)
  · refine ⟨_,rfl,rfl,_,rfl,iteD (fun z1 => ?_) (fun _=>qc _ _ ⟨rfl,fun x=>nomatch x⟩)⟩
    refine ⟨_,rfl,_,_,rfl,rfl,div',_,_,rfl,rfl,pos',rfl,_,rfl,iteD (fun _ => ?_) (fun _=>qc _ _ ⟨rfl,fun x=>nomatch x⟩)⟩
    refine ⟨_,rfl,rfl,_,rfl,qc _ _ ⟨rfl,fun x=>⟨by have:=V.int.inj z1;omega,fun e => ?_⟩⟩⟩
    rw [e] at x
    exact absurd x (by decide)
  · obtain ⟨rfl,hh⟩:=h
    obtain ⟨e1,w5⟩:=hh rfl
    obtain ⟨v0,hv0⟩:∃ v0,lvs[0]? = some v0:=⟨_,List.getElem?_eq_getElem (by omega)⟩
    obtain ⟨t0,ht0,htr0⟩:=Paired.at hp hv0
    have lo:=ok t0 (List.mem_of_getElem? ht0)
    have one:lts = [t0]:=by
      match lts,len with
      | [u],_=>rw [show u=t0 from Option.some.inj ht0]
      | [],e=>simp at e;omega
      | _ :: _ :: _,e=>simp at e;omega
    refine ⟨_,rfl,L,_,0,_,rfl,rfl,SqL.of hL,atI_nat (j:=0) hv0,q v0 t0 _ s3 htr0 ⟨fun e=>absurd e w5,fun e => ?_,fun e h hh => ?_,fun _=>by rw [lo.parts];decide,by rw [lo.dep];decide,by rw [lo.parts];decide⟩⟩
    · obtain ⟨h,hh,hn⟩:=six e
      rw [one,raws_one] at hh
      exact ⟨h,hh,hn⟩
    · refine no6 e h ?_
      rw [one,raws_one];exact hh
  obtain ⟨rfl, -⟩:=h
  dsimp only [tNext]
  have d0:0≤(((n:Nat):Int)+1) / 3:=by omega
  obtain ⟨lt,hlt,lt1,lt3,ltn⟩:∃ lt:Nat,(if (((n:Nat):Int)+1) / 3 > 1 then (((n:Nat):Int)+1) / 3 else 1)=((lt:Nat):Int)∧1≤lt∧lt≤3∧n+lt≤12:=by
    split
    · exact ⟨((((n:Nat):Int)+1) / 3).toNat,by omega,by omega,by omega,by omega⟩
    · exact ⟨1,rfl,by omega,by omega,by omega⟩
  refine ⟨_,rfl,_,_,rfl,rfl,_,_,rfl,rfl,div',_,_,rfl,?_⟩
  dsimp only [gName]
  rw [hlt]
  have pk:(0:Int) < 13 - ((n:Nat):Int) - ((lt:Nat):Int):=by omega
  have k0:=Int.emod_nonneg (m / 360) (show 13 - ((n:Nat):Int) - ((lt:Nat):Int)≠0 by omega)
  have k1:=Int.emod_lt_of_pos (m / 360) pk
  refine ⟨_,rfl,_,rfl,_,_,rfl,rfl,div',_,rfl,_,_,rfl,rfl,_,rfl,_,_,rfl,rfl,_,_,rfl,rfl,pk,_,_,rfl,rfl,?_⟩
  dsimp only [gName]
  obtain ⟨jn,hjn,jn1,jn2⟩:∃ jn:Nat,((lt:Nat):Int)+m / 360 % (13 - ((n:Nat):Int) - ((lt:Nat):Int))=((jn:Nat):Int)∧1≤jn∧n+jn≤12:=⟨(((lt:Nat):Int)+m / 360 % (13 - ((n:Nat):Int) - ((lt:Nat):Int))).toNat,by omega,by omega,by omega⟩
  rw [hjn]
  refine rd_cut (fun σ' H'=>∃ j:Nat, σ' = [some (.ref a),some (.int way),some (.ref Pl),some (.ref Bl),some (.int m),some (nV n),some (.ref L),x7,x8,x9,some (nV lt),some (nV j)]∧H'=Hc∧1≤j∧j≤12∧(way=5→n+j=13)∧(way≠5→n+j≤12)) ?_ (fun key => ?_)
  rotate_left
  · refine ⟨_,rfl,rfl,_,rfl,iteD (fun z => ?_) (fun z=>key _ _ ⟨jn,rfl,rfl,jn1,by omega,fun e=>absurd (congrArg V.int e) z,fun _=>jn2⟩)⟩
    have ez:way=5:=V.int.inj z
    refine ⟨_,rfl,_,_,rfl,rfl,key _ _ ⟨13 - n,?_,rfl,by omega,by omega,fun _=>by omega,fun e=>absurd ez e⟩⟩
    have:(13:Int) - ((n:Nat):Int)=((13 - n:Nat):Int):=by omega
    rw [this];rfl
  rintro σ' H4 ⟨j,rfl,rfl,j1,j12,j5,j5'⟩
  refine ⟨_,rfl,_,rfl,_,rfl,_,_,rfl,rfl,div',SpKnotted.mk L lvs lts j (m / 7) rfl hL hp (by omega) (by omega) j1 (by omega) fun v t H5 s5 tr kn => ?_⟩
  have kp:=kn.parts
  have kd:=kn.dep
  rw [sp,len] at kp
  refine q v t H5 (s3.trans s5) tr ⟨fun e=>by have:=j5 e;omega,fun e => ?_,fun e h hh=>no6 e h ((kn.raw_ h).mp hh),fun e=>by have:=j5' e;omega,by omega,by omega⟩
  obtain ⟨h,hh,hn⟩:=six e
  exact ⟨h,(kn.raw_ h).mpr hh,hn⟩
end

end K41
namespace K41
open PySem L2 Sw
section
variable {P:Program} {w:World} {K:PySem.W.Frag} {mg:Str→Option Value} {base:Heap} {CU CNR:Addr}
noncomputable def Good (bs:List Str) (a:Ask):Prop:=AskA a∧∀ cs:List Str,(∀ z∈bs,z∈cs)→AskOk cs a
noncomputable def Bad (bs:List Str) (a:Ask):Prop:=AskA a∧∀ cs:List Str,(∀ z∈cs,z∈bs)→¬ AskOk cs a
noncomputable abbrev Prt (way:Int):Prop:=7≤way∧way≤9
structure AsksRes (way:Int) (bs:List Str) (as:List Ask):Prop where
  asc:∀ a∈as,AskA a
  bad:Prt way→∃ b∈as,Bad bs b
  good:¬ Prt way→∀ a∈as,Good bs a
  few:way≠10→as.length≤4
  len:as.length≤5
inductive SpAsks (K:PySem.W.Frag) (vs:List V) (H:Hp) (Q:VK):Prop
  | mk (a Pl Bl:Addr) (ns:List Int) (way:Int) (z0 z1 z2:Str) (bs:List Str) (ev:vs = [.ref a,.int way,.ref Pl,.ref Bl]) (hS:SqL K H a (ns.map V.int)) (hP:PoolAt H Pl z0 z1 z2) (hB:H Bl=some (.lst (bs.map V.str))) (bp:0 < bs.length) (bsub:∀ b∈bs,b=z0∨b=z1)
    (q:∀ A avs as H',H A=none→Same H H'→H' A=some (.lst avs)→Paired (AskAt H') avs as→AsksRes way bs as→(way=10→as.length=5)→Q (.ref A) H'):SpAsks K vs H Q
noncomputable def spAsks (K:PySem.W.Frag):Sp:=fun vs H Q _=>SpAsks K vs H Q
theorem asks_keep {H H':Hp} {avs:List V} {as:List Ask} (k:∀ b ys,H b=some (.tup ys)→H' b=some (.tup ys)) (h:Paired (AskAt H) avs as):Paired (AskAt H') avs as:=Paired.mapP h fun _ _ z=>z.keep k
theorem asks_same {H H':Hp} {avs:List V} {as:List Ask} (s:Same H H') (h:Paired (AskAt H) avs as):Paired (AskAt H') avs as:=asks_keep (fun b ys e=>s _ _ e) h
inductive AkI (H:Hp) (a Pl Bl A:Addr) (way m:Int) (n:Nat) (bs:List Str) (i:Nat) (σ : St) (H':Hp):Prop
  | mk (avs:List V) (as:List Ask) (x7:Option V) (e : σ = [some (.ref a),some (.int way),some (.ref Pl),some (.ref Bl),some (.int m),some (.ref A),some (nV n),x7,none,none,none]) (sm:Same H H') (hA:H' A=some (.lst avs)) (hp:Paired (AskAt H') avs as) (len:as.length=i) (ok:∀ x∈as,Good bs x)
inductive AkB (H:Hp) (way:Int) (bs:List Str) (pre:V→St) (σ : St) (H':Hp):Prop
  | mk (v:V) (b:Ask) (e : σ = pre v) (sm:Same H H') (hv:AskAt H' v b) (bad:Prt way→Bad bs b) (good:¬ Prt way→Good bs b)
inductive AkJ (H:Hp) (A:Addr) (way:Int) (bs:List Str) (st:St) (v:V) (b:Ask) (σ : St) (H':Hp):Prop
  | mk (avs:List V) (as:List Ask) (e : σ = st) (sm:Same H H') (hA:H' A=some (.lst avs)) (hp:Paired (AskAt H') avs as) (hv:AskAt H' v b) (res:AsksRes way bs as)
inductive AkW (H:Hp) (A:Addr) (way:Int) (bs:List Str) (st:St) (v:V) (b:Ask) (m:Nat) (σ : St) (H':Hp):Prop
  | mk (avs:List V) (as:List Ask) (e : σ = st) (sm:Same H H') (hA:H' A=some (.lst avs)) (hp:Paired (AskAt H') avs as) (hv:AskAt H' v b) (res:AsksRes way bs as) (em:m=5 - as.length)
theorem ok_asks (B:Blt mg) (h_cell_at:Has P w K mg base 1 "_law_cell_at" ["_law_script", "_law_k"] (spCell K)) (h_mixed:Has P w K mg base 1 "_law_mixed" ["_law_cell", "_law_k"] spMixed) (h_ask:Has P w K mg base 2 "_law_ask" ["_law_m", "_law_bound"] spAsk) (h_bad:Has P w K mg base 2 "_law_bad" ["_law_m"] spBad)
    (D:Def K mg "_law_asks" s_asks ["_law_script", "_law_way", "_law_pool_here", "_law_bound"]):Has P w K mg base 3 "_law_asks" ["_law_script", "_law_way", "_law_pool_here", "_law_bound"] (spAsks K):=by
  refine D.has sc_asks (fun vs H Q E h => ?_) (fun f cdv A outer s H vs Q E hr h => ?_)
  · obtain ⟨a,Pl,Bl,ns,way,z0,z1,z2,bs,rfl,_⟩:=h;rfl
  obtain ⟨a,Pl,Bl,ns,way,z0,z1,z2,bs,rfl,hS,hP,hB,bp,bsub,q⟩:=h
  refine ⟨_,(pss_cons (ps_set (i:=4) sc_asks.nd rfl (Or.inl rfl) (pe_callH h_mixed hr (by omega) rfl (pa_cons (pe_callH h_cell_at hr (by omega) rfl (pa_cons (pv 0) (pa_cons pe_int pa_nil))) (pa_cons pe_int pa_nil))))
    (pss_cons (ps_set (i:=5) sc_asks.nd rfl (Or.inl rfl) (pe_lst pa_nil))
    (pss_cons (ps_set (i:=6) sc_asks.nd rfl (Or.inl rfl) (pe_op op_mod (pv 4) pe_int))
    (pss_cons (ps_if (pt_chain op_le op_le pe_int (pv 1) pe_int) (pss_one (ps_set (i:=6) sc_asks.nd rfl (Or.inl rfl) (pe_op op_mod (pv 4) pe_int))) pss_nil)
    (pss_cons (ps_for PassesOwn.never rfl (pi_range1 rfl B.range_ (pa_cons (pv 6) pa_nil)) (pg_name (i:=7) sc_asks.nd rfl (Or.inl rfl))
    (pss_one (ps_expr (pe_bm PySem.F.plainAttrs_list PySem.F.slot_list_append PySem.F.type_list_append mt_append (pv 5) (pa_cons (pe_callH h_ask hr (by omega) rfl (pa_cons (pe_callH h_mixed hr (by omega) rfl (pa_cons (pe_callH h_cell_at hr (by omega) rfl (pa_cons (pv 0) (pa_cons (pe_op op_add pe_int (pv 7)) pa_nil))) (pa_cons (pe_op op_add (pv 7) pe_int) pa_nil))) (pa_cons (pv 3) pa_nil))) pa_nil)))))
    (pss_cons (ps_setCompI (i:=8) sc_asks.nd rfl rfl (te:=_) (ct:=(tTest (tOp (rIn K true) _ _))) (own := ["_law_word_here"]) (caps := [("_law_bound",3)]) (comp_scope (defScope s_asks) ["_law_script", "_law_way", "_law_pool_here", "_law_bound", "_law_m", "_law_asks_here", "_law_many", "_law_k", "_law_strange", "_law_hole", "_law_bad_here"] rfl rfl rfl (by decide +kernel)) (pi_list (pv 2)) rfl (fun _ _ _=>pg_name (i:=0) (show (["_law_word_here", "_law_bound"]:List Str).Nodup by decide +kernel) rfl (Or.inl rfl)) (fun _ _ _=>(pt_cmpR op_notIn_seq (pv 0) (pv 1) (by with_unfolding_all rfl))) (fun _ _ _=>(pv 0)) rfl)
    (pss_cons (ps_set (i:=9) sc_asks.nd rfl (Or.inl rfl) (pe_ix ix_list (pv 3) (pe_op op_mod (pe_op op_fdiv (pv 4) pe_int) (pe_callB call_len_seq rfl B.len_ PySem.boot_len (pa_cons (pv 3) pa_nil))) (fun _ _=>rfl)))
    (pss_cons (ps_if (pt_cmpR op_eq (pv 1) pe_int (nomark _)) (pss_one (ps_set (i:=10) sc_asks.nd rfl (Or.inl rfl) (pe_callH h_ask hr (by omega) rfl (pa_cons (pe_op op_fdiv (pv 4) pe_int) (pa_cons (pv 8) pa_nil))))) (pss_one (ps_if (pt_cmpR op_eq (pv 1) pe_int (nomark _)) (pss_one (ps_set (i:=10) sc_asks.nd rfl (Or.inl rfl) (pe_tup (pa_cons pe_str (pa_cons (pv 9) (pa_cons (pe_callH h_bad hr (by omega) rfl (pa_cons (pe_op op_fdiv (pv 4) pe_int) pa_nil)) pa_nil)))))) (pss_one (ps_if (pt_cmpR op_eq (pv 1) pe_int (nomark _)) (pss_one (ps_set (i:=10) sc_asks.nd rfl (Or.inl rfl) (pe_tup (pa_cons pe_str (pa_cons (pv 9) (pa_cons (pe_ix ix_list (pe_lst (pa_cons pe_int (pa_cons pe_int (pa_cons (pe_un un_neg pe_int) (pa_cons (pe_op op_add pe_int (pe_op op_fdiv (pv 4) pe_int)) (pa_cons (pe_op op_sub (pe_op op_fdiv (pe_un un_neg (pv 4)) pe_int) pe_int) (pa_cons pe_int pa_nil))))))) (pe_op op_mod (pe_op op_fdiv (pv 4) pe_int) pe_int) (fun _ _=>rfl)) pa_nil)))))) (pss_one (ps_set (i:=10) sc_asks.nd rfl (Or.inl rfl) (pe_tup (pa_cons pe_str (pa_cons (pv 9) pa_nil))))))))))
    (pss_cons (ps_if (pt_chain op_le op_le pe_int (pv 1) pe_int) (pss_one (ps_expr (pe_bm PySem.F.plainAttrs_list PySem.F.slot_list_insert PySem.F.type_list_insert mt_insert (pv 5) (pa_cons (pe_op op_mod (pe_op op_fdiv (pv 4) pe_int) (pe_op op_add (pe_callB call_len_seq rfl B.len_ PySem.boot_len (pa_cons (pv 5) pa_nil)) pe_int)) (pa_cons (pv 10) pa_nil))))) pss_nil)
    (pss_cons (ps_while PassesOwn.never (PW.pt (pw_and (pt_cmpR op_eq (pv 1) pe_int (nomark _)) (pw_and1 (pt_cmpR op_lt (pe_callB call_len_seq rfl B.len_ PySem.boot_len (pa_cons (pv 5) pa_nil)) pe_int (nomark _)))))
    (pss_one (ps_expr (pe_bm PySem.F.plainAttrs_list PySem.F.slot_list_append PySem.F.type_list_append mt_append (pv 5) (pa_cons (pv 10) pa_nil)))))
    (pss_one (ps_ret (pv 5))))))))))))),?_⟩
  try dsimp only [cxOf]
  have hbl:(bs.map V.str).length=bs.length:=List.length_map ..
  refine ⟨_,rfl,a,ns,_,rfl,hS,by decide,fun c=>⟨c,_,rfl,by decide,by decide,fun m m0 m1 => ?_⟩⟩
  dsimp only [gName]
  refine ⟨Nat.zero_le _,fun A1 hA0 => ?_⟩
  dsimp only [gName]
  have s1:=same_new hA0 (.lst [])
  have hA1:=upd_same (H:=H) (a:=A1) (o := .lst [])
  generalize upd H A1 (.lst [])=H1 at s1 hA1 ⊢
  refine ⟨_,rfl,_,_,rfl,rfl,pos',?_⟩
  dsimp only [gName]
  have r5:=Int.emod_nonneg m (show (5:Int)≠0 by decide)
  have r5':=Int.emod_lt_of_pos m (show (0:Int) < 5 by decide)
  have r4:=Int.emod_nonneg m (show (4:Int)≠0 by decide)
  have r4':=Int.emod_lt_of_pos m (show (0:Int) < 4 by decide)
  refine rd_cut (fun σ' H'=>∃ n:Nat, σ' = [some (.ref a),some (.int way),some (.ref Pl),some (.ref Bl),some (.int m),some (.ref A1),some (nV n),none,none,none,none]∧H'=H1∧n≤4∧(Prt way→n≤3)) ?_ (fun key => ?_)
  rotate_left
  · obtain ⟨u5,e5⟩:=Int.eq_ofNat_of_zero_le r5
    obtain ⟨u4,e4⟩:=Int.eq_ofNat_of_zero_le r4
    refine rd_if2 (fun b Hc=>Hc=H1∧(b=true↔Prt way)) (fun Qc qc => ?_) (fun Hc h => ?_) (fun Hc h => ?_)
    · refine ⟨_,rfl,_,_,rfl,rfl,_,rfl,iteD (fun w7=>⟨_,_,rfl,rfl,_,rfl,qc _ _ ⟨rfl,?_⟩⟩) (fun w7=>⟨_,rfl,qc _ _ ⟨rfl,⟨fun x=>(nomatch x),fun x=>absurd x.1 w7⟩⟩⟩)⟩
      rw [decide_eq_true_iff]
      exact ⟨fun x=>⟨w7,x⟩,fun x=>x.2⟩
    · obtain ⟨rfl,hh⟩:=h
      refine ⟨_,rfl,_,_,rfl,rfl,pos',key _ _ ⟨u4,?_,rfl,by omega,fun _=>by omega⟩⟩
      rw [e4];rfl
    · obtain ⟨rfl,hh⟩:=h
      refine key _ _ ⟨u5,?_,rfl,by omega,fun x=>nomatch hh.mpr x⟩
      rw [e5];rfl
  rintro σ' H2 ⟨n,rfl,rfl,n4,n3⟩
  -- the asks
  refine rd_cut (AkI H a Pl Bl A1 way m n bs n) ?_ (fun key => ?_)
  rotate_left
  · refine ⟨_,rfl,_,rfl,by omega,by omega,?_⟩
    rw [Int.toNat_natCast]
    refine for_range (lo:=0) (AkI H a Pl Bl A1 way m n bs) (AkI.mk [] [] none rfl s1 hA1 .nil rfl fun t ht=>nomatch ht) ?_ (fun σ' H' h=>key _ _ h)
    rintro i σ H3 hi ⟨avs,as,x7,rfl,s3,hA,hp,len,ok⟩
    have hal:=Paired.length hp
    show tDrop _ _ _ _
    dsimp only [gName]
    refine ⟨_,rfl,.inl ⟨rfl,_,SqL.of hA⟩,_,rfl,_,rfl,_,_,rfl,rfl,a,ns,_,rfl,s3.seq hS,by omega,fun c1 => ?_⟩
    refine ⟨_,rfl,_,_,rfl,rfl,c1,_,rfl,by omega,by omega,fun m2 m20 m21 => ?_⟩
    refine ⟨_,rfl,SpAsk.mk m2 Bl bs rfl (s3 _ _ hB) bp fun v b H4 s4 hv hok hasc hh => ?_⟩
    have hA4:=s4 _ _ hA
    have kp:∀ b ys,H4 b=some (.tup ys)→(upd H4 A1 (.lst (avs ++ [v]))) b=some (.tup ys):=fun b ys e=>by rw [upd_ne (ne_of e hA4 (fun z=>nomatch z))];exact e
    refine ⟨A1,avs,v,rfl,rfl,hA4,small1000 (by omega),?_⟩
    refine AkI.mk (avs ++ [v]) (as ++ [b]) _ rfl ((s3.trans s4).put hA0) upd_same (Paired.snoc (asks_keep kp (asks_same s4 hp)) (hv.keep kp)) (by rw [List.length_append,len];rfl) fun u hu => ?_
    rcases List.mem_append.mp hu with hu | hu
    · exact ok u hu
    · rw [List.mem_singleton.mp hu];exact ⟨hasc,hok⟩
  rintro σ' H3 ⟨avs,as,x7,rfl,s3,hA,hp,len,ok⟩
  have hal:=Paired.length hp
  -- strange
  have hP3:=s3 _ _ hP.at_
  refine ⟨_,rfl,Pl,rfl,⟨_,SqL.of hP3⟩,?_⟩
  refine compI_listS (xs:=([z0,z1,z2]:List Str).map V.str) (stV bs) (SqL.of hP3) (show 3≤1000 by decide) (fun x hx H' sm R r => ?_) (fun x v hx e H' sm Q' q' => ?_) (fun Sl H5 hS0 s5 hS5 => ?_)
  · obtain ⟨z,_,rfl⟩:=List.mem_map.mp hx
    refine ⟨_,rfl,_,rfl,Bl,_,rfl,.inl (SqL.of (sm _ _ (s3 _ _ hB))),rfl,flat_strs bs,_,rfl,?_⟩
    have r1:=r _ (Same.refl _)
    have e:(if true=true then !inV (.str z) (bs.map V.str) else inV (.str z) (bs.map V.str))=(stV bs (.str z)).isSome:=by
      rw [if_pos rfl,in_strs]
      show _=(if z∈bs then none else some (V.str z)).isSome
      by_cases h:z∈bs
      · rw [if_pos h,decide_eq_true h];rfl
      · rw [if_neg h,decide_eq_false h];rfl
    rw [e]
    exact r1
  · obtain ⟨z,_,rfl⟩:=List.mem_map.mp hx
    have e':(if z∈bs then none else some (V.str z))=some v:=e
    split at e'
    · cases e'
    · rw [← Option.some.inj e'] at q';exact ⟨_,rfl,q' _ (Same.refl _)⟩
  dsimp only [gName]
  rw [st_map] at hS5
  have sp:=List.length_pos_of_mem (strange hP.e1 hP.e2 bsub)
  have snb:∀ z∈([z0,z1,z2]:List Str).filter (fun z => !decide (z∈bs)),z ∉ bs:=fun z hz c=>by
    have:=(List.mem_filter.mp hz).2
    rw [decide_eq_true c] at this
    cases this
  generalize ([z0,z1,z2]:List Str).filter (fun z => !decide (z∈bs))=ss at sp snb hS5
  have g5:=s3.trans s5
  have hB5:=g5 _ _ hB
  -- hole
  have pw:(0:Int) < (((bs.map V.str).length:Nat):Int):=by omega
  obtain ⟨v,hv,hvm⟩:=atI_ex (xs:=bs.map V.str) (Int.emod_nonneg (m / 12) (show (((bs.map V.str).length:Nat):Int)≠0 by omega)) (Int.emod_lt_of_pos (m / 12) pw)
  obtain ⟨y,hy,rfl⟩:=List.mem_map.mp hvm
  refine ⟨_,rfl,_,rfl,_,_,rfl,rfl,div',_,rfl,Bl,_,rfl,.inl (SqL.of hB5),_,_,rfl,rfl,pw,Bl,_,_,_,rfl,rfl,SqL.of hB5,hv,?_⟩
  dsimp only [gName]
  -- the bad one
  refine rd_cut (AkB H5 way bs (fun v => [some (.ref a),some (.int way),some (.ref Pl),some (.ref Bl),some (.int m),some (.ref A1),some (nV n),x7,some (.ref Sl),some (.str y),some v])) ?_ (fun key => ?_)
  rotate_left
  · refine ⟨_,rfl,rfl,_,rfl,iteD (fun w7 => ?_) (fun w7 => ?_)⟩
    · have ez:way=7:=V.int.inj w7
      refine ⟨_,rfl,_,_,rfl,rfl,div',_,rfl,SpAsk.mk (m / 12) Sl ss rfl hS5 sp fun v b H6 s6 hb hok hasc hh=>key _ _ (AkB.mk v b rfl s6 hb (fun _=>⟨hasc,fun cs k c=>snb _ hh ?_⟩) fun x=>absurd (show Prt way from ⟨by omega,by omega⟩) x)⟩
      cases b with
      | free h z=>exact k _ c.1
      | sign h z=>exact k _ c.1
      | num h=>exact k _ c
    refine ⟨_,rfl,rfl,_,rfl,iteD (fun w8 => ?_) (fun w8 => ?_)⟩
    · have ez:way=8:=V.int.inj w8
      refine ⟨_,rfl,_,rfl,_,_,rfl,rfl,div',_,rfl,fun z H6 s6 za zn=>⟨(show 3≤sizeLine by decide),fun p hp' => ?_⟩⟩
      exact key _ _ (AkB.mk _ (.free y z) rfl (s6.trans (same_new hp' _)) ⟨p,rfl,upd_same⟩ (fun _=>⟨za,fun cs k c=>zn c.2⟩) fun x=>absurd (show Prt way from ⟨by omega,by omega⟩) x)
    refine ⟨_,rfl,rfl,_,rfl,iteD (fun w9 => ?_) (fun w9 => ?_)⟩
    · have ez:way=9:=V.int.inj w9
      have k0:=Int.emod_nonneg (m / 36) (show (6:Int)≠0 by decide)
      have k1:=Int.emod_lt_of_pos (m / 36) (show (0:Int) < 6 by decide)
      have six:∃ u:Int,atI [V.int 0,.int 8,.int (-1),.int (8+m / 24),.int (-m / 24 - 1),.int 16] (m / 36 % 6)=some (.int u)∧¬ (1≤u∧u≤7):=by
        rcases (show m / 36 % 6=0∨m / 36 % 6=1∨m / 36 % 6=2∨m / 36 % 6=3∨m / 36 % 6=4∨m / 36 % 6=5 by omega) with e | e | e | e | e | e <;> rw [e]
        · exact ⟨_,rfl,by omega⟩
        · exact ⟨_,rfl,by omega⟩
        · exact ⟨_,rfl,by omega⟩
        · exact ⟨_,rfl,by omega⟩
        · exact ⟨_,rfl,by omega⟩
        · exact ⟨_,rfl,by omega⟩
      obtain ⟨u,hu,un⟩:=six
      refine ⟨_,rfl,1,rfl,_,rfl,_,_,rfl,rfl,div',_,_,rfl,rfl,_,rfl,m,rfl,_,_,rfl,rfl,div',_,_,rfl,rfl,(show 6≤sizeLine by decide),fun p hp' => ?_⟩
      refine ⟨_,rfl,_,_,rfl,rfl,div',_,_,rfl,rfl,pos',p,_,_,_,rfl,rfl,SqL.of upd_same,hu,(show 3≤sizeLine by decide),fun p2 hp2 => ?_⟩
      exact key _ _ (AkB.mk _ (.sign y u) rfl ((same_new hp' _).trans (same_new hp2 _)) ⟨p2,rfl,upd_same⟩ (fun _=>⟨trivial,fun cs k c=>un c.2⟩) fun x=>absurd (show Prt way from ⟨by omega,by omega⟩) x)
    · refine ⟨_,rfl,(show 2≤sizeLine by decide),fun p hp' => ?_⟩
      refine key _ _ (AkB.mk _ (.num y) rfl (same_new hp' _) ⟨p,rfl,upd_same⟩ (fun x => ?_) fun _=>⟨trivial,fun cs k=>k y hy⟩)
      have h7:way≠7:=fun e=>w7 (congrArg V.int e)
      have h8:way≠8:=fun e=>w8 (congrArg V.int e)
      have h9:way≠9:=fun e=>w9 (congrArg V.int e)
      exact absurd x (by rintro ⟨x1,x2⟩;omega)
  rintro σ' H6 ⟨v,b,rfl,s6,hb,hbad,hgood⟩
  have g6:=g5.trans s6
  have t36:=s5.trans s6
  have hA6:=t36 _ _ hA
  have hp6:=asks_same t36 hp
  -- insert
  refine rd_cut (AkJ H A1 way bs [some (.ref a),some (.int way),some (.ref Pl),some (.ref Bl),some (.int m),some (.ref A1),some (nV n),x7,some (.ref Sl),some (.str y),some v] v b) ?_ (fun key => ?_)
  rotate_left
  · refine rd_if2 (fun b Hc=>Hc=H6∧(b=true↔Prt way)) (fun Qc qc => ?_) (fun Hc h => ?_) (fun Hc h => ?_)
    · refine ⟨_,rfl,_,_,rfl,rfl,_,rfl,iteD (fun w7=>⟨_,_,rfl,rfl,_,rfl,qc _ _ ⟨rfl,?_⟩⟩) (fun w7=>⟨_,rfl,qc _ _ ⟨rfl,⟨fun x=>(nomatch x),fun x=>absurd x.1 w7⟩⟩⟩)⟩
      rw [decide_eq_true_iff]
      exact ⟨fun x=>⟨w7,x⟩,fun x=>x.2⟩
    · obtain ⟨rfl,hh⟩:=h
      have pr:=hh.mp rfl
      have pz:(0:Int) < ((avs.length:Nat):Int)+1:=by omega
      have k0:=Int.emod_nonneg (m / 50) (show ((avs.length:Nat):Int)+1≠0 by omega)
      have k1:=Int.emod_lt_of_pos (m / 50) pz
      generalize hj:m / 50 % (((avs.length:Nat):Int)+1)=j at k0 k1
      obtain ⟨k,rfl⟩:=Int.eq_ofNat_of_zero_le k0
      have hk:k≤avs.length:=by omega
      have kp:∀ a xs,Hc a=some (.tup xs)→(upd Hc A1 (.lst (avs.take k ++ v :: avs.drop k))) a=some (.tup xs):=fun a xs e=>by rw [upd_ne (ne_of e hA6 (fun z=>nomatch z))];exact e
      refine ⟨_,rfl,.inl ⟨rfl,_,SqL.of hA6⟩,_,rfl,_,_,rfl,rfl,div',_,rfl,A1,_,rfl,.inl (SqL.of hA6),_,_,rfl,rfl,_,_,rfl,rfl,pz,_,rfl,A1,avs,_,k,v,rfl,rfl,hj,hA6,hk,by omega,?_⟩
      have pk:=asks_keep kp hp6
      have n3':=n3 pr
      have ml:(as.take k ++ b :: as.drop k).length=as.length+1:=by rw [List.length_append,List.length_cons,List.length_take,List.length_drop];omega
      have mm:∀ x∈as.take k ++ b :: as.drop k,x∈as∨x=b:=fun x hx=>by
        rcases List.mem_append.mp hx with h | h
        · exact .inl (List.mem_of_mem_take h)
        · rcases List.mem_cons.mp h with h | h
          · exact .inr h
          · exact .inl (List.mem_of_mem_drop h)
      refine key _ _ (AkJ.mk (avs.take k ++ v :: avs.drop k) (as.take k ++ b :: as.drop k) rfl (g6.put hA0) upd_same (paired_app (paired_take k pk) (.cons (hb.keep kp) (paired_drop k pk))) (hb.keep kp) ⟨fun x hx => ?_,fun _=>⟨b,List.mem_append_right _ List.mem_cons_self,hbad pr⟩,fun x=>absurd pr x,fun _=>by rw [ml];omega,by rw [ml];omega⟩)
      rcases mm x hx with h | h
      · exact (ok x h).1
      · rw [h];exact (hbad pr).1
    · obtain ⟨rfl,hh⟩:=h
      have np:¬ Prt way:=fun x=>nomatch hh.mpr x
      exact key _ _ (AkJ.mk avs as rfl g6 hA6 hp6 hb ⟨fun x hx=>(ok x hx).1,fun x=>absurd x np,fun _=>ok,fun _=>by omega,by omega⟩)
  rintro σ' H7 ⟨avs,as,rfl,s7,hA7,hp7,hb7,res⟩
  -- while
  refine ⟨AkW H A1 way bs [some (.ref a),some (.int way),some (.ref Pl),some (.ref Bl),some (.int m),some (.ref A1),some (nV n),x7,some (.ref Sl),some (.str y),some v] v b,⟨_,AkW.mk avs as rfl s7 hA7 hp7 hb7 res rfl⟩,?_⟩
  clear avs as hal len ok hA hp hA6 hp6 hA7 hp7 res s7 hb7
  rintro mm σ' H8 ⟨avs,as,rfl,s8,hA8,hp8,hb8,res,rfl⟩
  have hal:=Paired.length hp8
  refine ⟨_,rfl,rfl,_,rfl,iteD (fun w10 => ?_) (fun w10=>iteF ⟨_,rfl,q A1 avs as H8 hA0 s8 hA8 hp8 res fun e=>absurd (congrArg V.int e) w10⟩)⟩
  have ez:way=10:=V.int.inj w10
  have np:¬ Prt way:=fun x=>by have:=x.2;omega
  refine ⟨_,rfl,A1,_,rfl,.inl (SqL.of hA8),_,_,rfl,rfl,_,rfl,iteD (fun l5 => ?_) (fun l5=>⟨_,rfl,q A1 avs as H8 hA0 s8 hA8 hp8 res fun _=>by have:=res.len;omega⟩)⟩
  have l5':as.length < 5:=by omega
  refine ⟨fun σ' H'=>∃ m',m' < 5 - as.length∧AkW H A1 way bs [some (.ref a),some (.int way),some (.ref Pl),some (.ref Bl),some (.int m),some (.ref A1),some (nV n),x7,some (.ref Sl),some (.str y),some v] v b m' σ' H',fun σ' H' h=>h,?_⟩
  have kp:∀ a xs,H8 a=some (.tup xs)→(upd H8 A1 (.lst (avs ++ [v]))) a=some (.tup xs):=fun a xs e=>by rw [upd_ne (ne_of e hA8 (fun z=>nomatch z))];exact e
  refine ⟨_,rfl,.inl ⟨rfl,_,SqL.of hA8⟩,_,rfl,A1,avs,v,rfl,rfl,hA8,small1000 (by omega),?_⟩
  have ml:(as ++ [b]).length=as.length+1:=by rw [List.length_append];rfl
  have gd:=hgood np
  refine ⟨5 - (as ++ [b]).length,by rw [ml];omega,AkW.mk (avs ++ [v]) (as ++ [b]) rfl (s8.put hA0) upd_same (Paired.snoc (asks_keep kp hp8) (hb8.keep kp)) (hb8.keep kp) ⟨fun x hx => ?_,fun x=>absurd x np,fun _ x hx => ?_,fun e=>absurd ez e,by rw [ml];omega⟩ rfl⟩
  · rcases List.mem_append.mp hx with h | h
    · exact res.asc x h
    · rw [List.mem_singleton.mp h];exact gd.1
  · rcases List.mem_append.mp hx with h | h
    · exact res.good np x h
    · rw [List.mem_singleton.mp h];exact gd
end

end K41
namespace K41
open PySem L2 Sw
section
variable {P:Program} {w:World} {K:PySem.W.Frag} {mg:Str→Option Value} {base:Heap}
theorem kit_tt {K:PySem.W.Frag}:PySem.W.kitOne K (.type "tuple") (.type "tuple")=some true:=by rfl
theorem kit_ii {K:PySem.W.Frag}:PySem.W.kitOne K (.type "int") (.type "int")=some true:=by rfl
theorem kit_ib {K:PySem.W.Frag}:PySem.W.kitOne K (.type "int") (.type "bool")=some false:=by rfl
theorem kit_ss {K:PySem.W.Frag}:PySem.W.kitOne K (.type "str") (.type "str")=some true:=by rfl
theorem parts_len:∀ ts:List T,ts.length≤T.partss ts
  | []=>Nat.zero_le _
  | t :: ts=>by rw [T.partss,List.length_cons];have:=parts_len ts;have:=parts_pos t;omega
theorem part_mem:∀ {ts:List T} {t:T},t∈ts→t.parts≤T.partss ts
  | u :: ts,t,h=>by
    rw [T.partss]
    rcases List.mem_cons.mp h with rfl | h
    · omega
    · have:=part_mem h;omega
noncomputable def spSame (n:Nat):Sp:=fun vs H Q _=>∃ v u t,vs = [v,u]∧IsTr H t v∧IsTr H t u∧t.parts≤1000∧t.depth≤n∧Q (.bl true) H
theorem ok_same (B:Blt mg) (D:Def K mg "_law_same" s_same ["_law_found", "_law_due"]):∀ n,Has P w K mg base n "_law_same" ["_law_found", "_law_due"] (spSame n)
  | 0=>by
    obtain ⟨fa,fd,F,hm,hb⟩:=D.ex
    have no:∀ vs H Q E, ¬ spSame 0 vs H Q E:=fun vs H Q E h=>by
      obtain ⟨v,u,t,_,_,_,_,z,_⟩:=h
      have:=depth_pos t
      omega
    exact ⟨fa,fd,⟨fun vs H Q E h=>absurd h (no vs H Q E),fun A outer s H args us vs Q E _ _ _ _ h=>absurd h (no vs H Q E)⟩,hm,F.kp,hb⟩
  | n+1=>by
    have h_same:=ok_same B D n
    refine D.has sc_same (fun vs H Q E h => ?_) (fun f cdv A outer s H vs Q E hr h => ?_)
    · obtain ⟨v,u,t,rfl,_⟩:=h;rfl
    obtain ⟨v,u,t,rfl,hT,hU,hok,hd,q⟩:=h
    refine ⟨_,(pss_cons (ps_if (PW.pt (pw_or (pt_not (pt_val (pe_callB call_isT rfl B.isinstance_ boot_isinstance_ (pa_cons (pv 0) (pa_cons (pe_bltn (v := .ty "tuple") rfl B.tuple_ boot_tuple_ rfl) pa_nil))))) (pw_or (pt_cmpR op_ne (pe_callB call_len_seq rfl B.len_ PySem.boot_len (pa_cons (pv 0) pa_nil)) (pe_callB call_len_seq rfl B.len_ PySem.boot_len (pa_cons (pv 1) pa_nil)) (nomark _)) (pw_or1 (pt_cmpR op_ne (pe_ix ix_tup (pv 0) pe_int (fun _ _=>rfl)) (pe_ix ix_tup (pv 1) pe_int (fun _ _=>rfl)) (nomark _)))))) (pss_one (ps_ret pe_bl)) pss_nil)
    (pss_cons (ps_if (pt_cmpR op_eq (pe_ix ix_tup (pv 1) pe_int (fun _ _=>rfl)) pe_str (nomark _)) (pss_cons (ps_set (i:=2) sc_same.nd rfl (Or.inl rfl) (pe_ix ix_tup (pv 0) pe_int (fun _ _=>rfl)))
    (pss_one (ps_ret (pe_and (pe_callB call_isT rfl B.isinstance_ boot_isinstance_ (pa_cons (pv 2) (pa_cons (pe_bltn (v := .ty "int") rfl B.int_ boot_int_ rfl) pa_nil))) (pe_and (pe_not (pe_callB call_isT rfl B.isinstance_ boot_isinstance_ (pa_cons (pv 2) (pa_cons (pe_bltn (v := .ty "bool") rfl B.bool_ boot_bool_ rfl) pa_nil)))) (pe_one (pe_cmpR op_eq (pv 2) (pe_ix ix_tup (pv 1) pe_int (fun _ _=>rfl)) (nomark _)))))))) pss_nil)
    (pss_cons (ps_if (PW.pt (pw_or (pt_not (pt_val (pe_callB call_isT rfl B.isinstance_ boot_isinstance_ (pa_cons (pe_ix ix_tup (pv 0) pe_int (fun _ _=>rfl)) (pa_cons (pe_bltn (v := .ty "str") rfl B.str_ boot_str_ rfl) pa_nil))))) (pw_or1 (pt_cmpR op_ne (pe_ix ix_tup (pv 0) pe_int (fun _ _=>rfl)) (pe_ix ix_tup (pv 1) pe_int (fun _ _=>rfl)) (nomark _))))) (pss_one (ps_ret pe_bl)) pss_nil)
    (pss_cons (ps_if (pt_cmpR op_ne (pe_ix ix_tup (pv 1) pe_int (fun _ _=>rfl)) pe_str (nomark _)) (pss_one (ps_ret pe_bl)) pss_nil)
    (pss_cons (ps_if (PW.pt (pw_or (pt_not (pt_val (pe_callB call_isT rfl B.isinstance_ boot_isinstance_ (pa_cons (pe_ix ix_tup (pv 0) pe_int (fun _ _=>rfl)) (pa_cons (pe_bltn (v := .ty "tuple") rfl B.tuple_ boot_tuple_ rfl) pa_nil))))) (pw_or1 (pt_cmpR op_ne (pe_callB call_len_seq rfl B.len_ PySem.boot_len (pa_cons (pe_ix ix_tup (pv 0) pe_int (fun _ _=>rfl)) pa_nil)) (pe_callB call_len_seq rfl B.len_ PySem.boot_len (pa_cons (pe_ix ix_tup (pv 1) pe_int (fun _ _=>rfl)) pa_nil)) (nomark _))))) (pss_one (ps_ret pe_bl)) pss_nil)
    (pss_cons (ps_for PassesOwn.never rfl (pi_range1 rfl B.range_ (pa_cons (pe_callB call_len_seq rfl B.len_ PySem.boot_len (pa_cons (pe_ix ix_tup (pv 1) pe_int (fun _ _=>rfl)) pa_nil)) pa_nil)) (pg_name (i:=3) sc_same.nd rfl (Or.inl rfl))
    (pss_one (ps_if (pt_not (pt_val (pe_callH h_same hr (by omega) rfl (pa_cons (pe_ix ix_tup (pe_ix ix_tup (pv 0) pe_int (fun _ _=>rfl)) (pv 3) (fun _ _=>rfl)) (pa_cons (pe_ix ix_tup (pe_ix ix_tup (pv 1) pe_int (fun _ _=>rfl)) (pv 3) (fun _ _=>rfl)) pa_nil))))) (pss_one (ps_ret pe_bl)) pss_nil)))
    (pss_one (ps_ret pe_bl)))))))),?_⟩
    try dsimp only [cxOf]
    cases t with
    | num k =>
      rw [IsTr] at hT hU
      obtain ⟨a1,rfl,h1⟩:=hT
      obtain ⟨a2,rfl,h2⟩:=hU
      refine ⟨_,rfl,_,_,_,true,rfl,.tup h1,kit_tt,_,rfl,iteF ?_⟩
      refine ⟨_,rfl,a1,_,rfl,.inr (SqT.of h1),_,rfl,a2,_,rfl,.inr (SqT.of h2),rfl,_,rfl,iteDN (fun z=>absurd rfl z) (fun _ => ?_)⟩
      refine ⟨_,rfl,a1,_,0,_,rfl,rfl,SqT.of h1,atI_nat (j:=0) rfl,_,rfl,a2,_,0,_,rfl,rfl,SqT.of h2,atI_nat (j:=0) rfl,rfl,_,rfl,iteDN (fun z=>absurd rfl z) (fun _ => ?_)⟩
      refine ⟨_,rfl,a2,_,0,_,rfl,rfl,SqT.of h2,atI_nat (j:=0) rfl,rfl,_,rfl,iteD (fun _ => ?_) (fun z=>absurd rfl z)⟩
      refine ⟨_,rfl,a1,_,1,_,rfl,rfl,SqT.of h1,atI_nat (j:=1) rfl,?_⟩
      refine ⟨_,rfl,_,_,_,true,rfl,.int _,kit_ii,_,rfl,iteT ?_⟩
      refine ⟨_,rfl,_,_,_,false,rfl,.int _,kit_ib,_,rfl,_,rfl,iteT ?_⟩
      refine ⟨_,rfl,_,rfl,a2,_,1,_,rfl,rfl,SqT.of h2,atI_nat (j:=1) rfl,rfl,?_⟩
      rw [decide_eq_true rfl]
      exact q
    | name x =>
      rw [IsTr] at hT hU
      obtain ⟨a1,rfl,h1⟩:=hT
      obtain ⟨a2,rfl,h2⟩:=hU
      refine ⟨_,rfl,_,_,_,true,rfl,.tup h1,kit_tt,_,rfl,iteF ?_⟩
      refine ⟨_,rfl,a1,_,rfl,.inr (SqT.of h1),_,rfl,a2,_,rfl,.inr (SqT.of h2),rfl,_,rfl,iteDN (fun z=>absurd rfl z) (fun _ => ?_)⟩
      refine ⟨_,rfl,a1,_,0,_,rfl,rfl,SqT.of h1,atI_nat (j:=0) rfl,_,rfl,a2,_,0,_,rfl,rfl,SqT.of h2,atI_nat (j:=0) rfl,rfl,_,rfl,iteDN (fun z=>absurd rfl z) (fun _ => ?_)⟩
      refine ⟨_,rfl,a2,_,0,_,rfl,rfl,SqT.of h2,atI_nat (j:=0) rfl,rfl,_,rfl,iteD (fun z=>absurd (V.str.inj z) (by decide)) (fun _ => ?_)⟩
      refine ⟨_,rfl,a1,_,1,_,rfl,rfl,SqT.of h1,atI_nat (j:=1) rfl,_,_,_,true,rfl,.str _,kit_ss,_,rfl,iteF ?_⟩
      refine ⟨_,rfl,a1,_,1,_,rfl,rfl,SqT.of h1,atI_nat (j:=1) rfl,_,rfl,a2,_,1,_,rfl,rfl,SqT.of h2,atI_nat (j:=1) rfl,rfl,_,rfl,iteDN (fun z=>absurd rfl z) (fun _ => ?_)⟩
      exact ⟨_,rfl,a2,_,0,_,rfl,rfl,SqT.of h2,atI_nat (j:=0) rfl,rfl,_,rfl,iteDN (fun _=>q) (fun z=>absurd (V.str.inj z) (by decide))⟩
    | any x =>
      rw [IsTr] at hT hU
      obtain ⟨a1,rfl,h1⟩:=hT
      obtain ⟨a2,rfl,h2⟩:=hU
      refine ⟨_,rfl,_,_,_,true,rfl,.tup h1,kit_tt,_,rfl,iteF ?_⟩
      refine ⟨_,rfl,a1,_,rfl,.inr (SqT.of h1),_,rfl,a2,_,rfl,.inr (SqT.of h2),rfl,_,rfl,iteDN (fun z=>absurd rfl z) (fun _ => ?_)⟩
      refine ⟨_,rfl,a1,_,0,_,rfl,rfl,SqT.of h1,atI_nat (j:=0) rfl,_,rfl,a2,_,0,_,rfl,rfl,SqT.of h2,atI_nat (j:=0) rfl,rfl,_,rfl,iteDN (fun z=>absurd rfl z) (fun _ => ?_)⟩
      refine ⟨_,rfl,a2,_,0,_,rfl,rfl,SqT.of h2,atI_nat (j:=0) rfl,rfl,_,rfl,iteD (fun z=>absurd (V.str.inj z) (by decide)) (fun _ => ?_)⟩
      refine ⟨_,rfl,a1,_,1,_,rfl,rfl,SqT.of h1,atI_nat (j:=1) rfl,_,_,_,true,rfl,.str _,kit_ss,_,rfl,iteF ?_⟩
      refine ⟨_,rfl,a1,_,1,_,rfl,rfl,SqT.of h1,atI_nat (j:=1) rfl,_,rfl,a2,_,1,_,rfl,rfl,SqT.of h2,atI_nat (j:=1) rfl,rfl,_,rfl,iteDN (fun z=>absurd rfl z) (fun _ => ?_)⟩
      exact ⟨_,rfl,a2,_,0,_,rfl,rfl,SqT.of h2,atI_nat (j:=0) rfl,rfl,_,rfl,iteDN (fun _=>q) (fun z=>absurd (V.str.inj z) (by decide))⟩
    | of x ts =>
      rw [IsTr] at hT hU
      rw [T.depth] at hd
      rw [T.parts] at hok
      have h4:=parts_len ts
      obtain ⟨a1,b1,vs1,rfl,h1,k1,tr1⟩:=hT
      obtain ⟨a2,b2,vs2,rfl,h2,k2,tr2⟩:=hU
      have l1:=trs_len tr1
      have l2:=trs_len tr2
      refine ⟨_,rfl,_,_,_,true,rfl,.tup h1,kit_tt,_,rfl,iteF ?_⟩
      refine ⟨_,rfl,a1,_,rfl,.inr (SqT.of h1),_,rfl,a2,_,rfl,.inr (SqT.of h2),rfl,_,rfl,iteDN (fun z=>absurd rfl z) (fun _ => ?_)⟩
      refine ⟨_,rfl,a1,_,0,_,rfl,rfl,SqT.of h1,atI_nat (j:=0) rfl,_,rfl,a2,_,0,_,rfl,rfl,SqT.of h2,atI_nat (j:=0) rfl,rfl,_,rfl,iteDN (fun z=>absurd rfl z) (fun _ => ?_)⟩
      refine ⟨_,rfl,a2,_,0,_,rfl,rfl,SqT.of h2,atI_nat (j:=0) rfl,rfl,_,rfl,iteD (fun z=>absurd (V.str.inj z) (by decide)) (fun _ => ?_)⟩
      refine ⟨_,rfl,a1,_,1,_,rfl,rfl,SqT.of h1,atI_nat (j:=1) rfl,_,_,_,true,rfl,.str _,kit_ss,_,rfl,iteF ?_⟩
      refine ⟨_,rfl,a1,_,1,_,rfl,rfl,SqT.of h1,atI_nat (j:=1) rfl,_,rfl,a2,_,1,_,rfl,rfl,SqT.of h2,atI_nat (j:=1) rfl,rfl,_,rfl,iteDN (fun z=>absurd rfl z) (fun _ => ?_)⟩
      refine ⟨_,rfl,a2,_,0,_,rfl,rfl,SqT.of h2,atI_nat (j:=0) rfl,rfl,_,rfl,iteDN (fun z=>absurd rfl z) (fun _ => ?_)⟩
      refine ⟨_,rfl,a1,_,2,_,rfl,rfl,SqT.of h1,atI_nat (j:=2) rfl,_,_,_,true,rfl,.tup k1,kit_tt,_,rfl,iteF ?_⟩
      refine ⟨_,rfl,a1,_,2,_,rfl,rfl,SqT.of h1,atI_nat (j:=2) rfl,b1,_,rfl,.inr (SqT.of k1),_,rfl,a2,_,2,_,rfl,rfl,SqT.of h2,atI_nat (j:=2) rfl,b2,_,rfl,.inr (SqT.of k2),rfl,_,rfl,iteDN (fun z=>absurd (by rw [← l1, ← l2]) z) (fun _ => ?_)⟩
      refine ⟨_,rfl,a2,_,2,_,rfl,rfl,SqT.of h2,atI_nat (j:=2) rfl,b2,_,rfl,.inr (SqT.of k2),_,rfl,by omega,by omega,?_⟩
      refine for_range (fun i σ H'=>∃ o, σ = [some (.ref a1),some (.ref a2),none,o]∧H'=H) ⟨none,rfl,rfl⟩ ?_ ?_
      · rintro i σ H' hi ⟨o,rfl,rfl⟩
        have hi':i < vs2.length:=by omega
        have hi1:i < vs1.length:=by omega
        obtain ⟨t1,e1,z1⟩:=trs_at tr1 (List.getElem?_eq_getElem hi1)
        obtain ⟨t2,e2,z2⟩:=trs_at tr2 (List.getElem?_eq_getElem hi')
        rw [e1] at e2
        cases e2
        have hmem:=List.mem_of_getElem? e1
        have d1:=deepest_le hmem
        have ei:(0:Int)+(i:Int)=((i:Nat):Int):=by omega
        refine ⟨_,rfl,a1,_,2,_,rfl,rfl,SqT.of h1,atI_nat (j:=2) rfl,_,rfl,b1,_,_,vs1[i],rfl,rfl,SqT.of k1,by rw [ei];exact atI_nat (List.getElem?_eq_getElem hi1),?_⟩
        refine ⟨_,rfl,a2,_,2,_,rfl,rfl,SqT.of h2,atI_nat (j:=2) rfl,_,rfl,b2,_,_,vs2[i],rfl,rfl,SqT.of k2,by rw [ei];exact atI_nat (List.getElem?_eq_getElem hi'),?_⟩
        exact ⟨_,_,t1,rfl,z1,z2,(by have:=part_mem hmem;omega),by omega,_,rfl,iteF ⟨_,rfl,rfl⟩⟩
      · rintro σ H' ⟨o,rfl,rfl⟩
        exact q
end

section
variable {P:Program} {w:World} {K:PySem.W.Frag} {mg:Str→Option Value} {base:Heap} {CU CNR:Addr}
structure ExcsR (K:PySem.W.Frag) (mg:Str→Option Value) (c_NoTree c_NoRule c_NoRow c_Full c_Apart c_TooBig c_TooWide c_SameError:Addr):Prop where
  e_NoTree:mg "NoTree" = some (.ref c_NoTree)
  e_NoRule:mg "NoRule" = some (.ref c_NoRule)
  e_NoRow:mg "NoRow" = some (.ref c_NoRow)
  e_Full:mg "Full" = some (.ref c_Full)
  e_Apart:mg "Apart" = some (.ref c_Apart)
  e_TooBig:mg "TooBig" = some (.ref c_TooBig)
  e_TooWide:mg "TooWide" = some (.ref c_TooWide)
  e_SameError:mg "SameError" = some (.ref c_SameError)
  b_ValueError:mg "ValueError" = none
  zNoRule:ExcI K c_NoRule
  i_NoRule:PySem.W.kitOne K (.ref c_NoRule) (.ref c_NoRule)=some true
  i_ValueError:PySem.W.kitOne K (.ref c_NoRule) (.type "ValueError")=some true
  i_NoTree:PySem.W.kitOne K (.ref c_NoRule) (.ref c_NoTree)=some false
  i_NoRow:PySem.W.kitOne K (.ref c_NoRule) (.ref c_NoRow)=some false
  i_Full:PySem.W.kitOne K (.ref c_NoRule) (.ref c_Full)=some false
  i_Apart:PySem.W.kitOne K (.ref c_NoRule) (.ref c_Apart)=some false
  i_TooBig:PySem.W.kitOne K (.ref c_NoRule) (.ref c_TooBig)=some false
  i_TooWide:PySem.W.kitOne K (.ref c_NoRule) (.ref c_TooWide)=some false
  m_SameError:PySem.W.exmOne K (.ref c_NoRule) (.ref c_SameError)=some true
theorem ref_one {a:Addr}:∀ u v,RelV (.ref a) u→RelV (.ref a) v→u=v:=fun u v h1 h2=>(show u=Value.ref a from h1).trans (show v=Value.ref a from h2).symm
theorem ty_one {T:String}:∀ u v,RelV (.ty T) u→RelV (.ty T) v→u=v:=fun u v h1 h2=>(show u=Value.type T from h1).trans (show v=Value.type T from h2).symm
variable {c_NoTree c_NoRule c_NoRow c_Full c_Apart c_TooBig c_TooWide c_SameError:Addr}
inductive SpOther (CNT:Addr) (vs:List V) (H:Hp) (Q:VK):Prop
  | mk (ea:Addr) (z0:vs = [.ref ea]) (z1:H ea=some (XO ea CNT)) (z2:Q (.bl false) H):SpOther CNT vs H Q
noncomputable def spOther (CNT:Addr):Sp:=fun vs H Q _=>SpOther CNT vs H Q
theorem ok_other (B:Blt mg) (oNoRule:Exc K mg "NoRule" c_NoRule) (Y:ExcsR K mg c_NoTree c_NoRule c_NoRow c_Full c_Apart c_TooBig c_TooWide c_SameError) (D:Def K mg "_law_other" s_other ["_law_e"]):HasN P w K mg base 1 "_law_other" ["_law_e"] (spOther c_NoRule):=by
  have zNoRule:=Y.zNoRule
  have e_NoTree:=Y.e_NoTree
  have e_NoRow:=Y.e_NoRow
  have e_Full:=Y.e_Full
  have e_Apart:=Y.e_Apart
  have e_TooBig:=Y.e_TooBig
  have e_TooWide:=Y.e_TooWide
  refine D.hasN sc_other (fun vs H Q E h => ?_) (fun f cdv A outer s H vs Q hr h => ?_)
  · obtain ⟨ea,rfl,_⟩:=h;rfl
  obtain ⟨ea,rfl,hea,q⟩:=h
  refine ⟨_,(pss_cons (ps_if (PW.pt (pw_or (pt_val (pe_callB (call_isXK (K:=K) rfl oNoRule zNoRule) rfl B.isinstance_ boot_isinstance_ (pa_cons (pv 0) (pa_cons (pe_glob (v := .ref c_NoTree) rfl e_NoTree rfl) pa_nil)))) (pw_or (pt_val (pe_callB (call_isXK (K:=K) rfl oNoRule zNoRule) rfl B.isinstance_ boot_isinstance_ (pa_cons (pv 0) (pa_cons (pe_glob (v := .ref c_NoRow) rfl e_NoRow rfl) pa_nil)))) (pw_or1 (pt_val (pe_callB (call_isXK (K:=K) rfl oNoRule zNoRule) rfl B.isinstance_ boot_isinstance_ (pa_cons (pv 0) (pa_cons (pe_glob (v := .ref c_Full) rfl e_Full rfl) pa_nil)))))))) (pss_one (ps_ret pe_bl)) pss_nil)
    (pss_one (ps_ret (pe_or (pe_callB (call_isXK (K:=K) rfl oNoRule zNoRule) rfl B.isinstance_ boot_isinstance_ (pa_cons (pv 0) (pa_cons (pe_glob (v := .ref c_Apart) rfl e_Apart rfl) pa_nil))) (pe_or (pe_callB (call_isXK (K:=K) rfl oNoRule zNoRule) rfl B.isinstance_ boot_isinstance_ (pa_cons (pv 0) (pa_cons (pe_glob (v := .ref c_TooBig) rfl e_TooBig rfl) pa_nil))) (pe_one (pe_callB (call_isXK (K:=K) rfl oNoRule zNoRule) rfl B.isinstance_ boot_isinstance_ (pa_cons (pv 0) (pa_cons (pe_glob (v := .ref c_TooWide) rfl e_TooWide rfl) pa_nil))))))))),?_⟩
  try dsimp only [cxOf]
  refine ⟨_,rfl,ea,_,_,false,rfl,hea,rfl,ref_one,Y.i_NoTree,_,rfl,iteF ?_⟩
  refine ⟨_,rfl,ea,_,_,false,rfl,hea,rfl,ref_one,Y.i_NoRow,_,rfl,iteF ?_⟩
  refine ⟨_,rfl,ea,_,_,false,rfl,hea,rfl,ref_one,Y.i_Full,_,rfl,iteF ?_⟩
  refine ⟨_,rfl,ea,_,_,false,rfl,hea,rfl,ref_one,Y.i_Apart,_,rfl,iteF ?_⟩
  refine ⟨_,rfl,ea,_,_,false,rfl,hea,rfl,ref_one,Y.i_TooBig,_,rfl,iteF ?_⟩
  exact ⟨_,rfl,ea,_,_,false,rfl,hea,rfl,ref_one,Y.i_TooWide,q⟩
end

end K41
namespace K41
open PySem L2 Sw
section
variable {P:Program} {w:World} {K:PySem.W.Frag} {mg:Str→Option Value} {base:Heap} {CU CNR:Addr}
theorem kit_ll {K:PySem.W.Frag}:PySem.W.kitOne K (.type "list") (.type "list")=some true:=by rfl
theorem kit_sb {K:PySem.W.Frag}:PySem.W.kitOne K (.type "str") (.type "bool")=some false:=by rfl
noncomputable def ruleFs (z:Str) (wt:Int) (vl vr:V) (A:Addr):List (Str × V) := [("title",.str z),("weight",.int wt),("left",vl),("right",vr),("asks",.ref A)]
inductive SpKept (CU:Addr) (vs:List V) (H:Hp) (Q:VK):Prop
  | mk (o dx A A2:Addr) (z:Str) (wt:Int) (vl vr:V) (l r:T) (avs:List V) (as:List Ask) (ev:vs = [.ref o,.str z,.int wt,vl,vr,.ref A]) (ho:H o=some (.ins CU dx (ruleFs z wt vl vr A2))) (hl:IsTr H l vl) (hr:IsTr H r vr) (dl:l.depth≤14) (dr:r.depth≤14) (pl:l.parts≤100) (pr:r.parts≤100)
    (hA:H A=some (.lst avs)) (hA2:H A2=some (.lst avs)) (hp:Paired (AskAt H) avs as) (few:as.length≤100) (q:Q (.bl true) H):SpKept CU vs H Q
noncomputable def spKept (CU:Addr):Sp:=fun vs H Q _=>SpKept CU vs H Q
theorem eqT_self {xs:List V} (f:xs.all flatV=true) (e:∀ x∈xs,eqV x x=true):eqT xs xs=true:=by
  unfold eqT
  rw [Bool.and_eq_true]
  refine ⟨List.all_eq_true.mpr fun j hj => ?_,by simp⟩
  have hj':j < xs.length:=by rw [Nat.min_self] at hj;exact List.mem_range.mp hj
  rw [List.getD_eq_getElem?_getD,List.getElem?_eq_getElem hj']
  exact e _ (List.getElem_mem hj')
theorem ok_kept (B:Blt mg) (Z:TopU K mg CU CNR) (h_same:Has P w K mg base 14 "_law_same" ["_law_found", "_law_due"] (spSame 14))
    (D:Def K mg "_law_kept" s_kept ["_law_rule", "_law_title", "_law_weight", "_law_left", "_law_right_here", "_law_asks_here"]):Has P w K mg base 15 "_law_kept" ["_law_rule", "_law_title", "_law_weight", "_law_left", "_law_right_here", "_law_asks_here"] (spKept CU):=by
  refine D.has sc_kept (fun vs H Q E h => ?_) (fun f cdv A outer s H vs Q E hr h => ?_)
  · obtain ⟨o,dx,A,A2,z,wt,vl,vr,l,r,avs,as,rfl,_⟩:=h;rfl
  obtain ⟨o,dx,A,A2,z,wt,vl,vr,l,r,avs,as,rfl,ho,hl,hr',dl,dr,pl,pr,hA,hA2,hp,few,q⟩:=h
  refine ⟨_,(pss_cons (ps_if (PW.pt (pw_or (pt_not (pt_val (pe_callB call_isT rfl B.isinstance_ boot_isinstance_ (pa_cons (pe_fld (pv 0) rfl) (pa_cons (pe_bltn (v := .ty "str") rfl B.str_ boot_str_ rfl) pa_nil))))) (pw_or (pt_cmpR op_ne (pe_fld (pv 0) rfl) (pv 1) (nomark _)) (pw_or1 (pt_not (pt_val (pe_callB call_isT rfl B.isinstance_ boot_isinstance_ (pa_cons (pe_fld (pv 0) rfl) (pa_cons (pe_bltn (v := .ty "int") rfl B.int_ boot_int_ rfl) pa_nil))))))))) (pss_one (ps_ret pe_bl)) pss_nil)
    (pss_cons (ps_if (PW.pt (pw_or (pt_val (pe_callB call_isT rfl B.isinstance_ boot_isinstance_ (pa_cons (pe_fld (pv 0) rfl) (pa_cons (pe_bltn (v := .ty "bool") rfl B.bool_ boot_bool_ rfl) pa_nil)))) (pw_or1 (pt_cmpR op_ne (pe_fld (pv 0) rfl) (pv 2) (nomark _))))) (pss_one (ps_ret pe_bl)) pss_nil)
    (pss_cons (ps_if (PW.pt (pw_or (pt_not (pt_val (pe_callH h_same hr (by omega) rfl (pa_cons (pe_fld (pv 0) rfl) (pa_cons (pv 3) pa_nil))))) (pw_or1 (pt_not (pt_val (pe_callH h_same hr (by omega) rfl (pa_cons (pe_fld (pv 0) rfl) (pa_cons (pv 4) pa_nil)))))))) (pss_one (ps_ret pe_bl)) pss_nil)
    (pss_cons (ps_if (PW.pt (pw_or (pt_not (pt_val (pe_callB call_isT rfl B.isinstance_ boot_isinstance_ (pa_cons (pe_fld (pv 0) rfl) (pa_cons (pe_bltn (v := .ty "list") rfl B.list_ boot_list_ rfl) pa_nil))))) (pw_or1 (pt_cmpR op_ne (pe_callB call_len_seq rfl B.len_ PySem.boot_len (pa_cons (pe_fld (pv 0) rfl) pa_nil)) (pe_callB call_len_seq rfl B.len_ PySem.boot_len (pa_cons (pv 5) pa_nil)) (nomark _))))) (pss_one (ps_ret pe_bl)) pss_nil)
    (pss_cons (ps_for PassesOwn.never rfl (pi_range1 rfl B.range_ (pa_cons (pe_callB call_len_seq rfl B.len_ PySem.boot_len (pa_cons (pv 5) pa_nil)) pa_nil)) (pg_name (i:=6) sc_kept.nd rfl (Or.inl rfl))
    (pss_cons (ps_if (PW.pt (pw_or (pt_not (pt_val (pe_callB call_isT rfl B.isinstance_ boot_isinstance_ (pa_cons (pe_ix ix_list (pe_fld (pv 0) rfl) (pv 6) (fun _ _=>rfl)) (pa_cons (pe_bltn (v := .ty "tuple") rfl B.tuple_ boot_tuple_ rfl) pa_nil))))) (pw_or1 (pt_cmpR (op_neT hr.units0) (pe_ix ix_list (pe_fld (pv 0) rfl) (pv 6) (fun _ _=>rfl)) (pe_ix ix_list (pv 5) (pv 6) (fun _ _=>rfl)) (nomark _))))) (pss_one (ps_ret pe_bl)) pss_nil)
    (pss_one (ps_if (PW.pt (pw_and (pt_cmpR op_eq (pe_callB call_len_seq rfl B.len_ PySem.boot_len (pa_cons (pe_ix ix_list (pv 5) (pv 6) (fun _ _=>rfl)) pa_nil)) pe_int (nomark _)) (pw_and1 (pt_val (pe_callB call_isT rfl B.isinstance_ boot_isinstance_ (pa_cons (pe_ix ix_tup (pe_ix ix_list (pe_fld (pv 0) rfl) (pv 6) (fun _ _=>rfl)) pe_int (fun _ _=>rfl)) (pa_cons (pe_bltn (v := .ty "bool") rfl B.bool_ boot_bool_ rfl) pa_nil))))))) (pss_one (ps_ret pe_bl)) pss_nil))))
    (pss_one (ps_ret pe_bl))))))),?_⟩
  try dsimp only [cxOf]
  have hal:=Paired.length hp
  refine ⟨_,rfl,o,CU,dx,_,_,rfl,ho,Z.cU,Z.nTitle,rfl,_,_,_,true,rfl,.str _,kit_ss,_,rfl,iteF ?_⟩
  refine ⟨_,rfl,o,CU,dx,_,_,rfl,ho,Z.cU,Z.nTitle,rfl,_,rfl,rfl,_,rfl,iteDN (fun z=>absurd rfl z) (fun _ => ?_)⟩
  refine ⟨_,rfl,o,CU,dx,_,_,rfl,ho,Z.cU,Z.nWeight,rfl,_,_,_,true,rfl,.int _,kit_ii,_,rfl,iteF ?_⟩
  refine ⟨_,rfl,o,CU,dx,_,_,rfl,ho,Z.cU,Z.nWeight,rfl,_,_,_,false,rfl,.int _,kit_ib,_,rfl,iteF ?_⟩
  refine ⟨_,rfl,o,CU,dx,_,_,rfl,ho,Z.cU,Z.nWeight,rfl,_,rfl,rfl,_,rfl,iteDN (fun z=>absurd rfl z) (fun _ => ?_)⟩
  refine ⟨_,rfl,o,CU,dx,_,_,rfl,ho,Z.cU,Z.nLeft,rfl,_,rfl,vl,vl,l,rfl,hl,hl,by omega,dl,_,rfl,iteF ?_⟩
  refine ⟨_,rfl,o,CU,dx,_,_,rfl,ho,Z.cU,Z.nRight,rfl,_,rfl,vr,vr,r,rfl,hr',hr',by omega,dr,_,rfl,iteF ?_⟩
  refine ⟨_,rfl,o,CU,dx,_,_,rfl,ho,Z.cU,Z.nAsks,rfl,_,_,_,true,rfl,.lst hA2,kit_ll,_,rfl,iteF ?_⟩
  refine ⟨_,rfl,o,CU,dx,_,_,rfl,ho,Z.cU,Z.nAsks,rfl,A2,_,rfl,.inl (SqL.of hA2),_,rfl,A,_,rfl,.inl (SqL.of hA),rfl,_,rfl,iteDN (fun z=>absurd rfl z) (fun _ => ?_)⟩
  refine ⟨_,rfl,A,_,rfl,.inl (SqL.of hA),_,rfl,by omega,by omega,?_⟩
  rw [Int.toNat_natCast]
  refine for_range (lo:=0) (fun i σ H'=>∃ x6, σ = [some (.ref o),some (.str z),some (.int wt),some vl,some vr,some (.ref A),x6]∧H'=H) ⟨none,rfl,rfl⟩ ?_ ?_
  · rintro i σ H' hi ⟨x6,rfl,rfl⟩
    obtain ⟨k,hk,ha⟩:=paired_at hp (List.getElem?_eq_getElem hi)
    have ei:(0:Int)+(i:Int)=((i:Nat):Int):=by omega
    have at_:atI avs (0+(i:Int))=some avs[i]:=by rw [ei];exact atI_nat (List.getElem?_eq_getElem hi)
    generalize avs[i]=v at ha at_
    cases k with
    | free x y =>
      obtain ⟨a,rfl,h⟩:=ha
      refine ⟨_,rfl,o,CU,dx,_,_,rfl,ho,Z.cU,Z.nAsks,rfl,_,rfl,A2,_,_,_,rfl,rfl,SqL.of hA2,at_,_,_,_,true,rfl,.tup h,kit_tt,_,rfl,iteF ?_⟩
      refine ⟨_,rfl,o,CU,dx,_,_,rfl,ho,Z.cU,Z.nAsks,rfl,_,rfl,A2,_,_,_,rfl,rfl,SqL.of hA2,at_,_,rfl,_,rfl,A,_,_,_,rfl,rfl,SqL.of hA,at_,a,a,_,_,rfl,rfl,SqT.of h,SqT.of h,rfl,rfl,_,rfl,?_⟩
      rw [eqT_self rfl (by simp [eqV])]
      refine iteF ?_
      refine ⟨_,rfl,_,rfl,A,_,_,_,rfl,rfl,SqL.of hA,at_,a,_,rfl,.inr (SqT.of h),rfl,_,rfl,iteD (fun _ => ?_) (fun z=>absurd rfl z)⟩
      exact ⟨_,rfl,o,CU,dx,_,_,rfl,ho,Z.cU,Z.nAsks,rfl,_,rfl,A2,_,_,_,rfl,rfl,SqL.of hA2,at_,a,_,2,_,rfl,rfl,SqT.of h,atI_nat (j:=2) rfl,_,_,_,false,rfl,.str _,kit_sb,_,rfl,iteF ⟨_,rfl,rfl⟩⟩
    | sign x y =>
      obtain ⟨a,rfl,h⟩:=ha
      refine ⟨_,rfl,o,CU,dx,_,_,rfl,ho,Z.cU,Z.nAsks,rfl,_,rfl,A2,_,_,_,rfl,rfl,SqL.of hA2,at_,_,_,_,true,rfl,.tup h,kit_tt,_,rfl,iteF ?_⟩
      refine ⟨_,rfl,o,CU,dx,_,_,rfl,ho,Z.cU,Z.nAsks,rfl,_,rfl,A2,_,_,_,rfl,rfl,SqL.of hA2,at_,_,rfl,_,rfl,A,_,_,_,rfl,rfl,SqL.of hA,at_,a,a,_,_,rfl,rfl,SqT.of h,SqT.of h,rfl,rfl,_,rfl,?_⟩
      rw [eqT_self rfl (by simp [eqV])]
      refine iteF ?_
      refine ⟨_,rfl,_,rfl,A,_,_,_,rfl,rfl,SqL.of hA,at_,a,_,rfl,.inr (SqT.of h),rfl,_,rfl,iteD (fun _ => ?_) (fun z=>absurd rfl z)⟩
      exact ⟨_,rfl,o,CU,dx,_,_,rfl,ho,Z.cU,Z.nAsks,rfl,_,rfl,A2,_,_,_,rfl,rfl,SqL.of hA2,at_,a,_,2,_,rfl,rfl,SqT.of h,atI_nat (j:=2) rfl,_,_,_,false,rfl,.int _,kit_ib,_,rfl,iteF ⟨_,rfl,rfl⟩⟩
    | num x =>
      obtain ⟨a,rfl,h⟩:=ha
      refine ⟨_,rfl,o,CU,dx,_,_,rfl,ho,Z.cU,Z.nAsks,rfl,_,rfl,A2,_,_,_,rfl,rfl,SqL.of hA2,at_,_,_,_,true,rfl,.tup h,kit_tt,_,rfl,iteF ?_⟩
      refine ⟨_,rfl,o,CU,dx,_,_,rfl,ho,Z.cU,Z.nAsks,rfl,_,rfl,A2,_,_,_,rfl,rfl,SqL.of hA2,at_,_,rfl,_,rfl,A,_,_,_,rfl,rfl,SqL.of hA,at_,a,a,_,_,rfl,rfl,SqT.of h,SqT.of h,rfl,rfl,_,rfl,?_⟩
      rw [eqT_self rfl (by simp [eqV])]
      refine iteF ?_
      exact ⟨_,rfl,_,rfl,A,_,_,_,rfl,rfl,SqL.of hA,at_,a,_,rfl,.inr (SqT.of h),rfl,_,rfl,iteD (fun z=>absurd (show (2:Int)=3 from V.int.inj z) (by decide)) (fun _=>⟨_,rfl,rfl⟩)⟩
  · rintro σ H' ⟨x6,rfl,rfl⟩
    exact q
end

end K41
namespace K41
open PySem L2 Sw
section
variable {P:Program} {w:World} {K:PySem.W.Frag} {mg:Str→Option Value} {base:Heap} {CU:Addr}
noncomputable def askD:Ask→L2.D
  | .free h z => .tup [.str "free",.str h,.str z]
  | .sign h m => .tup [.str "sign",.str h,.int m]
  | .num h => .tup [.str "number",.str h]
theorem den_ask {H:Hp} {v:V} {a:Ask} (h:AskAt H v a):Den H (askD a) v:=by
  cases a with
  | free x z=>obtain ⟨b,rfl,h⟩:=h;rw [askD,Den];exact ⟨b,_,rfl,h,dens_cons (by rw [Den]) (dens_cons (by rw [Den]) (dens_cons (by rw [Den]) dens_nil))⟩
  | sign x z=>obtain ⟨b,rfl,h⟩:=h;rw [askD,Den];exact ⟨b,_,rfl,h,dens_cons (by rw [Den]) (dens_cons (by rw [Den]) (dens_cons (by rw [Den];exact .inl rfl) dens_nil))⟩
  | num x=>obtain ⟨b,rfl,h⟩:=h;rw [askD,Den];exact ⟨b,_,rfl,h,dens_cons (by rw [Den]) (dens_cons (by rw [Den]) dens_nil)⟩
theorem dens_asks {H:Hp} {vs:List V} {as:List Ask} (h:Paired (AskAt H) vs as):Dens H (as.map askD) vs:=by
  induction h with
  | nil=>exact dens_nil
  | cons r _ ih=>rw [List.map_cons];exact dens_cons (den_ask r) ih
theorem askD_deep:∀ a:Ask,(askD a).deep≤1
  | .free _ _=>by rw [askD,L2.D.deep,L2.D.deeps,L2.D.deeps,L2.D.deeps,L2.D.deeps,L2.D.deep,L2.D.deep,L2.D.deep];decide
  | .sign _ _=>by rw [askD,L2.D.deep,L2.D.deeps,L2.D.deeps,L2.D.deeps,L2.D.deeps,L2.D.deep,L2.D.deep,L2.D.deep];decide
  | .num _=>by rw [askD,L2.D.deep,L2.D.deeps,L2.D.deeps,L2.D.deeps,L2.D.deep,L2.D.deep];decide
theorem asks_deep:∀ as:List Ask,L2.D.deeps (as.map askD)≤150
  | []=>by rw [List.map_nil,L2.D.deeps];decide
  | a :: as=>by rw [List.map_cons,L2.D.deeps];have:=asks_deep as;have:=askD_deep a;omega
theorem den_lstA {H:Hp} {b:Addr} {vs:List V} {as:List Ask} (hb:H b=some (.lst vs)) (h:Paired (AskAt H) vs as):Den H (.lst (as.map askD)) (.ref b):=by
  rw [Den];exact ⟨b,_,rfl,hb,dens_asks h⟩
structure TtOk (way:Int) (z:Str):Prop where
  asc:Asc z
  bad:way=0→¬ IsW z
  good:way≠0→IsW z
structure WtOk (way wt:Int):Prop where
  bad:way=1→¬ (1≤wt∧wt≤1000000000000)
  good:way≠1→1≤wt∧wt≤1000000000000
theorem rule_bad {way wt:Int} {z z0 z1:Str} {bs:List Str} {l r:T} {as:List Ask} (w0:0≤way) (w1:way≤10) (tt:TtOk way z) (wo:WtOk way wt) (so:SidesOk way z0 z1 bs l) (ro:RightOk way bs r) (ao:AsksRes way bs as) (five:way=10→as.length=5):¬ RuleOk z wt l r as:=by
  rintro ⟨h1,h2,⟨p1,p2,p3,p4,p5⟩,a1,a2⟩
  rcases (show way=0∨way=1∨way=2∨way=3∨way=4∨way=5∨way=6∨(7≤way∧way≤9)∨way=10 by omega) with e | e | e | e | e | e | e | e | e
  · exact tt.bad e h1
  · exact wo.bad e h2
  · rw [so.two e] at p1;cases p1
  · have:=so.three e;omega
  · have:=so.four e;omega
  · have:=ro.five e;omega
  · obtain ⟨h,m1,m2⟩:=ro.six e
    exact m2 ((so.raw_ (by omega) h).mp (p5 h m1))
  · obtain ⟨b,hb,bd⟩:=ao.bad e
    exact bd.2 (note l []) (fun y hy=>(so.raw_ (by omega) y).mp (mem_note.mp hy)) (a2 b hb)
  · have:=five e;omega
theorem rule_good {way wt:Int} {z z0 z1:Str} {bs:List Str} {l r:T} {as:List Ask} (w1:¬ way≤10) (tt:TtOk way z) (wo:WtOk way wt) (so:SidesOk way z0 z1 bs l) (ro:RightOk way bs r) (ao:AsksRes way bs as):RuleOk z wt l r as:=by
  have e1:=so.else_ (by omega) (by omega) (by omega)
  refine ⟨tt.good (by omega),wo.good (by omega),⟨so.of_ (by omega),e1.1,ro.else_ (by omega),e1.2,fun h hh=>(so.raw_ (by omega) h).mpr (ro.sub (by omega) h hh)⟩,ao.few (by omega),fun a ha => ?_⟩
  exact (ao.good (by rintro ⟨x1,x2⟩;omega) a ha).2 _ fun y hy=>mem_note.mpr ((so.raw_ (by omega) y).mpr hy)
inductive SpLaw (K:PySem.W.Frag) (vs:List V) (H:Hp) (Q:VK):Prop
  | mk (a:Addr) (ns:List Int) (z0:vs = [.ref a]) (z1:SqL K H a (ns.map V.int)) (z2:ns.length≤63) (z3:(∀ c∈ns,Builtin.Int.intBits c≤1048576)) (z4:∀ H',Q (.bl true) H'):SpLaw K vs H Q
noncomputable def spLaw (K:PySem.W.Frag):Sp:=fun vs H Q _=>SpLaw K vs H Q
inductive LtI (H:Hp) (way:Int) (st:Str→St) (σ : St) (H':Hp):Prop
  | mk (z:Str) (e : σ = st z) (sm:Same H H') (ok:TtOk way z)
inductive LwI (H:Hp) (way:Int) (st:Int→St) (σ : St) (H':Hp):Prop
  | mk (wt:Int) (e : σ = st wt) (sm:Same H H') (ok:WtOk way wt)
inductive LrI (CU:Addr) (H:Hp) (z:Str) (wt:Int) (vl vr:V) (l r:T) (avs:List V) (as:List Ask) (st:V→V→St) (σ : St) (H':Hp):Prop
  | ok (o dx A2:Addr) (e : σ = st (.ref o) .non) (sm:Same H H') (fr:H A2=none) (ho:H' o=some (.ins CU dx (ruleFs z wt vl vr A2))) (hA2:H' A2=some (.lst avs)) (yes:RuleOk z wt l r as)
  | no (c:Addr) (e : σ = st .non (.ref c)) (sm:Same H H') (hc:H' c=some (.tup [.bl true,.bl true,.bl false])) (not:¬ RuleOk z wt l r as)
variable {c_NoTree c_NoRule c_NoRow c_Full c_Apart c_TooBig c_TooWide c_SameError:Addr}
theorem p12:(10:Int) ^ (12:Int).toNat=1000000000000:=by decide
theorem p13:(10:Int) ^ (13:Int).toNat=10000000000000:=by decide
theorem ok_law (B:Blt mg) (oNoRule:Exc K mg "NoRule" c_NoRule) (Y:ExcsR K mg c_NoTree c_NoRule c_NoRow c_Full c_Apart c_TooBig c_TooWide c_SameError) (h_cell_at:Has P w K mg base 1 "_law_cell_at" ["_law_script", "_law_k"] (spCell K)) (h_mixed:Has P w K mg base 1 "_law_mixed" ["_law_cell", "_law_k"] spMixed) (h_pool:Has P w K mg base 2 "_law_pool" ["_law_m"] spPool) (h_word:Has P w K mg base 1 "_law_word" ["_law_m"] spWord) (h_bad:Has P w K mg base 2 "_law_bad" ["_law_m"] spBad)
    (h_sides:Has P w K mg base 3 "_law_sides" ["_law_script", "_law_way", "_law_pool_here"] (spSides K)) (h_right:Has P w K mg base 3 "_law_right" ["_law_script", "_law_way", "_law_pool_here", "_law_bound"] (spRight K)) (h_asks:Has P w K mg base 3 "_law_asks" ["_law_script", "_law_way", "_law_pool_here", "_law_bound"] (spAsks K))
    (h_init_Rule:HasC P w K mg base 17 "Rule" CU ["self", "title", "weight", "left", "right", "asks"] (spRInit CU c_NoRule)) (h_other:HasN P w K mg base 1 "_law_other" ["_law_e"] (spOther c_NoRule)) (h_kept:Has P w K mg base 15 "_law_kept" ["_law_rule", "_law_title", "_law_weight", "_law_left", "_law_right_here", "_law_asks_here"] (spKept CU))
    {f:Addr} {fd:FuncData} (F:Fun K "law" "law" s_law f fd):FnOk P w K mg base CX0 19 f fd ["_law_script"] (spLaw K):=by
  have zNoRule:=Y.zNoRule
  have e_SameError:=Y.e_SameError
  have e_NoRule:=oNoRule.glob
  have b_ValueError:=Y.b_ValueError
  refine F.ok sc_law (fun vs H Q E h => ?_) (fun cdv A outer s H vs Q E hr h => ?_)
  · obtain ⟨a,ns,rfl,_⟩:=h;rfl
  obtain ⟨a,ns,rfl,hS,h63,_,q⟩:=h
  refine ⟨_,(pss_cons (ps_set (i:=1) sc_law.nd rfl (Or.inl rfl) (pe_callH h_mixed hr (by omega) rfl (pa_cons (pe_callH h_cell_at hr (by omega) rfl (pa_cons (pv 0) (pa_cons pe_int pa_nil))) (pa_cons pe_int pa_nil))))
    (pss_cons (ps_set (i:=2) sc_law.nd rfl (Or.inl rfl) (pe_op op_mod (pv 1) pe_int))
    (pss_cons (ps_set (i:=3) sc_law.nd rfl (Or.inl rfl) (pe_callH h_pool hr (by omega) rfl (pa_cons (pe_op op_fdiv (pv 1) pe_int) pa_nil)))
    (pss_cons (ps_set (i:=4) sc_law.nd rfl (Or.inl rfl) (pe_callH h_word hr (by omega) rfl (pa_cons (pe_op op_fdiv (pv 1) pe_int) pa_nil)))
    (pss_cons (ps_if (pt_cmpR op_eq (pv 2) pe_int (nomark _)) (pss_one (ps_set (i:=4) sc_law.nd rfl (Or.inl rfl) (pe_callH h_bad hr (by omega) rfl (pa_cons (pe_op op_fdiv (pv 1) pe_int) pa_nil)))) pss_nil)
    (pss_cons (ps_set (i:=5) sc_law.nd rfl (Or.inl rfl) (pe_callH h_mixed hr (by omega) rfl (pa_cons (pe_callH h_cell_at hr (by omega) rfl (pa_cons (pv 0) (pa_cons pe_int pa_nil))) (pa_cons pe_int pa_nil))))
    (pss_cons (ps_set (i:=6) sc_law.nd rfl (Or.inl rfl) (pe_ix ix_list (pe_lst (pa_cons pe_int (pa_cons (pe_op op_pow pe_int pe_int) (pa_cons (pe_op op_add pe_int (pe_op op_mod (pe_callH h_cell_at hr (by omega) rfl (pa_cons (pv 0) (pa_cons pe_int pa_nil))) (pe_op op_pow pe_int pe_int))) (pa_cons (pe_op op_add pe_int (pv 5)) pa_nil))))) (pe_op op_mod (pv 5) pe_int) (fun _ _=>rfl)))
    (pss_cons (ps_if (pt_cmpR op_eq (pv 2) pe_int (nomark _)) (pss_one (ps_set (i:=6) sc_law.nd rfl (Or.inl rfl) (pe_ix ix_list (pe_lst (pa_cons pe_int (pa_cons (pe_un un_neg pe_int) (pa_cons (pe_op op_add (pe_op op_pow pe_int pe_int) pe_int) (pa_cons (pe_op op_add (pe_op op_pow pe_int pe_int) (pv 5)) (pa_cons (pe_un un_neg (pv 5)) (pa_cons (pe_op op_pow pe_int pe_int) pa_nil))))))) (pe_op op_mod (pe_op op_fdiv (pv 5) pe_int) pe_int) (fun _ _=>rfl)))) pss_nil)
    (pss_cons (ps_asg (pe_callH h_sides hr (by omega) rfl (pa_cons (pv 0) (pa_cons (pv 2) (pa_cons (pv 3) pa_nil)))) (pg_tup rfl (pgs_cons (pg_name (i:=7) sc_law.nd rfl (Or.inl rfl)) (pgs_cons (pg_name (i:=8) sc_law.nd rfl (Or.inl rfl)) pgs_nil))))
    (pss_cons (ps_set (i:=9) sc_law.nd rfl (Or.inl rfl) (pe_callH h_right hr (by omega) rfl (pa_cons (pv 0) (pa_cons (pv 2) (pa_cons (pv 3) (pa_cons (pv 8) pa_nil))))))
    (pss_cons (ps_set (i:=10) sc_law.nd rfl (Or.inl rfl) (pe_callH h_asks hr (by omega) rfl (pa_cons (pv 0) (pa_cons (pv 2) (pa_cons (pv 3) (pa_cons (pv 8) pa_nil))))))
    (pss_cons (ps_set (i:=11) sc_law.nd rfl (Or.inl rfl) (pe_callTy call_list_of rfl B.list_ boot_list_ (pa_cons (pv 10) pa_nil)))
    (pss_cons (ps_set (i:=12) sc_law.nd rfl (Or.inl rfl) pe_non)
    (pss_cons (ps_set (i:=13) sc_law.nd rfl (Or.inl rfl) pe_non)
    (pss_cons (ps_try (i:=14) ⟨rfl,rfl⟩ sc_law.nd rfl rfl rfl e_SameError (pst_set (i:=12) sc_law.nd rfl (Or.inl rfl) (pet_makeE h_init_Rule hr (by omega) rfl (pa_cons (pv 4) (pa_cons (pv 6) (pa_cons (pv 7) (pa_cons (pv 9) (pa_cons (pv 11) pa_nil))))))) (fun ea=>(pss_one (ps_set (i:=13) sc_law.nd rfl (Or.inl rfl) (pe_tup (pa_cons (pe_callB (call_isXK (K:=K) rfl oNoRule zNoRule) rfl B.isinstance_ boot_isinstance_ (pa_cons (pv 14) (pa_cons (pe_glob (v := .ref c_NoRule) rfl e_NoRule rfl) pa_nil))) (pa_cons (pe_callB (call_isXK (K:=K) rfl oNoRule zNoRule) rfl B.isinstance_ boot_isinstance_ (pa_cons (pv 14) (pa_cons (pe_bltn (v := .ty "ValueError") rfl b_ValueError boot_ValueError_ rfl) pa_nil))) (pa_cons (pe_callHN h_other (hr.mark _) (by omega) rfl (pa_cons (pv 14) pa_nil)) pa_nil))))))))
    (pss_cons (ps_if (pt_cmpR op_le (pv 2) pe_int (nomark _)) (pss_one (ps_ret (pe_and (pe_cmpR op_isN (pv 12) pe_non (nomark _)) (pe_and (pe_cmpR (op_eqT hr.units0) (pv 13) (pe_tup (pa_cons pe_bl (pa_cons pe_bl (pa_cons pe_bl pa_nil)))) (nomark _)) (pe_one (pe_cmpR (op_eqD (un101 hr)) (pv 11) (pv 10) (nomark _))))))) pss_nil)
    (pss_cons (ps_if (PW.pt (pw_or (pt_cmpR op_notN (pv 13) pe_non (nomark _)) (pw_or1 (pt_cmpR (op_neD (un101 hr)) (pv 11) (pv 10) (nomark _))))) (pss_one (ps_ret pe_bl)) pss_nil)
    (pss_cons (ps_expr (pe_bm PySem.F.plainAttrs_list PySem.F.slot_list_append PySem.F.type_list_append mt_append (pv 11) (pa_cons (pe_tup (pa_cons pe_str (pa_cons (pe_ix ix_list (pv 3) pe_int (fun _ _=>rfl)) pa_nil))) pa_nil)))
    (pss_cons (ps_asg (pe_tup (pa_cons pe_str (pa_cons (pe_ix ix_list (pv 3) pe_int (fun _ _=>rfl)) (pa_cons pe_int pa_nil)))) (pg_sub (pv 11) pe_int set_list))
    (pss_one (ps_ret (pe_callH h_kept hr (by omega) rfl (pa_cons (pv 12) (pa_cons (pv 4) (pa_cons (pv 6) (pa_cons (pv 7) (pa_cons (pv 9) (pa_cons (pv 10) pa_nil)))))))))))))))))))))))))))),?_⟩
  try dsimp only [cxOf]
  refine ⟨_,rfl,a,ns,0,rfl,hS,by decide,fun c=>⟨c,97,rfl,by decide,by decide,fun f f0 f1 => ?_⟩⟩
  dsimp only [gName]
  refine ⟨_,rfl,_,_,rfl,rfl,pos',?_⟩
  dsimp only [gName]
  have w0:0≤f % 15:=Int.emod_nonneg _ (by decide)
  have w14:f % 15 < 15:=Int.emod_lt_of_pos _ (by decide)
  generalize f % 15=way at w0 w14 ⊢
  refine ⟨_,rfl,_,_,rfl,rfl,div',_,rfl,fun Pl z0 z1 z2 H1 s1 hP => ?_⟩
  dsimp only [gName]
  refine ⟨_,rfl,_,_,rfl,rfl,div',_,rfl,?_⟩
  dsimp only [gName]
  have hw:=wordOf_ok (f / 30)
  generalize wordOf (f / 30)=z at hw ⊢
  -- the title
  refine rd_cut (LtI H1 way (fun z => [some (.ref a),some (.int f),some (.int way),some (.ref Pl),some (.str z),none,none,none,none,none,none,none,none,none,none])) ?_ (fun key => ?_)
  rotate_left
  · refine ⟨_,rfl,rfl,_,rfl,iteD (fun e => ?_) (fun e => ?_)⟩
    · have ez:way=0:=V.int.inj e
      exact ⟨_,rfl,_,_,rfl,rfl,div',_,rfl,fun y H2 s2 ya yn=>key _ _ (LtI.mk y rfl s2 ⟨ya,fun _=>yn,fun n=>absurd ez n⟩)⟩
    · have nz:way≠0:=fun x=>e (congrArg V.int x)
      exact key _ _ (LtI.mk z rfl (Same.refl _) ⟨isW_asc hw,fun x=>absurd x nz,fun _=>hw⟩)
  clear hw z
  rintro σ' H2 ⟨z,rfl,s2,tt⟩
  have g2:=s1.trans s2
  refine ⟨_,rfl,a,ns,4,rfl,g2.seq hS,by decide,fun c=>⟨c,53,rfl,by decide,by decide,fun m m0 m1 => ?_⟩⟩
  dsimp only [gName]
  -- the weight
  have k0:=Int.emod_nonneg m (show (4:Int)≠0 by decide)
  have k1:=Int.emod_lt_of_pos m (show (0:Int) < 4 by decide)
  refine ⟨_,_,rfl,rfl,⟨by decide,by decide,by decide⟩,_,rfl,a,ns,4,rfl,g2.seq hS,by decide,fun c => ?_⟩
  refine ⟨_,_,rfl,rfl,⟨by decide,by decide,by decide⟩,_,_,rfl,rfl,(show (0:Int) < 10 ^ (12:Int).toNat by decide),_,_,rfl,rfl,_,rfl,_,_,rfl,rfl,(show 4≤sizeLine by decide),fun p hp => ?_⟩
  rw [p12]
  have c0:=Int.emod_nonneg c (show (1000000000000:Int)≠0 by decide)
  have c1:=Int.emod_lt_of_pos c (show (0:Int) < 1000000000000 by decide)
  have four:∃ u:Int,atI [V.int 1,.int 1000000000000,.int (1+c % 1000000000000),.int (2+m)] (m % 4)=some (.int u)∧1≤u∧u≤1000000000000:=by
    rcases (show m % 4=0∨m % 4=1∨m % 4=2∨m % 4=3 by omega) with e | e | e | e <;> rw [e]
    · exact ⟨_,rfl,by omega⟩
    · exact ⟨_,rfl,by omega⟩
    · exact ⟨_,rfl,by omega⟩
    · exact ⟨_,rfl,by omega⟩
  obtain ⟨u,hu,u1,u2⟩:=four
  refine ⟨_,rfl,_,_,rfl,rfl,pos',p,_,_,_,rfl,rfl,SqL.of upd_same,hu,?_⟩
  dsimp only [gName]
  have s3:=same_new hp (.lst [V.int 1,.int 1000000000000,.int (1+c % 1000000000000),.int (2+m)])
  generalize upd H2 p (.lst [V.int 1,.int 1000000000000,.int (1+c % 1000000000000),.int (2+m)])=H3 at s3 ⊢
  refine rd_cut (LwI H3 way (fun u => [some (.ref a),some (.int f),some (.int way),some (.ref Pl),some (.str z),some (.int m),some (.int u),none,none,none,none,none,none,none,none])) ?_ (fun key => ?_)
  rotate_left
  · refine ⟨_,rfl,rfl,_,rfl,iteD (fun e => ?_) (fun e => ?_)⟩
    · have ez:way=1:=V.int.inj e
      have j0:=Int.emod_nonneg (m / 4) (show (6:Int)≠0 by decide)
      have j1:=Int.emod_lt_of_pos (m / 4) (show (0:Int) < 6 by decide)
      have six:∃ u:Int,atI [V.int 0,.int (-1),.int (1000000000000+1),.int (1000000000000+m),.int (-m),.int 10000000000000] (m / 4 % 6)=some (.int u)∧¬ (1≤u∧u≤1000000000000):=by
        rcases (show m / 4 % 6=0∨m / 4 % 6=1∨m / 4 % 6=2∨m / 4 % 6=3∨m / 4 % 6=4∨m / 4 % 6=5 by omega) with e | e | e | e | e | e <;> rw [e]
        · exact ⟨_,rfl,by omega⟩
        · exact ⟨_,rfl,by omega⟩
        · exact ⟨_,rfl,by omega⟩
        · exact ⟨_,rfl,by omega⟩
        · exact ⟨_,rfl,by omega⟩
        · exact ⟨_,rfl,by omega⟩
      obtain ⟨v,hv,vn⟩:=six
      refine ⟨1,rfl,_,_,rfl,rfl,⟨by decide,by decide,by decide⟩,_,_,rfl,rfl,_,_,rfl,rfl,⟨by decide,by decide,by decide⟩,_,rfl,_,_,rfl,rfl,_,rfl,m,rfl,_,_,rfl,rfl,⟨by decide,by decide,by decide⟩,(show 6≤sizeLine by decide),fun p' hp' => ?_⟩
      rw [p12,p13]
      refine ⟨_,rfl,_,_,rfl,rfl,div',_,_,rfl,rfl,pos',p',_,_,_,rfl,rfl,SqL.of upd_same,hv,?_⟩
      exact key _ _ (LwI.mk v rfl (same_new hp' _) ⟨fun _=>vn,fun n=>absurd ez n⟩)
    · have nz:way≠1:=fun x=>e (congrArg V.int x)
      exact key _ _ (LwI.mk u rfl (Same.refl _) ⟨fun x=>absurd x nz,fun _=>⟨u1,u2⟩⟩)
  clear hu u1 u2 u
  rintro σ' H4 ⟨wt,rfl,s4,wo⟩
  have g4:=s2.trans (s3.trans s4)
  have h4:=s1.trans g4
  have hP4:PoolAt H4 Pl z0 z1 z2:=⟨g4 _ _ hP.at_,hP.w0,hP.w1,hP.w2,hP.e1,hP.e2⟩
  -- the sides
  refine ⟨_,rfl,_,rfl,_,rfl,SpSides.mk a Pl ns way z0 z1 z2 rfl (h4.seq hS) hP4 fun pp vl Bl l bs H5 s5 hpp hB hl so => ?_⟩
  refine ⟨pp,_,rfl,SqT.of hpp,rfl,?_⟩
  refine ⟨_,_,rfl,?_⟩
  refine ⟨_,_,rfl,?_⟩
  refine ⟨rfl,?_⟩
  dsimp only [gName,List.set]
  have hP5:PoolAt H5 Pl z0 z1 z2:=⟨s5 _ _ hP4.at_,hP.w0,hP.w1,hP.w2,hP.e1,hP.e2⟩
  have h5:=h4.trans s5
  refine ⟨_,rfl,_,rfl,_,rfl,_,rfl,SpRight.mk a Pl Bl ns way z0 z1 z2 bs rfl (h5.seq hS) hP5 hB so.bp so.sub fun vr r H6 s6 hr6 ro => ?_⟩
  dsimp only [gName]
  have hP6:PoolAt H6 Pl z0 z1 z2:=⟨s6 _ _ hP5.at_,hP.w0,hP.w1,hP.w2,hP.e1,hP.e2⟩
  have h6:=h5.trans s6
  refine ⟨_,rfl,_,rfl,_,rfl,_,rfl,SpAsks.mk a Pl Bl ns way z0 z1 z2 bs rfl (h6.seq hS) hP6 (s6 _ _ hB) so.bp so.sub fun Al avs as H7 hAl s7 hA7 hp7 ao five => ?_⟩
  dsimp only [gName]
  have al:=Paired.length hp7
  have al5:=ao.len
  refine ⟨_,rfl,Al,avs,rfl,.inl (SqL.of hA7),fun Hd hHd => ?_⟩
  dsimp only [gName]
  have s8:=same_new hHd (.lst avs)
  have hd8:=upd_same (H:=H7) (a:=Hd) (o := .lst avs)
  have hA8:=s8 _ _ hA7
  have hne:Al≠Hd:=ne_of_none hA7 hHd
  have hl8:=tr_same (s6.trans (s7.trans s8)) hl
  have hr8:=tr_same (s7.trans s8) hr6
  have hp8:=asks_same s8 hp7
  have hP8:=s8 _ _ (s7 _ _ hP6.at_)
  generalize upd H7 Hd (.lst avs)=H8 at s8 hd8 hA8 hl8 hr8 hp8 hP8 ⊢
  clear hp7 hA7
  refine rd_cut (fun σ' H' => σ' = [some (.ref a),some (.int f),some (.int way),some (.ref Pl),some (.str z),some (.int m),some (.int wt),some vl,some (.ref Bl),some vr,some (.ref Al),some (.ref Hd),some .non,none,none]∧H'=H8) ?_ (fun key=>key _ _ ⟨rfl,rfl⟩)
  rintro σ' H' ⟨rfl,rfl⟩
  refine rd_cut (fun σ' H'' => σ' = [some (.ref a),some (.int f),some (.int way),some (.ref Pl),some (.str z),some (.int m),some (.int wt),some vl,some (.ref Bl),some vr,some (.ref Al),some (.ref Hd),some .non,some .non,none]∧H''=H') ?_ (fun key=>key _ _ ⟨rfl,rfl⟩)
  rintro σ' H8 ⟨rfl,rfl⟩
  refine rd_cut (LrI CU H8 z wt vl vr l r avs as (fun x y => [some (.ref a),some (.int f),some (.int way),some (.ref Pl),some (.str z),some (.int m),some (.int wt),some vl,some (.ref Bl),some vr,some (.ref Al),some (.ref Hd),some x,some y,none])) ?_ (fun key => ?_)
  rotate_left
  · refine ⟨_,rfl,_,rfl,_,rfl,_,rfl,_,rfl,fun x dx hx hdx hxd => ?_⟩
    have t1:=same_new hdx (.own x)
    have hx1:upd H8 dx (.own x) x=none:=by rw [upd_ne (Ne.symm hxd)];exact hx
    have t2:=t1.trans (same_new hx1 (.ins CU dx []))
    have hx2:=upd_same (H:=upd H8 dx (.own x)) (a:=x) (o := .ins CU dx [])
    generalize upd (upd H8 dx (.own x)) x (.ins CU dx [])=H9 at t2 hx2
    refine SpRInit.mk x dx Hd z wt vl vr l r avs as rfl hx2 tt.asc (tr_same t2 hl8) (tr_same t2 hr8) so.dep ro.dep so.parts ro.parts (t2 _ _ hd8) (asks_same t2 hp8) ao.asc (by omega) (fun yes H' A2 kp fA hA2 ho=>⟨rfl,?_⟩) (fun no H' s'=>⟨c_NoRule,rfl,Y.m_SameError,fun ea hea => ?_⟩)
    · exact key _ _ (LrI.ok x dx A2 rfl (fun b u hb=>kp b u (ne_of_none hb hx) (t2 _ _ hb)) (t2.free fA) ho hA2 yes)
    · refine ⟨_,rfl,ea,_,_,true,rfl,upd_same,rfl,ref_one,Y.i_NoRule,_,rfl,ea,_,_,true,rfl,upd_same,rfl,ty_one,Y.i_ValueError,_,rfl,ea,rfl,upd_same,(show 3≤sizeLine by decide),fun c hc => ?_⟩
      exact key _ _ (LrI.no c rfl (t2.trans (s'.trans ((same_new hea _).trans (same_new hc _)))) upd_same no)
  have den:∀ H',Same H8 H'→Den H' (.lst (as.map askD)) (.ref Hd)∧Den H' (.lst (as.map askD)) (.ref Al):=fun H' s'=>⟨den_lstA (s' _ _ hd8) (asks_same s' hp8),den_lstA (s' _ _ hA8) (asks_same s' hp8)⟩
  rintro σ' H9 (⟨o,dx,A2,rfl,s9,fA,ho,hA2,yes⟩ | ⟨c,rfl,s9,hc,no⟩)
  · refine ⟨_,rfl,_,_,rfl,rfl,_,rfl,iteD (fun e=>absurd yes (rule_bad w0 e tt wo so ro ao five)) (fun e => ?_)⟩
    dsimp only [tNext]
    refine ⟨_,rfl,rfl,_,rfl,iteDN (fun z=>absurd rfl z) (fun _ => ?_)⟩
    obtain ⟨d1,d2⟩:=den H9 s9
    refine ⟨_,rfl,_,rfl,_,_,.inr ⟨d1,d2⟩,asks_deep as,_,rfl,iteDN (fun z=>absurd rfl z) (fun _ => ?_)⟩
    dsimp only [tNext]
    have hd9:=s9 _ _ hd8
    have hP9:=s9 _ _ hP8
    -- append
    refine ⟨_,rfl,.inl ⟨rfl,_,SqL.of hd9⟩,_,rfl,Pl,_,2,_,rfl,rfl,SqL.of hP9,atI_nat (j:=2) rfl,(show 2≤sizeLine by decide),fun p1 hp1 => ?_⟩
    have t1:=same_new hp1 (.tup [.str "number",.str z2])
    generalize upd H9 p1 (.tup [.str "number",.str z2])=Ha at t1
    refine ⟨Hd,avs,_,rfl,rfl,t1 _ _ hd9,small1000 (by omega),?_⟩
    have nP:Pl≠Hd:=ne_of_none (s7 _ _ hP6.at_) hHd
    have nA:A2≠Hd:=Ne.symm (ne_of_none hd8 fA)
    have no:o≠Hd:=ne_of ho hd9 (fun z=>nomatch z)
    have k1:∀ b u,b≠Hd→H9 b=some u→upd Ha Hd (.lst (avs ++ [.ref p1])) b=some u:=fun b u n h=>by rw [upd_ne n];exact t1 _ _ h
    have hdb:=upd_same (H:=Ha) (a:=Hd) (o := .lst (avs ++ [.ref p1]))
    generalize upd Ha Hd (.lst (avs ++ [.ref p1]))=Hb at k1 hdb
    refine ⟨_,rfl,Pl,_,0,_,rfl,rfl,SqL.of (k1 _ _ nP hP9),atI_nat (j:=0) rfl,(show 3≤sizeLine by decide),fun p2 hp2 => ?_⟩
    have t2:=same_new hp2 (.tup [.str "sign",.str z0,.int 9])
    generalize upd Hb p2 (.tup [.str "sign",.str z0,.int 9])=Hc at t2
    refine ⟨_,rfl,Hd,_,0,0,rfl,rfl,t2 _ _ hdb,?_,?_⟩
    · unfold ixN;simp
    have k2:∀ b u,b≠Hd→H9 b=some u→upd Hc Hd (.lst ((avs ++ [V.ref p1]).set 0 (V.ref p2))) b=some u:=fun b u n h=>by rw [upd_ne n];exact t2 _ _ (k1 b u n h)
    generalize upd Hc Hd (.lst ((avs ++ [V.ref p1]).set 0 (V.ref p2)))=He at k2 ⊢
    have kt:∀ b ys,H9 b=some (.tup ys)→He b=some (.tup ys):=fun b ys h=>k2 _ _ (ne_of h hd9 (fun z=>nomatch z)) h
    exact ⟨_,rfl,_,rfl,_,rfl,_,rfl,_,rfl,_,rfl,SpKept.mk o dx Al A2 z wt vl vr l r avs as rfl (k2 _ _ no ho) (tr_keep kt (tr_same s9 hl8)) (tr_keep kt (tr_same s9 hr8)) so.dep ro.dep so.parts ro.parts (k2 _ _ hne (s9 _ _ hA8)) (k2 _ _ nA hA2) (asks_keep kt (asks_same s9 hp8)) (by omega) (q _)⟩
  · refine ⟨_,rfl,_,_,rfl,rfl,_,rfl,iteD (fun e => ?_) (fun e=>absurd (rule_good e tt wo so ro ao) no)⟩
    obtain ⟨d1,d2⟩:=den H9 s9
    refine ⟨_,rfl,rfl,_,rfl,iteT ?_⟩
    refine ⟨_,rfl,(show 3≤sizeLine by decide),fun c2 hc2 => ?_⟩
    have t1:=same_new hc2 (.tup [.bl true,.bl true,.bl false])
    have hc3:=upd_same (H:=H9) (a:=c2) (o := .tup [.bl true,.bl true,.bl false])
    generalize upd H9 c2 (.tup [.bl true,.bl true,.bl false])=Ha at t1 hc3
    refine ⟨c,c2,_,_,rfl,rfl,SqT.of (t1 _ _ hc),SqT.of hc3,rfl,rfl,_,rfl,iteT ?_⟩
    obtain ⟨d1,d2⟩:=den Ha (s9.trans t1)
    refine ⟨_,rfl,_,rfl,_,_,.inr ⟨d1,d2⟩,asks_deep as,?_⟩
    rw [decide_eq_true rfl]
    exact q _
end

end K41
namespace K41
open PySem L2
theorem len_s {n:Nat} {us:List Value} (h:us.length=n+1):∃ v vs,us=v :: vs∧vs.length=n:=by cases us with | nil=>cases h | cons v vs=>exact ⟨v,vs,rfl,Nat.succ.inj h⟩
theorem len1_ {fd:FuncData} {ps:List Str} (h:∀ v0:Value,bindArgs fd ⟨[v0], []⟩=pure (ps.zip [v0])):∀ us:List Value,us.length=1→bindArgs fd ⟨us, []⟩=pure (ps.zip us):=fun us h0=>by obtain ⟨v0,us,rfl,h1⟩:=len_s h0;obtain rfl:=List.eq_nil_of_length_eq_zero h1;exact h v0
open PySem L2 Sw
theorem len2_ {fd:FuncData} {ps:List Str} (h:∀ v0 v1:Value,bindArgs fd ⟨[v0,v1], []⟩=pure (ps.zip [v0,v1])):∀ us:List Value,us.length=2→bindArgs fd ⟨us, []⟩=pure (ps.zip us):=fun us h0=>by obtain ⟨v0,us,rfl,h1⟩:=len_s h0;obtain ⟨v1,us,rfl,h2⟩:=len_s h1;obtain rfl:=List.eq_nil_of_length_eq_zero h2;exact h v0 v1
open PySem L2 Sw
theorem len3_ {fd:FuncData} {ps:List Str} (h:∀ v0 v1 v2:Value,bindArgs fd ⟨[v0,v1,v2], []⟩=pure (ps.zip [v0,v1,v2])):∀ us:List Value,us.length=3→bindArgs fd ⟨us, []⟩=pure (ps.zip us):=fun us h0=>by obtain ⟨v0,us,rfl,h1⟩:=len_s h0;obtain ⟨v1,us,rfl,h2⟩:=len_s h1;obtain ⟨v2,us,rfl,h3⟩:=len_s h2;obtain rfl:=List.eq_nil_of_length_eq_zero h3;exact h v0 v1 v2
open PySem L2 Sw
theorem len4_ {fd:FuncData} {ps:List Str} (h:∀ v0 v1 v2 v3:Value,bindArgs fd ⟨[v0,v1,v2,v3], []⟩=pure (ps.zip [v0,v1,v2,v3])):∀ us:List Value,us.length=4→bindArgs fd ⟨us, []⟩=pure (ps.zip us):=fun us h0=>by obtain ⟨v0,us,rfl,h1⟩:=len_s h0;obtain ⟨v1,us,rfl,h2⟩:=len_s h1;obtain ⟨v2,us,rfl,h3⟩:=len_s h2;obtain ⟨v3,us,rfl,h4⟩:=len_s h3;obtain rfl:=List.eq_nil_of_length_eq_zero h4;exact h v0 v1 v2 v3
open PySem L2 Sw
theorem len6_ {fd:FuncData} {ps:List Str} (h:∀ v0 v1 v2 v3 v4 v5:Value,bindArgs fd ⟨[v0,v1,v2,v3,v4,v5], []⟩=pure (ps.zip [v0,v1,v2,v3,v4,v5])):∀ us:List Value,us.length=6→bindArgs fd ⟨us, []⟩=pure (ps.zip us):=fun us h0=>by obtain ⟨v0,us,rfl,h1⟩:=len_s h0;obtain ⟨v1,us,rfl,h2⟩:=len_s h1;obtain ⟨v2,us,rfl,h3⟩:=len_s h2;obtain ⟨v3,us,rfl,h4⟩:=len_s h3;obtain ⟨v4,us,rfl,h5⟩:=len_s h4;obtain ⟨v5,us,rfl,h6⟩:=len_s h5;obtain rfl:=List.eq_nil_of_length_eq_zero h6;exact h v0 v1 v2 v3 v4 v5
open PySem L2 Sw
theorem all_mk {l:PySem.W.OpenLaw} {w:World} {K:PySem.W.Frag} {h:Heap} {mg:Str→Option Value} {fa CU f0 f1 f2 f3 f4 f5 f6 f7 f8 f9 f10 f11 f12 f13 f14 f15 f16 f17 f18 f19 f20 f21 f22 f23 c_NoRule c_NoTree c_NoRow c_Full c_Apart c_TooBig c_TooWide c_SameError:Addr} (X:K.In h) (G:h.Ns mainGlobals mg) (hfa:mg "law" = some (.ref fa))
    {od0 an0 od1 an1 od2 an2 od3 an3 od4 an4 od5 an5 od6 an6 od7 an7 od8 an8 od9 an9 od10 an10 od11 an11 od12 an12 od13 an13 od14 an14 od15 an15 od16 an16 od17 an17 od18 an18 od19 an19 od20 an20 od21 an21 od22 an22 od23 an23:Option Addr} {sl0 sl1 sl2 sl3 sl4 sl5 sl6 sl7 sl8 sl9 sl10 sl11 sl12 sl13 sl14 sl15 sl16 sl17 sl18 sl19 sl20 sl21 sl22 sl23:Array (Option Value)} {oc0 kV0 dc0 pm0 cd0 ct0 oc1 kV1 dc1 pm1 cd1 ct1 oc2 kV2 dc2 pm2 cd2 ct2 oc3 kV3 dc3 pm3 cd3 ct3 oc4 kV4 dc4 pm4 cd4 ct4 oc5 kV5 dc5 pm5 cd5 ct5 oc6 kV6 dc6 pm6 cd6 ct6 oc7 kV7 dc7 pm7 cd7 ct7 oc8 kV8 dc8 pm8 cd8 ct8 oc9 kV9 dc9 pm9 cd9 ct9 oc10 kV10 dc10 pm10 cd10 ct10 oc11 kV11 dc11 pm11 cd11 ct11 oc12 kV12 dc12 pm12 cd12 ct12 oc13 kV13 dc13 pm13 cd13 ct13 oc14 kV14 dc14 pm14 cd14 ct14 oc15 kV15 dc15 pm15 cd15 ct15 oc16 kV16 dc16 pm16 cd16 ct16 oc17 kV17 dc17 pm17 cd17 ct17 oc18 kV18 dc18 pm18 cd18 ct18 oc19 kV19 dc19 pm19 cd19 ct19 oc20 kV20 dc20 pm20 cd20 ct20 oc21 kV21 dc21 pm21 cd21 ct21 oc22 kV22 dc22 pm22 cd22 ct22 oc23 kV23 dc23 pm23 cd23 ct23:Value}
    {u_MOST_WEIGHT u_MOST_RULE_PARTS u_MOST_LEFT_KNOTS u_MOST_ASKS u_MOST_MASK u_MOST_LETTERS u_LETTERS:Tok}
    (aC_Rule:PySem.W.nsIn K mainGlobals "Rule" = some (some (.ref CU)))
    (a0:PySem.W.nsIn K mainGlobals "parts" = some (some (.ref f0)))
    (l0:K.lookup f0=some ⟨oc0,od0,.func (PySem.W.fnOf "parts" "parts" (defArgs s_parts) (defBody s_parts) (defScope s_parts) .none kV0 dc0 pm0 an0 cd0 ct0),sl0⟩)
    (c0:PySem.W.codeIn K cd0 "parts" = true)
    (k0:PySem.W.keepIn K (.ref f0)=true)
    (a1:PySem.W.nsIn K mainGlobals "knots" = some (some (.ref f1)))
    (l1:K.lookup f1=some ⟨oc1,od1,.func (PySem.W.fnOf "knots" "knots" (defArgs s_knots) (defBody s_knots) (defScope s_knots) .none kV1 dc1 pm1 an1 cd1 ct1),sl1⟩)
    (c1:PySem.W.codeIn K cd1 "knots" = true)
    (k1:PySem.W.keepIn K (.ref f1)=true)
    (a2:PySem.W.nsIn K mainGlobals "note_holes" = some (some (.ref f2)))
    (l2:K.lookup f2=some ⟨oc2,od2,.func (PySem.W.fnOf "note_holes" "note_holes" (defArgs s_note_holes) (defBody s_note_holes) (defScope s_note_holes) .none kV2 dc2 pm2 an2 cd2 ct2),sl2⟩)
    (c2:PySem.W.codeIn K cd2 "note_holes" = true)
    (k2:PySem.W.keepIn K (.ref f2)=true)
    (a3:PySem.W.nsIn K mainGlobals "holes" = some (some (.ref f3)))
    (l3:K.lookup f3=some ⟨oc3,od3,.func (PySem.W.fnOf "holes" "holes" (defArgs s_holes) (defBody s_holes) (defScope s_holes) .none kV3 dc3 pm3 an3 cd3 ct3),sl3⟩)
    (c3:PySem.W.codeIn K cd3 "holes" = true)
    (k3:PySem.W.keepIn K (.ref f3)=true)
    (a4:PySem.W.nsIn K mainGlobals "is_word" = some (some (.ref f4)))
    (l4:K.lookup f4=some ⟨oc4,od4,.func (PySem.W.fnOf "is_word" "is_word" (defArgs s_is_word) (defBody s_is_word) (defScope s_is_word) .none kV4 dc4 pm4 an4 cd4 ct4),sl4⟩)
    (c4:PySem.W.codeIn K cd4 "is_word" = true)
    (k4:PySem.W.keepIn K (.ref f4)=true)
    (a5:PySem.W.nsIn K mainGlobals "refuse_patterns" = some (some (.ref f5)))
    (l5:K.lookup f5=some ⟨oc5,od5,.func (PySem.W.fnOf "refuse_patterns" "refuse_patterns" (defArgs s_refuse_patterns) (defBody s_refuse_patterns) (defScope s_refuse_patterns) .none kV5 dc5 pm5 an5 cd5 ct5),sl5⟩)
    (c5:PySem.W.codeIn K cd5 "refuse_patterns" = true)
    (k5:PySem.W.keepIn K (.ref f5)=true)
    (a6:PySem.W.nsIn K mainGlobals "refuse_asks" = some (some (.ref f6)))
    (l6:K.lookup f6=some ⟨oc6,od6,.func (PySem.W.fnOf "refuse_asks" "refuse_asks" (defArgs s_refuse_asks) (defBody s_refuse_asks) (defScope s_refuse_asks) .none kV6 dc6 pm6 an6 cd6 ct6),sl6⟩)
    (c6:PySem.W.codeIn K cd6 "refuse_asks" = true)
    (k6:PySem.W.keepIn K (.ref f6)=true)
    (ai_Rule:PySem.W.findIn K (.ref CU) "__init__" = some (some (.ref f7)))
    (l7:K.lookup f7=some ⟨oc7,od7,.func (PySem.W.fnOf "__init__" "Rule.__init__" (defArgs s_rinit) (defBody s_rinit) (defScope s_rinit) .none kV7 dc7 pm7 an7 cd7 ct7),sl7⟩)
    (c7:PySem.W.codeIn K cd7 "Rule.__init__" = true)
    (k7:PySem.W.keepIn K (.ref f7)=true)
    (n7:PySem.W.isFn K (.ref f7)=true)
    (a8:PySem.W.nsIn K mainGlobals "_law_cell_at" = some (some (.ref f8)))
    (l8:K.lookup f8=some ⟨oc8,od8,.func (PySem.W.fnOf "_law_cell_at" "_law_cell_at" (defArgs s_cell_at) (defBody s_cell_at) (defScope s_cell_at) .none kV8 dc8 pm8 an8 cd8 ct8),sl8⟩)
    (c8:PySem.W.codeIn K cd8 "_law_cell_at" = true)
    (k8:PySem.W.keepIn K (.ref f8)=true)
    (a9:PySem.W.nsIn K mainGlobals "_law_mixed" = some (some (.ref f9)))
    (l9:K.lookup f9=some ⟨oc9,od9,.func (PySem.W.fnOf "_law_mixed" "_law_mixed" (defArgs s_mixed) (defBody s_mixed) (defScope s_mixed) .none kV9 dc9 pm9 an9 cd9 ct9),sl9⟩)
    (c9:PySem.W.codeIn K cd9 "_law_mixed" = true)
    (k9:PySem.W.keepIn K (.ref f9)=true)
    (a10:PySem.W.nsIn K mainGlobals "_law_word" = some (some (.ref f10)))
    (l10:K.lookup f10=some ⟨oc10,od10,.func (PySem.W.fnOf "_law_word" "_law_word" (defArgs s_word) (defBody s_word) (defScope s_word) .none kV10 dc10 pm10 an10 cd10 ct10),sl10⟩)
    (c10:PySem.W.codeIn K cd10 "_law_word" = true)
    (k10:PySem.W.keepIn K (.ref f10)=true)
    (a11:PySem.W.nsIn K mainGlobals "_law_number" = some (some (.ref f11)))
    (l11:K.lookup f11=some ⟨oc11,od11,.func (PySem.W.fnOf "_law_number" "_law_number" (defArgs s_number) (defBody s_number) (defScope s_number) .none kV11 dc11 pm11 an11 cd11 ct11),sl11⟩)
    (c11:PySem.W.codeIn K cd11 "_law_number" = true)
    (k11:PySem.W.keepIn K (.ref f11)=true)
    (a12:PySem.W.nsIn K mainGlobals "_law_pool" = some (some (.ref f12)))
    (l12:K.lookup f12=some ⟨oc12,od12,.func (PySem.W.fnOf "_law_pool" "_law_pool" (defArgs s_pool) (defBody s_pool) (defScope s_pool) .none kV12 dc12 pm12 an12 cd12 ct12),sl12⟩)
    (c12:PySem.W.codeIn K cd12 "_law_pool" = true)
    (k12:PySem.W.keepIn K (.ref f12)=true)
    (a13:PySem.W.nsIn K mainGlobals "_law_same" = some (some (.ref f13)))
    (l13:K.lookup f13=some ⟨oc13,od13,.func (PySem.W.fnOf "_law_same" "_law_same" (defArgs s_same) (defBody s_same) (defScope s_same) .none kV13 dc13 pm13 an13 cd13 ct13),sl13⟩)
    (c13:PySem.W.codeIn K cd13 "_law_same" = true)
    (k13:PySem.W.keepIn K (.ref f13)=true)
    (a14:PySem.W.nsIn K mainGlobals "_law_knotted" = some (some (.ref f14)))
    (l14:K.lookup f14=some ⟨oc14,od14,.func (PySem.W.fnOf "_law_knotted" "_law_knotted" (defArgs s_knotted) (defBody s_knotted) (defScope s_knotted) .none kV14 dc14 pm14 an14 cd14 ct14),sl14⟩)
    (c14:PySem.W.codeIn K cd14 "_law_knotted" = true)
    (k14:PySem.W.keepIn K (.ref f14)=true)
    (a15:PySem.W.nsIn K mainGlobals "_law_leaf" = some (some (.ref f15)))
    (l15:K.lookup f15=some ⟨oc15,od15,.func (PySem.W.fnOf "_law_leaf" "_law_leaf" (defArgs s_leaf) (defBody s_leaf) (defScope s_leaf) .none kV15 dc15 pm15 an15 cd15 ct15),sl15⟩)
    (c15:PySem.W.codeIn K cd15 "_law_leaf" = true)
    (k15:PySem.W.keepIn K (.ref f15)=true)
    (a16:PySem.W.nsIn K mainGlobals "_law_bad" = some (some (.ref f16)))
    (l16:K.lookup f16=some ⟨oc16,od16,.func (PySem.W.fnOf "_law_bad" "_law_bad" (defArgs s_bad) (defBody s_bad) (defScope s_bad) .none kV16 dc16 pm16 an16 cd16 ct16),sl16⟩)
    (c16:PySem.W.codeIn K cd16 "_law_bad" = true)
    (k16:PySem.W.keepIn K (.ref f16)=true)
    (a17:PySem.W.nsIn K mainGlobals "_law_ask" = some (some (.ref f17)))
    (l17:K.lookup f17=some ⟨oc17,od17,.func (PySem.W.fnOf "_law_ask" "_law_ask" (defArgs s_ask) (defBody s_ask) (defScope s_ask) .none kV17 dc17 pm17 an17 cd17 ct17),sl17⟩)
    (c17:PySem.W.codeIn K cd17 "_law_ask" = true)
    (k17:PySem.W.keepIn K (.ref f17)=true)
    (a18:PySem.W.nsIn K mainGlobals "_law_sides" = some (some (.ref f18)))
    (l18:K.lookup f18=some ⟨oc18,od18,.func (PySem.W.fnOf "_law_sides" "_law_sides" (defArgs s_sides) (defBody s_sides) (defScope s_sides) .none kV18 dc18 pm18 an18 cd18 ct18),sl18⟩)
    (c18:PySem.W.codeIn K cd18 "_law_sides" = true)
    (k18:PySem.W.keepIn K (.ref f18)=true)
    (a19:PySem.W.nsIn K mainGlobals "_law_right" = some (some (.ref f19)))
    (l19:K.lookup f19=some ⟨oc19,od19,.func (PySem.W.fnOf "_law_right" "_law_right" (defArgs s_right) (defBody s_right) (defScope s_right) .none kV19 dc19 pm19 an19 cd19 ct19),sl19⟩)
    (c19:PySem.W.codeIn K cd19 "_law_right" = true)
    (k19:PySem.W.keepIn K (.ref f19)=true)
    (a20:PySem.W.nsIn K mainGlobals "_law_asks" = some (some (.ref f20)))
    (l20:K.lookup f20=some ⟨oc20,od20,.func (PySem.W.fnOf "_law_asks" "_law_asks" (defArgs s_asks) (defBody s_asks) (defScope s_asks) .none kV20 dc20 pm20 an20 cd20 ct20),sl20⟩)
    (c20:PySem.W.codeIn K cd20 "_law_asks" = true)
    (k20:PySem.W.keepIn K (.ref f20)=true)
    (a21:PySem.W.nsIn K mainGlobals "_law_other" = some (some (.ref f21)))
    (l21:K.lookup f21=some ⟨oc21,od21,.func (PySem.W.fnOf "_law_other" "_law_other" (defArgs s_other) (defBody s_other) (defScope s_other) .none kV21 dc21 pm21 an21 cd21 ct21),sl21⟩)
    (c21:PySem.W.codeIn K cd21 "_law_other" = true)
    (k21:PySem.W.keepIn K (.ref f21)=true)
    (a22:PySem.W.nsIn K mainGlobals "_law_kept" = some (some (.ref f22)))
    (l22:K.lookup f22=some ⟨oc22,od22,.func (PySem.W.fnOf "_law_kept" "_law_kept" (defArgs s_kept) (defBody s_kept) (defScope s_kept) .none kV22 dc22 pm22 an22 cd22 ct22),sl22⟩)
    (c22:PySem.W.codeIn K cd22 "_law_kept" = true)
    (k22:PySem.W.keepIn K (.ref f22)=true)
    (a23:PySem.W.nsIn K mainGlobals "law" = some (some (.ref f23)))
    (l23:K.lookup f23=some ⟨oc23,od23,.func (PySem.W.fnOf "law" "law" (defArgs s_law) (defBody s_law) (defScope s_law) .none kV23 dc23 pm23 an23 cd23 ct23),sl23⟩)
    (c23:PySem.W.codeIn K cd23 "law" = true)
    (k23:PySem.W.keepIn K (.ref f23)=true)
    (rMk_Rule:PySem.W.makesIn K CU=true)
    (rKp_Rule:PySem.W.keepIn K (.ref CU)=true)
    (rPg_Rule:PySem.W.plainGet K CU Str.empty=true)
    (rHd_Rule:PySem.W.hasDictIn K CU=true)
    (rPo_Rule:PySem.W.plainOver K CU=true)
    (rSa_Rule:PySem.W.findIn K (.ref CU) "__setattr__" = some (some (.builtin "object.__setattr__")))
    (nA_Rule_title:PySem.W.findIn K (.ref CU) "title" = some none)
    (nA_Rule_weight:PySem.W.findIn K (.ref CU) "weight" = some none)
    (nA_Rule_left:PySem.W.findIn K (.ref CU) "left" = some none)
    (nA_Rule_right:PySem.W.findIn K (.ref CU) "right" = some none)
    (nA_Rule_asks:PySem.W.findIn K (.ref CU) "asks" = some none)
    (gs_LETTERS:PySem.W.nsIn K mainGlobals "LETTERS" = some (some (.str "abcdefghijklmnopqrstuvwxyz" u_LETTERS)))
    (gi_MOST_WEIGHT:PySem.W.nsIn K mainGlobals "MOST_WEIGHT" = some (some (.int 1000000000000 u_MOST_WEIGHT)))
    (gi_MOST_RULE_PARTS:PySem.W.nsIn K mainGlobals "MOST_RULE_PARTS" = some (some (.int 12 u_MOST_RULE_PARTS)))
    (gi_MOST_LEFT_KNOTS:PySem.W.nsIn K mainGlobals "MOST_LEFT_KNOTS" = some (some (.int 3 u_MOST_LEFT_KNOTS)))
    (gi_MOST_ASKS:PySem.W.nsIn K mainGlobals "MOST_ASKS" = some (some (.int 4 u_MOST_ASKS)))
    (gi_MOST_MASK:PySem.W.nsIn K mainGlobals "MOST_MASK" = some (some (.int 7 u_MOST_MASK)))
    (gi_MOST_LETTERS:PySem.W.nsIn K mainGlobals "MOST_LETTERS" = some (some (.int 8 u_MOST_LETTERS)))
    (x_NoRule:PySem.W.nsIn K mainGlobals "NoRule" = some (some (.ref c_NoRule)))
    (xEx_NoRule:PySem.W.excIn K c_NoRule [.type "ValueError",.type "Exception",.type "BaseException",.type "object"] "ValueError.__new__" = true)
    (x_NoTree:PySem.W.nsIn K mainGlobals "NoTree" = some (some (.ref c_NoTree)))
    (x_NoRow:PySem.W.nsIn K mainGlobals "NoRow" = some (some (.ref c_NoRow)))
    (x_Full:PySem.W.nsIn K mainGlobals "Full" = some (some (.ref c_Full)))
    (x_Apart:PySem.W.nsIn K mainGlobals "Apart" = some (some (.ref c_Apart)))
    (x_TooBig:PySem.W.nsIn K mainGlobals "TooBig" = some (some (.ref c_TooBig)))
    (x_TooWide:PySem.W.nsIn K mainGlobals "TooWide" = some (some (.ref c_TooWide)))
    (x_SameError:PySem.W.nsIn K mainGlobals "SameError" = some (some (.ref c_SameError)))
    (xCl:PySem.W.findIn K (.ref c_NoRule) "__class__" = some (some (.builtin "object.__class__")))
    (xGa:PySem.W.findIn K (.ref c_NoRule) "__getattribute__" = some (some (.builtin "BaseException.__getattribute__")))
    (xGn:PySem.W.findIn K (.ref c_NoRule) "__getattr__" = some none)
    (iVE:PySem.W.nsIn K mainGlobals "ValueError" = some none)
    (i_NoRule:PySem.W.kitOne K (.ref c_NoRule) (.ref c_NoRule)=some true)
    (i_ValueError:PySem.W.kitOne K (.ref c_NoRule) (.type "ValueError")=some true)
    (i_NoTree:PySem.W.kitOne K (.ref c_NoRule) (.ref c_NoTree)=some false)
    (i_NoRow:PySem.W.kitOne K (.ref c_NoRule) (.ref c_NoRow)=some false)
    (i_Full:PySem.W.kitOne K (.ref c_NoRule) (.ref c_Full)=some false)
    (i_Apart:PySem.W.kitOne K (.ref c_NoRule) (.ref c_Apart)=some false)
    (i_TooBig:PySem.W.kitOne K (.ref c_NoRule) (.ref c_TooBig)=some false)
    (i_TooWide:PySem.W.kitOne K (.ref c_NoRule) (.ref c_TooWide)=some false)
    (m_SameError:PySem.W.exmOne K (.ref c_NoRule) (.ref c_SameError)=some true)
    (z0:PySem.W.nsIn K mainGlobals "len" = some none)
    (z1:PySem.W.nsIn K mainGlobals "min" = some none)
    (z2:PySem.W.nsIn K mainGlobals "max" = some none)
    (z3:PySem.W.nsIn K mainGlobals "sum" = some none)
    (z4:PySem.W.nsIn K mainGlobals "range" = some none)
    (z5:PySem.W.nsIn K mainGlobals "enumerate" = some none)
    (z6:PySem.W.nsIn K mainGlobals "isinstance" = some none)
    (z7:PySem.W.nsIn K mainGlobals "tuple" = some none)
    (z8:PySem.W.nsIn K mainGlobals "int" = some none)
    (z9:PySem.W.nsIn K mainGlobals "bool" = some none)
    (z10:PySem.W.nsIn K mainGlobals "str" = some none)
    (z11:PySem.W.nsIn K mainGlobals "list" = some none) :
    ∃ fd:FuncData,(∀ (s:Shared) (v:Value),BindsTo s fd ⟨[v], []⟩ [("_law_script",v)])∧∀ base:Heap,K.In base→base.Ns mainGlobals mg→FnOk l.prog w K mg base CX0 19 fa fd ["_law_script"] (spLaw K):=by
  have e:=hfa.symm.trans (PySem.W.mg_of X G a23)
  cases e
  have B:Blt mg:=⟨PySem.W.mg_none_of X G z0,PySem.W.mg_none_of X G z1,PySem.W.mg_none_of X G z2,PySem.W.mg_none_of X G z3,PySem.W.mg_none_of X G z4,PySem.W.mg_none_of X G z5,PySem.W.mg_none_of X G z6,PySem.W.mg_none_of X G z7,PySem.W.mg_none_of X G z8,PySem.W.mg_none_of X G z9,PySem.W.mg_none_of X G z10,PySem.W.mg_none_of X G z11⟩
  have cls_Rule:Cls K CU:=⟨rPg_Rule,rHd_Rule,rPo_Rule,rSa_Rule⟩
  have g_LETTERS:∃ t,mg "LETTERS" = some (.str "abcdefghijklmnopqrstuvwxyz" t):=⟨_,PySem.W.mg_of X G gs_LETTERS⟩
  have g_MOST_WEIGHT:∃ t,mg "MOST_WEIGHT" = some (.int 1000000000000 t):=⟨_,PySem.W.mg_of X G gi_MOST_WEIGHT⟩
  have g_MOST_RULE_PARTS:∃ t,mg "MOST_RULE_PARTS" = some (.int 12 t):=⟨_,PySem.W.mg_of X G gi_MOST_RULE_PARTS⟩
  have g_MOST_LEFT_KNOTS:∃ t,mg "MOST_LEFT_KNOTS" = some (.int 3 t):=⟨_,PySem.W.mg_of X G gi_MOST_LEFT_KNOTS⟩
  have g_MOST_ASKS:∃ t,mg "MOST_ASKS" = some (.int 4 t):=⟨_,PySem.W.mg_of X G gi_MOST_ASKS⟩
  have g_MOST_MASK:∃ t,mg "MOST_MASK" = some (.int 7 t):=⟨_,PySem.W.mg_of X G gi_MOST_MASK⟩
  have g_MOST_LETTERS:∃ t,mg "MOST_LETTERS" = some (.int 8 t):=⟨_,PySem.W.mg_of X G gi_MOST_LETTERS⟩
  have oNoRule:Exc K mg "NoRule" c_NoRule:=⟨PySem.W.mg_of X G x_NoRule,xEx_NoRule⟩
  have Y:ExcsR K mg c_NoTree c_NoRule c_NoRow c_Full c_Apart c_TooBig c_TooWide c_SameError := { e_NoTree:=PySem.W.mg_of X G x_NoTree,e_NoRule:=PySem.W.mg_of X G x_NoRule,e_NoRow:=PySem.W.mg_of X G x_NoRow,e_Full:=PySem.W.mg_of X G x_Full,e_Apart:=PySem.W.mg_of X G x_Apart,e_TooBig:=PySem.W.mg_of X G x_TooBig,e_TooWide:=PySem.W.mg_of X G x_TooWide,e_SameError:=PySem.W.mg_of X G x_SameError,b_ValueError:=PySem.W.mg_none_of X G iVE,zNoRule:=⟨xCl,xGa,xGn⟩,i_ValueError:=i_ValueError,i_NoTree:=i_NoTree,i_NoRule:=i_NoRule,i_NoRow:=i_NoRow,i_Full:=i_Full,i_Apart:=i_Apart,i_TooBig:=i_TooBig,i_TooWide:=i_TooWide,m_SameError:=m_SameError }
  have F_parts:=fun_mk (st:=s_parts) l0 c0 k0
  have D_parts:Def K mg "parts" s_parts ["tree"]:=⟨_,_,F_parts,PySem.W.mg_of X G a0,F_parts.binds fun _ _ _ _ _ _ us hl=>len1_ (fun _=>rfl) us hl⟩
  have F_knots:=fun_mk (st:=s_knots) l1 c1 k1
  have D_knots:Def K mg "knots" s_knots ["pattern"]:=⟨_,_,F_knots,PySem.W.mg_of X G a1,F_knots.binds fun _ _ _ _ _ _ us hl=>len1_ (fun _=>rfl) us hl⟩
  have F_note_holes:=fun_mk (st:=s_note_holes) l2 c2 k2
  have D_note_holes:Def K mg "note_holes" s_note_holes ["pattern", "found"]:=⟨_,_,F_note_holes,PySem.W.mg_of X G a2,F_note_holes.binds fun _ _ _ _ _ _ us hl=>len2_ (fun _ _=>rfl) us hl⟩
  have F_holes:=fun_mk (st:=s_holes) l3 c3 k3
  have D_holes:Def K mg "holes" s_holes ["pattern"]:=⟨_,_,F_holes,PySem.W.mg_of X G a3,F_holes.binds fun _ _ _ _ _ _ us hl=>len1_ (fun _=>rfl) us hl⟩
  have F_is_word:=fun_mk (st:=s_is_word) l4 c4 k4
  have D_is_word:Def K mg "is_word" s_is_word ["text"]:=⟨_,_,F_is_word,PySem.W.mg_of X G a4,F_is_word.binds fun _ _ _ _ _ _ us hl=>len1_ (fun _=>rfl) us hl⟩
  have F_refuse_patterns:=fun_mk (st:=s_refuse_patterns) l5 c5 k5
  have D_refuse_patterns:Def K mg "refuse_patterns" s_refuse_patterns ["left", "right"]:=⟨_,_,F_refuse_patterns,PySem.W.mg_of X G a5,F_refuse_patterns.binds fun _ _ _ _ _ _ us hl=>len2_ (fun _ _=>rfl) us hl⟩
  have F_refuse_asks:=fun_mk (st:=s_refuse_asks) l6 c6 k6
  have D_refuse_asks:Def K mg "refuse_asks" s_refuse_asks ["asks", "bound"]:=⟨_,_,F_refuse_asks,PySem.W.mg_of X G a6,F_refuse_asks.binds fun _ _ _ _ _ _ us hl=>len2_ (fun _ _=>rfl) us hl⟩
  have F_rinit:=fun_mk (st:=s_rinit) l7 c7 k7
  have D_init_Rule:DefC K mg "Rule" CU "Rule.__init__" s_rinit ["self", "title", "weight", "left", "right", "asks"]:=⟨_,_,F_rinit,PySem.W.mg_of X G aC_Rule,⟨rMk_Rule,ai_Rule,n7,rKp_Rule⟩,F_rinit.binds fun _ _ _ _ _ _ us hl=>len6_ (fun _ _ _ _ _ _=>rfl) us hl⟩
  have F_cell_at:=fun_mk (st:=s_cell_at) l8 c8 k8
  have D_cell_at:Def K mg "_law_cell_at" s_cell_at ["_law_script", "_law_k"]:=⟨_,_,F_cell_at,PySem.W.mg_of X G a8,F_cell_at.binds fun _ _ _ _ _ _ us hl=>len2_ (fun _ _=>rfl) us hl⟩
  have F_mixed:=fun_mk (st:=s_mixed) l9 c9 k9
  have D_mixed:Def K mg "_law_mixed" s_mixed ["_law_cell", "_law_k"]:=⟨_,_,F_mixed,PySem.W.mg_of X G a9,F_mixed.binds fun _ _ _ _ _ _ us hl=>len2_ (fun _ _=>rfl) us hl⟩
  have F_word:=fun_mk (st:=s_word) l10 c10 k10
  have D_word:Def K mg "_law_word" s_word ["_law_m"]:=⟨_,_,F_word,PySem.W.mg_of X G a10,F_word.binds fun _ _ _ _ _ _ us hl=>len1_ (fun _=>rfl) us hl⟩
  have F_number:=fun_mk (st:=s_number) l11 c11 k11
  have D_number:Def K mg "_law_number" s_number ["_law_cell", "_law_m"]:=⟨_,_,F_number,PySem.W.mg_of X G a11,F_number.binds fun _ _ _ _ _ _ us hl=>len2_ (fun _ _=>rfl) us hl⟩
  have F_pool:=fun_mk (st:=s_pool) l12 c12 k12
  have D_pool:Def K mg "_law_pool" s_pool ["_law_m"]:=⟨_,_,F_pool,PySem.W.mg_of X G a12,F_pool.binds fun _ _ _ _ _ _ us hl=>len1_ (fun _=>rfl) us hl⟩
  have F_same:=fun_mk (st:=s_same) l13 c13 k13
  have D_same:Def K mg "_law_same" s_same ["_law_found", "_law_due"]:=⟨_,_,F_same,PySem.W.mg_of X G a13,F_same.binds fun _ _ _ _ _ _ us hl=>len2_ (fun _ _=>rfl) us hl⟩
  have F_knotted:=fun_mk (st:=s_knotted) l14 c14 k14
  have D_knotted:Def K mg "_law_knotted" s_knotted ["_law_leaves", "_law_many", "_law_m"]:=⟨_,_,F_knotted,PySem.W.mg_of X G a14,F_knotted.binds fun _ _ _ _ _ _ us hl=>len3_ (fun _ _ _=>rfl) us hl⟩
  have F_leaf:=fun_mk (st:=s_leaf) l15 c15 k15
  have D_leaf:Def K mg "_law_leaf" s_leaf ["_law_cell", "_law_m", "_law_words"]:=⟨_,_,F_leaf,PySem.W.mg_of X G a15,F_leaf.binds fun _ _ _ _ _ _ us hl=>len3_ (fun _ _ _=>rfl) us hl⟩
  have F_bad:=fun_mk (st:=s_bad) l16 c16 k16
  have D_bad:Def K mg "_law_bad" s_bad ["_law_m"]:=⟨_,_,F_bad,PySem.W.mg_of X G a16,F_bad.binds fun _ _ _ _ _ _ us hl=>len1_ (fun _=>rfl) us hl⟩
  have F_ask:=fun_mk (st:=s_ask) l17 c17 k17
  have D_ask:Def K mg "_law_ask" s_ask ["_law_m", "_law_bound"]:=⟨_,_,F_ask,PySem.W.mg_of X G a17,F_ask.binds fun _ _ _ _ _ _ us hl=>len2_ (fun _ _=>rfl) us hl⟩
  have F_sides:=fun_mk (st:=s_sides) l18 c18 k18
  have D_sides:Def K mg "_law_sides" s_sides ["_law_script", "_law_way", "_law_pool_here"]:=⟨_,_,F_sides,PySem.W.mg_of X G a18,F_sides.binds fun _ _ _ _ _ _ us hl=>len3_ (fun _ _ _=>rfl) us hl⟩
  have F_right:=fun_mk (st:=s_right) l19 c19 k19
  have D_right:Def K mg "_law_right" s_right ["_law_script", "_law_way", "_law_pool_here", "_law_bound"]:=⟨_,_,F_right,PySem.W.mg_of X G a19,F_right.binds fun _ _ _ _ _ _ us hl=>len4_ (fun _ _ _ _=>rfl) us hl⟩
  have F_asks:=fun_mk (st:=s_asks) l20 c20 k20
  have D_asks:Def K mg "_law_asks" s_asks ["_law_script", "_law_way", "_law_pool_here", "_law_bound"]:=⟨_,_,F_asks,PySem.W.mg_of X G a20,F_asks.binds fun _ _ _ _ _ _ us hl=>len4_ (fun _ _ _ _=>rfl) us hl⟩
  have F_other:=fun_mk (st:=s_other) l21 c21 k21
  have D_other:Def K mg "_law_other" s_other ["_law_e"]:=⟨_,_,F_other,PySem.W.mg_of X G a21,F_other.binds fun _ _ _ _ _ _ us hl=>len1_ (fun _=>rfl) us hl⟩
  have F_kept:=fun_mk (st:=s_kept) l22 c22 k22
  have D_kept:Def K mg "_law_kept" s_kept ["_law_rule", "_law_title", "_law_weight", "_law_left", "_law_right_here", "_law_asks_here"]:=⟨_,_,F_kept,PySem.W.mg_of X G a22,F_kept.binds fun _ _ _ _ _ _ us hl=>len6_ (fun _ _ _ _ _ _=>rfl) us hl⟩
  have F_law:=fun_mk (st:=s_law) l23 c23 k23
  refine ⟨PySem.W.fnOf "law" "law" (defArgs s_law) (defBody s_law) (defScope s_law) .none kV23 dc23 pm23 an23 cd23 ct23,fun s v => .of_eq rfl,fun base _ _ => ?_⟩
  have Z:TopU K mg CU c_NoRule:=⟨cls_Rule,nA_Rule_title,nA_Rule_weight,nA_Rule_left,nA_Rule_right,nA_Rule_asks,g_LETTERS,g_MOST_WEIGHT,g_MOST_RULE_PARTS,g_MOST_LEFT_KNOTS,g_MOST_ASKS,g_MOST_MASK,g_MOST_LETTERS,oNoRule⟩
  have h_cell_at:=ok_cell_at (P:=l.prog) (w:=w) (base:=base) B D_cell_at
  have h_mixed:=ok_mixed (P:=l.prog) (w:=w) (mg:=mg) (base:=base) D_mixed
  have h_word:=ok_word (P:=l.prog) (w:=w) (mg:=mg) (base:=base) D_word
  have h_number:=ok_number (P:=l.prog) (w:=w) (mg:=mg) (base:=base) D_number
  have h_pool:=ok_pool B h_word D_pool
  have h_knotted:=ok_knotted B h_word D_knotted
  have h_leaf:=ok_leaf B h_word h_number D_leaf
  have h_bad:=ok_bad B h_word D_bad
  have h_ask:=ok_ask B h_word D_ask
  have h_sides:=ok_sides B h_cell_at h_mixed h_leaf h_knotted D_sides
  have h_right:=ok_right B h_cell_at h_mixed h_leaf h_knotted D_right
  have h_asks:=ok_asks B h_cell_at h_mixed h_ask h_bad D_asks
  have h_parts:=ok_parts (P:=l.prog) (w:=w) (mg:=mg) (base:=base) D_parts 14
  have h_knots:=ok_knots (P:=l.prog) (w:=w) (mg:=mg) (base:=base) D_knots 14
  have h_note_holes:=ok_note_holes (P:=l.prog) (w:=w) (mg:=mg) (base:=base) D_note_holes 14
  have h_holes:=ok_holes B h_note_holes D_holes
  have h_is_word:=ok_is_word (P:=l.prog) (w:=w) (base:=base) B Z D_is_word
  have h_refuse_patterns:=ok_refuse_patterns B Z h_parts h_knots h_holes D_refuse_patterns
  have h_refuse_asks:=ok_refuse_asks B Z h_is_word D_refuse_asks
  have h_init_Rule:=ok_rinit B Z h_is_word h_refuse_patterns h_refuse_asks h_holes D_init_Rule
  have h_same:=ok_same (P:=l.prog) (w:=w) (base:=base) B D_same 14
  have h_other:=ok_other (P:=l.prog) (w:=w) (base:=base) B oNoRule Y D_other
  have h_kept:=ok_kept B Z h_same D_kept
  exact ok_law B oNoRule Y h_cell_at h_mixed h_pool h_word h_bad h_sides h_right h_asks h_init_Rule h_other h_kept F_law
theorem walk {l:PySem.W.OpenLaw} {q:Program} {loose:List Str} {XP:(Str→Option Value)→Heap→Prop} {YP:World→Heap→Prop} {d:DefRec} {K:Params→PySem.W.Frag} (hn:l.most=some 63) (hdf:d.params.defaults = [])
    (hY:∀ (w:World) (h:Heap),YP w h→(K w.params).In h)
    (F:∀ (w:World) (mg:Str→Option Value) (fa:Addr) (h:Heap),(K w.params).In h→h.Ns mainGlobals mg→mg d.name=some (.ref fa) →
      ∃ fd:FuncData,(∀ (s:Shared) (u:Value),BindsTo s fd ⟨[u], []⟩ [("_law_script",u)])∧∀ base:Heap,(K w.params).In base→base.Ns mainGlobals mg→FnOk l.prog w (K w.params) mg base CX0 19 fa fd ["_law_script"] (spLaw (K w.params))) :
    PySem.W.WalkO q loose XP YP l.row.toRowW d [] (fun f vs=>PySem.call f vs) :=
  L2.walk_ofB (n:=63) (k:=19) (x := "_law_script") (CX:=fun _=>CX0) (sp:=fun w=>spLaw (K w.params)) hn (by decide) hdf ⟨rfl,by decide,by decide⟩ hY F (fun _ _ a ns hl hb hS=>⟨a,ns,rfl,hS,hl,hb,fun _=>rfl⟩) fun _ _ _ _ _ z=>z
end K41
open PySem PySem.W PyProof.Rows
set_option maxRecDepth 100000 in
set_option maxHeartbeats 0 in
theorem PySem.Challenge.cw_samewise_k41_rules_taken_holds : PySem.Challenge.rw_samewise_k41_rules_taken.Holds := by
  refine KHd.top ?_
  k_fill
  refine K41.walk (l:=PySem.Challenge.rw_samewise_k41_rules_taken) rfl rfl (fun w h Y=>PySem.W.kIn_of Y) ?F
  case F =>
    intro w mg fa h KX G hmg
    refine' K41.all_mk KX G hmg ?aC_Rule ?a0 ?l0 ?c0 ?k0 ?a1 ?l1 ?c1 ?k1 ?a2 ?l2 ?c2 ?k2 ?a3 ?l3 ?c3 ?k3 ?a4 ?l4 ?c4 ?k4 ?a5 ?l5 ?c5 ?k5 ?a6 ?l6 ?c6 ?k6 ?ai_Rule ?l7 ?c7 ?k7 ?n7 ?a8 ?l8 ?c8 ?k8 ?a9 ?l9 ?c9 ?k9 ?a10 ?l10 ?c10 ?k10 ?a11 ?l11 ?c11 ?k11 ?a12 ?l12 ?c12 ?k12 ?a13 ?l13 ?c13 ?k13 ?a14 ?l14 ?c14 ?k14 ?a15 ?l15 ?c15 ?k15 ?a16 ?l16 ?c16 ?k16 ?a17 ?l17 ?c17 ?k17 ?a18 ?l18 ?c18 ?k18 ?a19 ?l19 ?c19 ?k19 ?a20 ?l20 ?c20 ?k20 ?a21 ?l21 ?c21 ?k21 ?a22 ?l22 ?c22 ?k22 ?a23 ?l23 ?c23 ?k23 ?rMk_Rule ?rKp_Rule ?rPg_Rule ?rHd_Rule ?rPo_Rule ?rSa_Rule ?nA_Rule_title ?nA_Rule_weight ?nA_Rule_left ?nA_Rule_right ?nA_Rule_asks ?gs_LETTERS ?gi_MOST_WEIGHT ?gi_MOST_RULE_PARTS ?gi_MOST_LEFT_KNOTS ?gi_MOST_ASKS ?gi_MOST_MASK ?gi_MOST_LETTERS ?x_NoRule ?xEx_NoRule ?x_NoTree ?x_NoRow ?x_Full ?x_Apart ?x_TooBig ?x_TooWide ?x_SameError ?xCl ?xGa ?xGn ?iVE ?i_NoRule ?i_ValueError ?i_NoTree ?i_NoRow ?i_Full ?i_Apart ?i_TooBig ?i_TooWide ?m_SameError ?z0 ?z1 ?z2 ?z3 ?z4 ?z5 ?z6 ?z7 ?z8 ?z9 ?z10 ?z11
    (case aC_Rule=>k_is)
    (case a0=>k_is)
    (case l0=>k_is)
    (case c0=>k_is)
    (case k0=>k_is)
    (case a1=>k_is)
    (case l1=>k_is)
    (case c1=>k_is)
    (case k1=>k_is)
    (case a2=>k_is)
    (case l2=>k_is)
    (case c2=>k_is)
    (case k2=>k_is)
    (case a3=>k_is)
    (case l3=>k_is)
    (case c3=>k_is)
    (case k3=>k_is)
    (case a4=>k_is)
    (case l4=>k_is)
    (case c4=>k_is)
    (case k4=>k_is)
    (case a5=>k_is)
    (case l5=>k_is)
    (case c5=>k_is)
    (case k5=>k_is)
    (case a6=>k_is)
    (case l6=>k_is)
    (case c6=>k_is)
    (case k6=>k_is)
    (case ai_Rule=>k_is)
    (case l7=>k_is)
    (case c7=>k_is)
    (case k7=>k_is)
    (case n7=>k_is)
    (case a8=>k_is)
    (case l8=>k_is)
    (case c8=>k_is)
    (case k8=>k_is)
    (case a9=>k_is)
    (case l9=>k_is)
    (case c9=>k_is)
    (case k9=>k_is)
    (case a10=>k_is)
    (case l10=>k_is)
    (case c10=>k_is)
    (case k10=>k_is)
    (case a11=>k_is)
    (case l11=>k_is)
    (case c11=>k_is)
    (case k11=>k_is)
    (case a12=>k_is)
    (case l12=>k_is)
    (case c12=>k_is)
    (case k12=>k_is)
    (case a13=>k_is)
    (case l13=>k_is)
    (case c13=>k_is)
    (case k13=>k_is)
    (case a14=>k_is)
    (case l14=>k_is)
    (case c14=>k_is)
    (case k14=>k_is)
    (case a15=>k_is)
    (case l15=>k_is)
    (case c15=>k_is)
    (case k15=>k_is)
    (case a16=>k_is)
    (case l16=>k_is)
    (case c16=>k_is)
    (case k16=>k_is)
    (case a17=>k_is)
    (case l17=>k_is)
    (case c17=>k_is)
    (case k17=>k_is)
    (case a18=>k_is)
    (case l18=>k_is)
    (case c18=>k_is)
    (case k18=>k_is)
    (case a19=>k_is)
    (case l19=>k_is)
    (case c19=>k_is)
    (case k19=>k_is)
    (case a20=>k_is)
    (case l20=>k_is)
    (case c20=>k_is)
    (case k20=>k_is)
    (case a21=>k_is)
    (case l21=>k_is)
    (case c21=>k_is)
    (case k21=>k_is)
    (case a22=>k_is)
    (case l22=>k_is)
    (case c22=>k_is)
    (case k22=>k_is)
    (case a23=>k_is)
    (case l23=>k_is)
    (case c23=>k_is)
    (case k23=>k_is)
    (case rMk_Rule=>k_is)
    (case rKp_Rule=>k_is)
    (case rPg_Rule=>k_is)
    (case rHd_Rule=>k_is)
    (case rPo_Rule=>k_is)
    (case rSa_Rule=>k_is)
    (case nA_Rule_title=>k_is)
    (case nA_Rule_weight=>k_is)
    (case nA_Rule_left=>k_is)
    (case nA_Rule_right=>k_is)
    (case nA_Rule_asks=>k_is)
    (case gs_LETTERS=>k_is)
    (case gi_MOST_WEIGHT=>k_is)
    (case gi_MOST_RULE_PARTS=>k_is)
    (case gi_MOST_LEFT_KNOTS=>k_is)
    (case gi_MOST_ASKS=>k_is)
    (case gi_MOST_MASK=>k_is)
    (case gi_MOST_LETTERS=>k_is)
    (case x_NoRule=>k_is)
    (case xEx_NoRule=>k_exc)
    (case x_NoTree=>k_is)
    (case x_NoRow=>k_is)
    (case x_Full=>k_is)
    (case x_Apart=>k_is)
    (case x_TooBig=>k_is)
    (case x_TooWide=>k_is)
    (case x_SameError=>k_is)
    (case xCl=>k_is)
    (case xGa=>k_is)
    (case xGn=>k_is)
    (case iVE=>k_is)
    (case i_NoRule=>kit_is)
    (case i_ValueError=>kit_is)
    (case i_NoTree=>kit_is)
    (case i_NoRow=>kit_is)
    (case i_Full=>kit_is)
    (case i_Apart=>kit_is)
    (case i_TooBig=>kit_is)
    (case i_TooWide=>kit_is)
    (case m_SameError=>kts_exm)
    (case z0=>k_is)
    (case z1=>k_is)
    (case z2=>k_is)
    (case z3=>k_is)
    (case z4=>k_is)
    (case z5=>k_is)
    (case z6=>k_is)
    (case z7=>k_is)
    (case z8=>k_is)
    (case z9=>k_is)
    (case z10=>k_is)
    (case z11=>k_is)
#print axioms PySem.Challenge.cw_samewise_k41_rules_taken_holds
