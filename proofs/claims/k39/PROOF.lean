import PyProof.Rows.All
import Wide.All
import OpenK.AllK
import Wide.FinOn
import Lean
import PyProof.EqAt
import PyProof.EqKinds
import PyProof.TupleCall
import KE.KTryMore
import KE.KIntText
import KE.RegKTryMore
import PySem.Challenge.RW_samewise_k39_whole_facts_by_any_order
set_option Elab.async false
set_option linter.all false
namespace KHd
open PySem PySem.W PySem.Calls PyProof.Rows
noncomputable def pickL {α : Type} (l:List α) (is:List Nat):List α := is.filterMap fun i=>l[i]?
noncomputable def prg:Program:=PySem.Challenge.pw_samewise_k39_whole_facts_by_any_order
noncomputable def view:Program := { prg with main := { prg.main with body:=pickL prg.main.body [0,2,3,4,5,6,8,9,10,12,13,14,15,16,17,18,19,20,21,22,23,24,25,26,27,29,30,31,32,33,34,35,36,37] } }
local macro_rules | `(tactic| o_head $H) => `(tactic| (refine holds_open (q:=view) (loose := []) (Xt:=fun s=>xlAt view [] s && recOk (RowW.records PySem.Challenge.rw_samewise_k39_whole_facts_by_any_order.row.toRowW) s) (XP:=XL view []) (Yf:=Hook.obs $H) (Ya:=Hook.val $H) (YP:=Hook.says $H) (N:=3774) ?hl (Hook.of $H) (Hook.keeps $H) (fun s e=>xl_of s (Bool.and_eq_true_iff.mp e).1) XL.keeps (by rfl) (by rfl) (by rfl) (fun s e=>recFacts_of (Bool.and_eq_true_iff.mp e).2) (by rfl) (by first | assumption | decide +kernel) (by decide +kernel) ⟨rfl,rfl,rfl,rfl,rfl,by decide +kernel⟩ ?hw ?hc;case hl=>(intro w;kernel_rfl)))
set_option maxRecDepth 100000 in
set_option maxHeartbeats 0 in
open_top top for PySem.Challenge.rw_samewise_k39_whole_facts_by_any_order
end KHd
set_option Elab.async false
set_option linter.all false
set_option maxRecDepth 100000
set_option maxHeartbeats 4000000
namespace L2
open PySem PySem.Spec PyProof.Rows

noncomputable abbrev Key:=Sum Int Str
noncomputable def keyIs:Key→Value→Bool
  | .inl k,v=>Value.isInt k v
  | .inr x,v=>Value.isStrOf x v
noncomputable def keyH (w:World):Key→Int
  | .inl k=>hashInt k
  | .inr x=>hashStr w x
theorem keyIs_shape:∀ {k:Key} {v:Value},keyIs k v=true→(∃ i t,k=Sum.inl i∧v=Value.int i t)∨(∃ x t,k=Sum.inr x∧v=Value.str x t)
  | .inl i,v,h=>by
    obtain ⟨t,e⟩:=Value.isInt_shape (k:=i) (v:=v) h
    exact .inl ⟨i,t,rfl,e⟩
  | .inr x,v,h=>by
    obtain ⟨t,e⟩:=Value.isStrOf_shape (x:=x) (v:=v) h
    exact .inr ⟨x,t,rfl,e⟩
theorem keyIs_int (i:Int) (t:Tok):keyIs (.inl i) (.int i t)=true:=by simp [keyIs,Value.isInt]
theorem keyIs_str (x:Str) (t:Tok):keyIs (.inr x) (.str x t)=true:=by simp [keyIs,Value.isStrOf]
theorem key_ll (a b:Int):decide ((Sum.inl a:Key)=Sum.inl b)=(a == b):=by
  by_cases e:a=b
  · subst e;simp
  · have h:¬ (Sum.inl a:Key)=Sum.inl b:=fun q=>e (Sum.inl.inj q)
    rw [decide_eq_false h]
    exact (beq_eq_false_iff_ne.mpr e).symm
theorem key_rr (a b:Str):decide ((Sum.inr a:Key)=Sum.inr b)=decide (a=b):=by
  by_cases e:a=b
  · subst e;simp
  · have h:¬ (Sum.inr a:Key)=Sum.inr b:=fun q=>e (Sum.inr.inj q)
    rw [decide_eq_false h,decide_eq_false e]
theorem key_lr (a:Int) (b:Str):decide ((Sum.inl a:Key)=Sum.inr b)=false:=decide_eq_false (fun q=>nomatch q)
theorem key_rl (a:Str) (b:Int):decide ((Sum.inr a:Key)=Sum.inl b)=false:=decide_eq_false (fun q=>nomatch q)

noncomputable def mixKind (prog:Program) (w:World):PySem.KeyKind prog w Key where
  is:=keyIs
  hash:=keyH w
  inj:=fun v a b ha hb=>by
    rcases keyIs_shape ha with ⟨i,t,rfl,rfl⟩ | ⟨x,t,rfl,rfl⟩
    · rcases keyIs_shape hb with ⟨j,u,rfl,e⟩ | ⟨y,u,rfl,e⟩
      · injection e with e1 _;rw [e1]
      · exact nomatch e
    · rcases keyIs_shape hb with ⟨j,u,rfl,e⟩ | ⟨y,u,rfl,e⟩
      · exact nomatch e
      · injection e with e1 _;rw [e1]
  byValue:=fun k v h=>by
    rcases keyIs_shape h with ⟨i,t,rfl,rfl⟩ | ⟨x,t,rfl,rfl⟩ <;> rfl
  pyHash:=fun hv h=>by
    rcases keyIs_shape hv with ⟨i,t,rfl,rfl⟩ | ⟨x,t,rfl,rfl⟩
    · exact wpAny_pyHash_int h
    · exact wpAny_pyHash_str h
  eqBool:=fun hu hv h=>by
    rcases keyIs_shape hu with ⟨i,t,rfl,rfl⟩ | ⟨x,t,rfl,rfl⟩
    · rcases keyIs_shape hv with ⟨j,u,rfl,rfl⟩ | ⟨y,u,rfl,rfl⟩
      · rw [key_ll] at h;exact wpAny_eqBool_int h
      · rw [key_lr] at h;exact SeqAt.EqAt.int_str i t y u _ _ _ _ h
    · rcases keyIs_shape hv with ⟨j,u,rfl,rfl⟩ | ⟨y,u,rfl,rfl⟩
      · rw [key_rl] at h;exact SeqAt.EqAt.str_int x t j u _ _ _ _ h
      · rw [key_rr] at h;exact wpAny_eqBool_str h
  «strs» := fun k x t v h=>by
    rcases keyIs_shape h with ⟨i,u,rfl,e⟩ | ⟨y,u,rfl,e⟩
    · exact nomatch e
    · injection e with e1 _
      subst e1
      cases v <;> rfl

theorem mixKind_int (prog:Program) (w:World) (i:Int) (t:Tok):(mixKind prog w).is (.inl i) (.int i t)=true:=keyIs_int i t
theorem mixKind_str (prog:Program) (w:World) (x:Str) (t:Tok):(mixKind prog w).is (.inr x) (.str x t)=true:=keyIs_str x t
end L2

namespace L2
open PySem PySem.Spec PyProof.Rows

inductive V where
  | non | bl (b:Bool) | int (i:Int) | str (x:Str) | byt (b:Array UInt8) | flt (b:UInt64) | ref (a:Addr) | ty (n:String)
  deriving DecidableEq

noncomputable def RelV:V→Value→Prop
  | .non,u=>u=Value.none
  | .bl b,u=>u=Value.bool b
  | .int i,u=>∃ t,u=Value.int i t
  | .str x,u=>∃ t,u=Value.str x t
  | .byt b,u=>∃ t,u=Value.bytes b t
  | .flt b,u=>∃ t,u=Value.float b t
  | .ref a,u=>u=Value.ref a
  | .ty n,u=>u=Value.type n

noncomputable abbrev Vals:List V→List Value→Prop:=Paired RelV
theorem Vals.length {xs:List V} {us:List Value} (r:Vals xs us):xs.length=us.length:=Paired.length r
theorem Vals.get:∀ {xs:List V} {us:List Value} {i:Nat} {x:V},Vals xs us→xs[i]? = some x→∃ u,us[i]? = some u∧RelV x u
  | _,_,_,_,.nil,e=>by simp at e
  | _,_,0,_,.cons r _,e=>by simp at e;subst e;exact ⟨_,rfl,r⟩
  | _,_,i+1,x,.cons _ t,e=>by
    obtain ⟨u,h1,h2⟩:=Vals.get (i:=i) (x:=x) t (by simpa using e)
    exact ⟨u,by simpa using h1,h2⟩
theorem Vals.set {x:V} {u:Value} (r:RelV x u):∀ {xs:List V} {us:List Value} (i:Nat),Vals xs us→Vals (xs.set i x) (us.set i u)
  | _,_,_,.nil => .nil
  | _,_,0,.cons _ t => .cons r t
  | _,_,i+1,.cons q t => .cons q (Vals.set r i t)
theorem Vals.append:∀ {xs ys:List V} {us ws:List Value},Vals xs us→Vals ys ws→Vals (xs ++ ys) (us ++ ws)
  | _,_,_,_,.nil,s=>s
  | _,_,_,_,.cons r t,s => .cons r (Vals.append t s)
theorem Vals.take:∀ {xs:List V} {us:List Value} (n:Nat),Vals xs us→Vals (xs.take n) (us.take n)
  | _,_,0,_ => .nil
  | _,_,_+1,.nil => .nil
  | _,_,n+1,.cons r t => .cons r (Vals.take n t)
theorem Vals.drop:∀ {xs:List V} {us:List Value} (n:Nat),Vals xs us→Vals (xs.drop n) (us.drop n)
  | _,_,0,r=>r
  | _,_,_+1,.nil => .nil
  | _,_,n+1,.cons _ t=>Vals.drop n t

noncomputable def RelO:Option V→Option Value→Prop
  | some v,some u=>RelV v u
  | none,none=>True
  | _,_=>False
noncomputable def KV {κ : Type}:List (κ × V)→List (κ × Value)→Prop:=Paired fun (p : κ × V) (q : κ × Value)=>p.1=q.1∧RelV p.2 q.2

noncomputable def kV:Key→V
  | .inl i => .int i
  | .inr x => .str x

inductive HO where
    | lst (xs:List V)
    | tup (xs:List V)
    | dK (kvs:List (Key × V)) | dT (kvs:List (List Key × V))
    | set (S:Int→Bool) (n:Nat)
    | ins (C dx:Addr) (fs:List (Str × V))
    | own (x:Addr)
    | xd (fs:List (Str × V))
    | met (f x:Addr)
    | rng (lo hi:Int)
    | frz (o:Obj) (u:HO)
    | tbl (ps:Array Value)
    | ext (φ : Heap→Prop)

noncomputable abbrev Hp:=Addr→Option HO
noncomputable def upd (H:Hp) (a:Addr) (o:HO):Hp:=fun b=>if b=a then some o else H b
theorem upd_same {H:Hp} {a:Addr} {o:HO}:upd H a o a=some o:=by unfold upd;rw [if_pos rfl]
theorem upd_ne {H:Hp} {a b:Addr} {o:HO} (h:b≠a):upd H a o b=H b:=by unfold upd;rw [if_neg h]
theorem upd_upd {H:Hp} {a:Addr} {o u:HO}:upd (upd H a o) a u=upd H a u:=by
  funext b;unfold upd;split <;> rfl
theorem ne_of {H:Hp} {a b:Addr} {o u:HO} (h:H a=some o) (h':H b=some u) (d:o≠u):a≠b:=by
  intro e;subst e;rw [h] at h';exact d (Option.some.inj h')
theorem ne_of_none {H:Hp} {a b:Addr} {o:HO} (h:H a=some o) (h':H b=none):a≠b:=by
  intro e;subst e;rw [h] at h';cases h'

noncomputable def IsTupN (h:Heap) (a:Addr) (items:Array Value):Prop := ∃ o,h.get? a=some o∧o.cls = .type "tuple" ∧ ∃ n,o.data = .seq items n∧o.dict=none
theorem IsTupN.tup {h:Heap} {a:Addr} {items:Array Value} (x:IsTupN h a items):IsTup h a items:=let ⟨o,e,c,n,d,_⟩:=x; ⟨o,e,c,n,d⟩
theorem IsTupN.new (h:Heap) (items:Array Value):IsTupN (h.push { cls := .type "tuple",data := .seq items }) h.objs.size items:=⟨_,Heap.get?_push_size _ rfl,rfl,_,rfl,rfl⟩
section
variable (P:Program) (w:World)
noncomputable def ObjOk (H:Hp) (h:Heap) (a:Addr):HO→Prop
  | .lst xs=>xs.length≤sizeLine∧∃ (its:List Value) (n:Nat),Vals xs its∧h.get? a=some { cls := .type "list",data := .seq its.toArray n }
  | .tup xs=>xs.length≤sizeLine∧∃ its:List Value,Vals xs its∧IsTupN h a its.toArray
  | .dK kvs=>kvs.length≤sizeLine∧(a == sysModules)=false∧∃ vs,KV kvs vs∧h.DictOf (mixKind P w) a vs
  | .dT kvs=>kvs.length≤sizeLine∧(a == sysModules)=false∧∃ xs:List (List Key × Addr × Value),
      Paired (fun (p:List Key × V) (q:List Key × Addr × Value)=>p.1=q.1∧H q.2.1=some (.tup (p.1.map kV))∧RelV p.2 q.2.2) kvs xs ∧
      ∃ o es ep,h.get? a=some o∧o.ExactDict∧o.data = .dict es ep∧es.toList=xs.map (entryOfKey (tupleKind (mixKind P w)))∧(xs.map (·.1)).Nodup
  | .set S n=>h.SetOf (intKind P w) a S n
  | .ins C dx fs=>H dx=some (.own a)∧fs.length≤1000∧dx≠a∧h.get? a=some (PySem.W.instObj C dx) ∧
      ∃ mA,h.Ns1 dx mA∧(∀ f,RelO (fs.lookup f) (mA f))∧PySem.Within mA (fs.map (·.1))
  | .own _=>∃ o,h.get? a=some o
  | .xd fs=>∃ mA,h.Ns1 a mA∧∀ f,RelO (fs.lookup f) (mA f)
  | .rng lo hi=>∃ t u v,h.get? a=some { cls := .type "range",data := .fields #[.int lo t,.int hi u,.int 1 v] }
  | .frz o u=>h.get? a=some o∧ObjOk H h a u
  | .tbl ps=>h.get? a=some { cls := .none,data := .fields ps }
  | .met f x=>h.get? a=some (PySem.W.methodObj (.ref f) (.ref x))
  | .ext φ => φ h∧(∃ o,h.get? a=some o)∧∀ h1 h2:Heap, φ h1→(∀ o,h1.get? a=some o→h2.get? a=some o) → φ h2
noncomputable def HOk (H:Hp) (h:Heap):Prop := ∀ a o,H a=some o→ObjOk P w H h a o
end

section
variable {P:Program} {w:World} {H H':Hp} {h h':Heap} {a:Addr} {o:HO}
theorem ObjOk.lt (x:ObjOk P w H h a o):a < h.objs.size:=by
  cases o with
  | lst xs=>obtain ⟨_,_,_,_,e⟩:=x;exact Heap.lt_size e
  | tup xs=>obtain ⟨_,_,_,p⟩:=x;exact p.tup.lt
  | dK kvs=>obtain ⟨_,_,_,_,o,_,_,e,_⟩:=x;exact Heap.lt_size e
  | dT kvs=>obtain ⟨_,_,_,_,o,_,_,e,_⟩:=x;exact Heap.lt_size e
  | set S n=>obtain ⟨o,_,_,_,e,_⟩:=x;exact Heap.lt_size e
  | ins C dx fs=>obtain ⟨_,_,_,e,_⟩:=x;exact Heap.lt_size e
  | own y=>obtain ⟨_,e⟩:=x;exact Heap.lt_size e
  | xd fs=>obtain ⟨_,⟨_,_,_,e,_⟩,_⟩:=x;exact Heap.lt_size e
  | rng lo hi=>obtain ⟨_,_,_,e⟩:=x;exact Heap.lt_size e
  | frz ob u=>obtain ⟨e,_⟩:=x;exact Heap.lt_size e
  | tbl ps=>exact Heap.lt_size (show h.get? a=some _ from x)
  | met f y=>exact Heap.lt_size (show h.get? a=some _ from x)
  | ext φ => obtain ⟨_,⟨_,e⟩,_⟩:=x;exact Heap.lt_size e
theorem Paired.mapP {α β : Type} {F G : α → β → Prop}:∀ {l₁ : List α} {l₂ : List β},Paired F l₁ l₂ → (∀ a b,F a b→G a b)→Paired G l₁ l₂
  | _,_,.nil,_ => .nil
  | _,_,.cons r t,f => .cons (f _ _ r) (Paired.mapP t f)
theorem ObjOk.stay (x:ObjOk P w H h a o) (k:∀ b u,(b=a∨H b=some (.own a))→h.get? b=some u→h'.get? b=some u)
    (ho:∀ b,H b=some (.own a)→H' b=some (.own a)) (ht:∀ b xs,H b=some (.tup xs)→H' b=some (.tup xs)):ObjOk P w H' h' a o:=by
  induction o with
  | lst xs=>obtain ⟨z,its,n,r,e⟩:=x;exact ⟨z,its,n,r,k _ _ (.inl rfl) e⟩
  | tup xs=>obtain ⟨z,its,r,ob,e,c⟩:=x;exact ⟨z,its,r,ob,k _ _ (.inl rfl) e,c⟩
  | dK kvs=>obtain ⟨z,y,vs,r,ob,es,ep,e,c⟩:=x;exact ⟨z,y,vs,r,ob,es,ep,k _ _ (.inl rfl) e,c⟩
  | dT kvs =>
    obtain ⟨z,y,xs,r,ob,es,ep,e,c⟩:=x
    exact ⟨z,y,xs,Paired.mapP r fun p q z=>⟨z.1,ht _ _ z.2.1,z.2.2⟩,ob,es,ep,k _ _ (.inl rfl) e,c⟩
  | set S n=>obtain ⟨ob,es,ep,t,e,c⟩:=x;exact ⟨ob,es,ep,t,k _ _ (.inl rfl) e,c⟩
  | ins C dx fs =>
    obtain ⟨d,z,ne,e,mA,⟨od,es,ep,e2,c⟩,r⟩:=x
    exact ⟨ho _ d,z,ne,k _ _ (.inl rfl) e,mA,⟨od,es,ep,k _ _ (.inr d) e2,c⟩,r⟩
  | own y=>obtain ⟨ob,e⟩:=x;exact ⟨ob,k _ _ (.inl rfl) e⟩
  | xd fs=>obtain ⟨mA,⟨od,es,ep,e,c⟩,r⟩:=x;exact ⟨mA,⟨od,es,ep,k _ _ (.inl rfl) e,c⟩,r⟩
  | rng lo hi=>obtain ⟨t,u,v,e⟩:=x;exact ⟨t,u,v,k _ _ (.inl rfl) e⟩
  | frz ob u ih=>obtain ⟨e,q⟩:=x;exact ⟨k _ _ (.inl rfl) e,ih q⟩
  | tbl ps =>
    have e:h.get? a=some { cls := .none,data := .fields ps }:=x
    show h'.get? a=some { cls := .none,data := .fields ps }
    exact k a _ (.inl rfl) e
  | met f y =>
    have e:h.get? a=some (PySem.W.methodObj (.ref f) (.ref y)):=x
    show h'.get? a=some (PySem.W.methodObj (.ref f) (.ref y))
    exact k a _ (.inl rfl) e
  | ext φ => obtain ⟨p,⟨o,e⟩,st⟩:=x;exact ⟨st _ _ p fun o q=>k _ _ (.inl rfl) q,⟨o,k _ _ (.inl rfl) e⟩,st⟩
theorem HOk.lt (x:HOk P w H h) (e:H a=some o):a < h.objs.size:=(x a o e).lt
theorem HOk.fresh (x:HOk P w H h) (e:h.objs.size≤a):H a=none:=by
  cases q:H a with
  | none=>rfl
  | some u=>exact absurd (Nat.lt_of_lt_of_le (x.lt q) e) (Nat.lt_irrefl _)
theorem HOk.kept (x:HOk P w H h) (k:∀ b u,h.get? b=some u→h'.get? b=some u):HOk P w H h':=fun a o e =>
  (x a o e).stay (fun b u _ q=>k b u q) (fun _ q=>q) fun _ _ q=>q
theorem HOk.laid (x:HOk P w H h) (k:∀ b u,h.get? b=some u→h'.get? b=some u) (hp:h.objs.size≤a) (new:ObjOk P w (upd H a o) h' a o):HOk P w (upd H a o) h':=fun b u e=>by
  have hn:=x.fresh hp
  by_cases hb:b=a
  · subst hb;rw [upd_same] at e;cases e;exact new
  · rw [upd_ne hb] at e
    exact (x b u e).stay (fun c v _ q=>k c v q) (fun c q=>by rw [upd_ne (ne_of_none q hn)];exact q) fun c xs q=>by rw [upd_ne (ne_of_none q hn)];exact q
end

noncomputable def Rd (H:Hp) (a:Addr) (u:HO):Prop:=H a=some u∨∃ o,H a=some (.frz o u)
theorem Rd.ok {P:Program} {w:World} {H:Hp} {h:Heap} {a:Addr} {u:HO} (r:Rd H a u) (x:HOk P w H h):ObjOk P w H h a u:=by
  rcases r with r | ⟨o,r⟩
  · exact x a u r
  · obtain ⟨_,q⟩:=x a _ r
    exact q
noncomputable def Mut:Option HO→Prop
  | some (.lst _)=>True
  | some (.dK _)=>True
  | some (.dT _)=>True
  | some (.set _ _)=>True
  | some (.ins _ _ _)=>True
  | some (.ext _)=>True
  | _=>False
section
variable {P:Program} {w:World} {H:Hp} {h h':Heap} {x e:Addr} {o':HO}
theorem HOk.write (ok:HOk P w H h) (mu:Mut (H x)) (he:e=x∨H e=some (.own x)) (k:∀ b u,b≠e→h.get? b=some u→h'.get? b=some u) (heo:∃ u,h'.get? e=some u)
    (new:ObjOk P w (upd H x o') h' x o'):HOk P w (upd H x o') h':=fun b u q=>by
  have nown:∀ c y,H c=some (.own y)→c≠x:=fun c y r z=>by subst z;rw [r] at mu;exact mu
  have ntup:∀ c xs,H c=some (.tup xs)→c≠x:=fun c xs r z=>by subst z;rw [r] at mu;exact mu
  by_cases hb:b=x
  · subst hb;rw [upd_same] at q;cases q;exact new
  · rw [upd_ne hb] at q
    by_cases hbe:b=e
    · have q':H b=some (.own x):=by
        rcases he with z | z
        · exact absurd (hbe.trans z) hb
        · rw [hbe];exact z
      rw [q] at q';cases q'
      obtain ⟨v,hv⟩:=heo
      exact ⟨v,by rw [hbe];exact hv⟩
    · refine (ok b u q).stay (fun c v hc r=>k c v ?_ r) (fun c r=>by rw [upd_ne (nown c b r)];exact r) fun c xs r=>by rw [upd_ne (ntup c xs r)];exact r
      rcases hc with rfl | hc
      · exact hbe
      · rintro rfl
        rcases he with z | z
        · exact nown c b hc z
        · rw [hc] at z;cases z;exact hb rfl
end

structure Un (fs ex:List Addr) (H H':Hp) (h h':Heap):Prop where
  keep:∀ b o,h.get? b=some o→H b=none→b ∉ fs→b ∉ ex→h'.get? b=some o
  slot:∀ b o,h.get? b=some o→H b=none→b∈fs→b ∉ ex→∃ sl,h'.get? b=some { o with slots:=sl }
  free:∀ b o,h.get? b=some o→H b=none→b ∉ ex→H' b=none
  there:∀ b o,h.get? b=some o→b ∉ ex→∃ o',h'.get? b=some o'
  tups:∀ b xs,H b=some (.tup xs)→H' b=some (.tup xs)
  frzs:∀ b o u,H b=some (.frz o u)→H' b=some (.frz o u)
  tbls:∀ b ps,H b=some (.tbl ps)→∃ more,H' b=some (.tbl (ps ++ more))
section
variable {fs fs' ex ex':List Addr} {H H1 H2:Hp} {h h1 h2 h':Heap} {a x e:Addr} {o:HO}
theorem Un.any (u:Un fs ex H H1 h h1) {b:Addr} {ob:Obj} (q:h.get? b=some ob) (n:H b=none) (hx:b ∉ ex):∃ sl,h1.get? b=some { ob with slots:=sl }:=by
  by_cases hb:b∈fs
  · exact u.slot b ob q n hb hx
  · exact ⟨ob.slots,u.keep b ob q n hb hx⟩
theorem Un.kept (k:∀ b u,h.get? b=some u→h'.get? b=some u):Un fs ex H H h h' :=
  ⟨fun b ob q _ _ _=>k b ob q,fun b ob q _ _ _=>⟨ob.slots,k b ob q⟩,fun _ _ _ n _=>n,fun b ob q _=>⟨ob,k b ob q⟩,fun _ _ q=>q,fun _ _ _ q=>q,fun _ ps q=>⟨#[],by rw [q];simp⟩⟩
theorem Un.refl:Un fs ex H H h h:=Un.kept fun _ _ q=>q
theorem Un.laid (k:∀ b u,h.get? b=some u→h'.get? b=some u) (hp:h.objs.size≤a) (hn:H a=none):Un fs ex H (upd H a o) h h' where
  keep:=fun b u q _ _ _=>k b u q
  slot:=fun b u q _ _ _=>⟨u.slots,k b u q⟩
  free:=fun b u q n _=>by rw [upd_ne (Nat.ne_of_lt (Nat.lt_of_lt_of_le (Heap.lt_size q) hp))];exact n
  there:=fun b u q _=>⟨u,k b u q⟩
  tups:=fun b xs q=>by rw [upd_ne (ne_of_none q hn)];exact q
  frzs:=fun b u xs q=>by rw [upd_ne (ne_of_none q hn)];exact q
  tbls:=fun b ps q=>⟨#[],by rw [upd_ne (ne_of_none q hn),q];simp⟩
theorem Un.write (mu:Mut (H x)) (he:e=x∨H e=some (.own x)) (k:∀ b u,b≠e→h.get? b=some u→h'.get? b=some u) (heo:∃ u,h'.get? e=some u):Un fs ex H (upd H x o) h h':=by
  have hx:∀ b,H b=none→b≠x:=fun b n z=>by subst z;rw [n] at mu;exact mu
  have hb:∀ b,H b=none→b≠e:=fun b n z=>by
    subst z
    rcases he with r | r
    · exact hx b n r
    · rw [n] at r;cases r
  have hm:∀ b u,H b=some u→¬ Mut (some u)→b≠x:=fun b u q nm z=>by subst z;rw [q] at mu;exact nm mu
  refine ⟨fun b u q n _ _=>k b u (hb b n) q,fun b u q n _ _=>⟨u.slots,k b u (hb b n) q⟩,fun b u q n _=>by rw [upd_ne (hx b n)];exact n,fun b u q _ => ?_,
    fun b xs q=>by rw [upd_ne (hm b _ q fun z=>z)];exact q,fun b u xs q=>by rw [upd_ne (hm b _ q fun z=>z)];exact q,fun b ps q=>⟨#[],by rw [upd_ne (hm b _ q fun z=>z),q];simp⟩⟩
  by_cases hbe:b=e
  · subst hbe;exact heo
  · exact ⟨u,k b u hbe q⟩
end

noncomputable def trk (h:Heap) (H:Hp):List Addr:=(List.range h.objs.size).filter fun a=>(H a).isSome
noncomputable def hidT (h:Heap) (H:Hp):Heap:=PySem.W.hideAll h (trk h H)
theorem hidT_size (h:Heap) (H:Hp):(hidT h H).objs.size=h.objs.size:=PySem.W.hideAll_size _ _
theorem hidT_get {h:Heap} {H:Hp} {b:Addr} {o:Obj} (e:h.get? b=some o) (n:H b=none):(hidT h H).get? b=some o :=
  PySem.W.hideAll_get _ e fun hm=>by
    have q:(H b).isSome=true:=(List.mem_filter.mp hm).2
    rw [n] at q;simp at q
theorem of_hidT {h:Heap} {H:Hp} {b:Addr} {o:Obj} (e:(hidT h H).get? b=some o):h.get? b=some o∧H b=none:=by
  have e':h.get? b=some o:=PySem.W.of_hideAll (trk h H) e
  refine ⟨e',?_⟩
  cases q:H b with
  | none=>rfl
  | some x =>
    have hm:b∈trk h H:=List.mem_filter.mpr ⟨List.mem_range.mpr (Heap.lt_size e'),by simp [q]⟩
    have z:(hidT h H).get? b=none:=PySem.W.hideAll_none (trk h H) hm
    rw [z] at e;cases e

end L2

namespace L2
open PySem PySem.Spec PyProof.Rows

structure Mod (K:PySem.W.Frag) (mg:Str→Option Value) (base:Heap):Prop where
  kin:K.In base
  glob:base.Ns mainGlobals mg
  blt:∃ mb,base.Ns builtinsNs mb∧∀ x:Str,x ≠ "__name__" → mb x=bootBuiltins x
  nolimit:base.NoLimit

structure Cx where
  prog:Program
  w:World
  K:PySem.W.Frag
  mg:Str→Option Value
  base:Heap
  A:Around
  N:List Str
  s₀ : Shared
  H₀ : Hp
  env:Env
  outer:List Env
  stack:List Env
  ex:List Addr
  fn:Str→Bool
  calm:Bool
  pn:List (Addr × Obj)
  xe:Value→Shared→Prop
noncomputable def frs (l:List Env):List Addr:=l.filterMap (·.frame)
noncomputable abbrev Cx.fs (X:Cx):List Addr:=frs X.outer

noncomputable def Vis (sc:Scope) (x:Str):Prop:=sc.names.lookup x=some .local∨sc.names.lookup x=some .cell∨sc.names.lookup x=some .free
noncomputable def Loc (sc:Scope) (x:Str):Prop:=sc.names.lookup x=some .local∨sc.names.lookup x=some .cell
noncomputable def Look (env:Env) (h:Heap) (m:Str→Option Value) (x:Str) (u:Value):Prop :=
  (env.kindOf x=some .local∧m x=some u)∨((env.kindOf x=some .cell∨env.kindOf x=some .free)∧∃ c,env.cells.lookup x=some c∧h.IsCell c (some u))

structure Cx.Ok (X:Cx):Prop where
  mod:Mod X.K X.mg X.base
  kind:X.env.scope.kind = .function
  glob:X.env.globals=mainGlobals
  blt:X.env.builtins=builtinsNs
  above:X.s₀.heap.objs.size≤X.env.locals
  inj:∀ x y c,X.env.cells.lookup x=some c→X.env.cells.lookup y=some c→x=y
  has:∀ x,(X.env.kindOf x=some .cell∨X.env.kindOf x=some .free)→∃ c,X.env.cells.lookup x=some c
  cab:∀ x c,X.fn x=true→X.env.cells.lookup x=some c→X.s₀.heap.objs.size≤c
  hd:X.calm=true→X.A.handled=none
  frames:X.A.frames=some X.stack
  stk:X.stack=X.outer∨(X.stack=X.env :: X.outer∧X.env.frame=some X.env.locals)
  exf:∀ b∈X.ex,b≠X.env.locals∧∀ x c,X.env.cells.lookup x=some c→c≠b
  bs:∀ b o,X.base.get? b=some o→X.s₀.heap.get? b=some o∧X.H₀ b=none
  bsz:X.base.objs.size≤X.s₀.heap.objs.size
  noex:∀ b o,X.base.get? b=some o→b ∉ X.ex
  exfs:∀ b∈X.ex,b ∉ X.fs
  funs:X.s₀.heap.FunFrames X.base X.outer
  frf:∀ b∈X.fs,X.H₀ b=none

structure Inv (X:Cx) (pins:List (Addr × Obj)) (σ : List (Option V)) (H:Hp) (s:Shared):Prop where
  ok:X.Ok
  os:s.os=X.s₀.os
  bare:AllBare s.gens
  base:Un X.fs X.ex X.H₀ H X.s₀.heap s.heap
  loc:∃ m,s.heap.Ns X.env.locals m∧∀ (i:Nat) (x:Str) (v:V),X.N[i]? = some x → σ[i]? = some (some v)→Vis X.env.scope x→∃ u,RelV v u∧Look X.env s.heap m x u
  cell:∀ x c,X.env.cells.lookup x=some c→∃ v,s.heap.IsCell c v
  free:H X.env.locals=none
  freeC:∀ x c,X.env.cells.lookup x=some c→H c=none
  pin:∀ p∈X.pn ++ pins,s.heap.get? p.1=some p.2∧H p.1=none∧p.1≠X.env.locals∧p.1 ∉ X.fs∧∀ v,p.2.data ≠ .cell v
  hok:HOk X.prog X.w H s.heap
  len : σ.length=X.N.length

section
variable {X:Cx} {pins:List (Addr × Obj)} {σ : List (Option V)} {H H':Hp} {s:Shared} {h':Heap}

theorem Cx.Ok.nofr (ok:X.Ok) {b:Addr} {o:Obj} (e:X.base.get? b=some o):b ∉ X.fs:=fun hb=>by
  have:=(ok.funs.mem hb).1
  rw [e] at this;cases this
theorem Inv.bs (I:Inv X pins σ H s):∀ b o,X.base.get? b=some o→s.heap.get? b=some o∧H b=none:=fun b o e =>
  ⟨I.base.keep b o (I.ok.bs b o e).1 (I.ok.bs b o e).2 (I.ok.nofr e) (I.ok.noex b o e),I.base.free b o (I.ok.bs b o e).1 (I.ok.bs b o e).2 (I.ok.noex b o e)⟩
theorem Inv.bk (I:Inv X pins σ H s):∀ b o,X.base.get? b=some o→s.heap.get? b=some o:=fun b o e=>(I.bs b o e).1
theorem Inv.mod (I:Inv X pins σ H s):Mod X.K X.mg X.base:=I.ok.mod
theorem Inv.kIn (I:Inv X pins σ H s):X.K.In s.heap:=I.ok.mod.kin.keeps I.bk
theorem Inv.lt (I:Inv X pins σ H s):X.env.locals < s.heap.objs.size:=let ⟨_,hn,_⟩:=I.loc;hn.lt
theorem Inv.sz (I:Inv X pins σ H s):X.s₀.heap.objs.size≤s.heap.objs.size:=Nat.le_trans I.ok.above (Nat.le_of_lt I.lt)
theorem Inv.nofs (I:Inv X pins σ H s) {a:Addr} (h:s.heap.objs.size≤a):a ∉ X.fs:=fun hb=>by
  obtain ⟨_,o,ho,_⟩:=I.ok.funs.mem hb
  exact absurd (Nat.lt_of_lt_of_le (Heap.lt_size ho) (Nat.le_trans I.sz h)) (Nat.lt_irrefl _)
theorem Inv.cne (I:Inv X pins σ H s):∀ x c,X.env.cells.lookup x=some c→c≠X.env.locals:=fun x c e z=>by
  obtain ⟨v,o,ho,hd⟩:=I.cell x c e
  obtain ⟨m,⟨o',es,ep,ho',hd',_⟩,_⟩:=I.loc
  rw [z,ho'] at ho;cases ho;rw [hd'] at hd;cases hd
theorem Inv.funs (I:Inv X pins σ H s):s.heap.FunFrames X.base X.outer:=by
  have all:∀ (l:List Env),(∀ b∈frs l,b∈X.fs)→X.s₀.heap.FunFrames X.base l→s.heap.FunFrames X.base l:=by
    intro l
    induction l with
    | nil=>intro _ _;trivial
    | cons env r ih =>
      intro hs hl
      obtain ⟨hk,⟨L,o,hf,hn,ho,hd⟩,hr⟩:=hl
      have hL:L∈X.fs:=hs L (by unfold frs;rw [List.filterMap_cons,hf];exact List.mem_cons_self)
      obtain ⟨sl,e⟩:=I.base.slot L o ho (I.ok.frf L hL) hL fun z=>I.ok.exfs L z hL
      exact ⟨hk,⟨L,_,hf,hn,e,hd⟩,ih (fun b hb=>hs b (by unfold frs;rw [List.filterMap_cons,hf];exact List.mem_cons_of_mem _ hb)) hr⟩
  exact all X.outer (fun _ hb=>hb) I.ok.funs

theorem Inv.stack (I:Inv X pins σ H s):s.heap.FunFrames X.base X.stack:=by
  rcases I.ok.stk with e | ⟨e,hf⟩
  · rw [e];exact I.funs
  · rw [e]
    obtain ⟨m,hn,_⟩:=I.loc
    refine .cons (by rw [I.ok.kind];decide) hf hn ?_ I.funs
    exact Heap.get?_none_of_le (Nat.le_trans I.ok.bsz I.ok.above)
theorem Inv.stkSub (I:Inv X pins σ H s):∀ b∈frs X.stack,b∈X.env.locals :: X.fs:=fun b hb=>by
  rcases I.ok.stk with e | ⟨e,hf⟩
  · rw [e] at hb;exact List.mem_cons_of_mem _ hb
  · rw [e] at hb
    unfold frs at hb
    rw [List.filterMap_cons,hf] at hb
    exact hb
theorem Inv.stkFree (I:Inv X pins σ H s):∀ b∈frs X.stack,H b=none:=fun b hb=>by
  rcases List.mem_cons.mp (I.stkSub b hb) with e | hb
  · rw [e];exact I.free
  · obtain ⟨_,o,ho,_⟩:=I.ok.funs.mem hb
    exact I.base.free b o ho (I.ok.frf b hb) fun z=>I.ok.exfs b z hb

theorem Inv.step {g':Array GenState} {t':Nat} {d':Drawn} {ch:List Addr} (I:Inv X pins σ H s)
    (hch:∀ b∈ch,(b∈X.ex∨X.s₀.heap.objs.size≤b)∧b≠X.env.locals∧(∀ x c,X.env.cells.lookup x=some c→c≠b)∧∀ p∈X.pn ++ pins,p.1≠b)
    (keep:∀ b o,b≠X.env.locals→b ∉ X.fs→b ∉ ch→s.heap.get? b=some o→H b=none→h'.get? b=some o)
    (slot:∀ b o,b≠X.env.locals→b∈X.fs→b ∉ ch→s.heap.get? b=some o→H b=none→∃ sl,h'.get? b=some { o with slots:=sl }) (free:∀ b o,b ∉ ch→s.heap.get? b=some o→H b=none→H' b=none)
    (there:∀ b o,b ∉ ch→s.heap.get? b=some o→∃ o',h'.get? b=some o')
    (tups:∀ b xs,H b=some (.tup xs)→H' b=some (.tup xs)) (frzs:∀ b o u,H b=some (.frz o u)→H' b=some (.frz o u)) (tbls:∀ b ps,H b=some (.tbl ps)→∃ more,H' b=some (.tbl (ps ++ more)))
    (ns:∀ m,s.heap.Ns X.env.locals m→h'.Ns X.env.locals m) (hok:HOk X.prog X.w H' h') (hg:AllBare g') :
    Inv X pins σ H' { s with heap:=h',gens:=g',drawn:=d',toks:=t' }:=by
  have neL:∀ b o,X.s₀.heap.get? b=some o→b≠X.env.locals:=fun b o e=>Nat.ne_of_lt (Nat.lt_of_lt_of_le (Heap.lt_size e) I.ok.above)
  have neC:∀ b o,X.s₀.heap.get? b=some o→b ∉ X.ex→b ∉ ch:=fun b o e hx hb=>by
    rcases (hch b hb).1 with z | z
    · exact hx z
    · exact absurd (Nat.lt_of_lt_of_le (Heap.lt_size e) z) (Nat.lt_irrefl _)
  have cellK:∀ x c,X.env.cells.lookup x=some c→∀ v,s.heap.IsCell c v→h'.IsCell c v:=fun x c e v ⟨o,ho,hd⟩=>by
    have nch:c ∉ ch:=fun z=>(hch c z).2.2.1 x c e rfl
    by_cases hc:c∈X.fs
    · obtain ⟨sl,q⟩:=slot c o (I.cne x c e) hc nch ho (I.freeC x c e)
      exact ⟨_,q,hd⟩
    · exact ⟨o,keep c o (I.cne x c e) hc nch ho (I.freeC x c e),hd⟩
  refine ⟨I.ok,I.os,hg,⟨fun b o e n hb hx => ?_,fun b o e n hb hx => ?_,fun b o e n hx => ?_,fun b o e hx => ?_,fun b xs e=>tups b xs (I.base.tups b xs e),fun b o xs e=>frzs b o xs (I.base.frzs b o xs e),fun b ps e => ?_⟩,?_,fun x c e => ?_,?_,fun x c e => ?_,fun p hp => ?_,hok,I.len⟩
  · exact keep b o (neL b o e) hb (neC b o e hx) (I.base.keep b o e n hb hx) (I.base.free b o e n hx)
  · obtain ⟨sl,e1⟩:=I.base.slot b o e n hb hx
    obtain ⟨sl',e2⟩:=slot b _ (neL b o e) hb (neC b o e hx) e1 (I.base.free b o e n hx)
    exact ⟨sl',e2⟩
  · obtain ⟨o',e1⟩:=I.base.there b o e hx
    exact free b o' (neC b o e hx) e1 (I.base.free b o e n hx)
  · obtain ⟨o',e1⟩:=I.base.there b o e hx
    exact there b o' (neC b o e hx) e1
  · obtain ⟨m1,e1⟩:=I.base.tbls b ps e
    obtain ⟨m2,e2⟩:=tbls b _ e1
    exact ⟨m1 ++ m2,by rw [e2,Array.append_assoc]⟩
  · obtain ⟨m,hn,hl⟩:=I.loc
    refine ⟨m,ns m hn,fun i x v e1 e2 e3 => ?_⟩
    obtain ⟨u,r,l⟩:=hl i x v e1 e2 e3
    refine ⟨u,r,?_⟩
    rcases l with l | ⟨k,c,e,z⟩
    · exact .inl l
    · exact .inr ⟨k,c,e,cellK x c e _ z⟩
  · obtain ⟨v,z⟩:=I.cell x c e
    exact ⟨v,cellK x c e v z⟩
  · obtain ⟨m,⟨o,_,_,ho,_⟩,_⟩:=I.loc
    exact free _ o (fun z=>(hch _ z).2.1 rfl) ho I.free
  · obtain ⟨v,o,ho,hd⟩:=I.cell x c e
    exact free c o (fun z=>(hch c z).2.2.1 x c e rfl) ho (I.freeC x c e)
  · obtain ⟨e,n,ne,nf,d⟩:=I.pin p hp
    have nch:p.1 ∉ ch:=fun z=>(hch p.1 z).2.2.2 p hp rfl
    exact ⟨keep p.1 p.2 ne nf nch e n,free p.1 p.2 nch e n,ne,nf,d⟩
theorem Inv.un {t':Nat} (I:Inv X pins σ H s) (u:Un X.fs [] H H' s.heap h') (hok:HOk X.prog X.w H' h'):Inv X pins σ H' { s with heap:=h',toks:=t' }:=by
  obtain ⟨m,⟨o,es,ep,ho,r⟩,_⟩:=id I.loc
  obtain ⟨sl,hL⟩:=u.any ho I.free (by simp)
  exact I.step (g':=s.gens) (d':=s.drawn) (ch := []) (fun _ z=>nomatch z) (fun b o _ hb _ e n=>u.keep b o e n hb (by simp)) (fun b o _ hb _ e n=>u.slot b o e n hb (by simp)) (fun b o _ e n=>u.free b o e n (by simp)) (fun b o _ e=>u.there b o e (by simp)) u.tups u.frzs u.tbls (fun m' hm=>by
    obtain ⟨o',es',ep',ho',r'⟩:=hm
    rw [ho] at ho';cases ho'
    exact ⟨_,es',ep',hL,r'⟩) hok I.bare
theorem Inv.call {g':Array GenState} {t':Nat} {d':Drawn} {ch:List Addr} (I:Inv X pins σ H s) (u:Un (frs X.stack) ch H H' s.heap h') (hok:HOk X.prog X.w H' h') (hg:AllBare g')
    (hch:∀ b∈ch,(b∈X.ex∨X.s₀.heap.objs.size≤b)∧b≠X.env.locals∧(∀ x c,X.env.cells.lookup x=some c→c≠b)∧∀ p∈X.pn ++ pins,p.1≠b) :
    Inv X pins σ H' { s with heap:=h',gens:=g',drawn:=d',toks:=t' }:=by
  obtain ⟨m,⟨o,es,ep,ho,r⟩,_⟩:=id I.loc
  obtain ⟨sl,hL⟩:=u.any ho I.free fun z=>(hch _ z).2.1 rfl
  exact I.step (ch:=ch) hch (fun b o hL hb hc e n=>u.keep b o e n (fun z=>(List.mem_cons.mp (I.stkSub b z)).elim hL hb) hc) (fun b o _ _ hc e n=>u.any e n hc) (fun b o hc e n=>u.free b o e n hc) (fun b o hc e=>u.there b o e hc) u.tups u.frzs u.tbls (fun m' hm=>by
    obtain ⟨o',es',ep',ho',r'⟩:=hm
    rw [ho] at ho';cases ho'
    exact ⟨_,es',ep',hL,r'⟩) hok hg
theorem Inv.turned {t':Nat} {it:Addr} (I:Inv X pins σ H s) (k:∀ b o,b≠it→s.heap.get? b=some o→h'.get? b=some o) (hn:H it=none) (hL:it≠X.env.locals)
    (h1:it∈X.ex∨X.s₀.heap.objs.size≤it) (h2:∀ x c,X.env.cells.lookup x=some c→c≠it) (h3:∀ p∈X.pn ++ pins,p.1≠it):Inv X pins σ H { s with heap:=h',toks:=t' }:=by
  have nit:∀ b u,H b=some u→b≠it:=fun b u e z=>by rw [z,hn] at e;cases e
  refine I.step (g':=s.gens) (d':=s.drawn) (ch := [it]) (fun b hb => ?_) (fun b o _ _ hc e _=>k b o (fun z=>hc (by simp [z])) e) (fun b o _ _ hc e _=>⟨o.slots,k b o (fun z=>hc (by simp [z])) e⟩) (fun _ _ _ _ n=>n)
    (fun b o hc e=>⟨o,k b o (fun z=>hc (by simp [z])) e⟩) (fun _ _ e=>e) (fun _ _ _ e=>e) (fun b ps e=>⟨#[],by rw [e];simp⟩) (fun m hm => ?_) (fun b u e => ?_) I.bare
  · have e:b=it:=by simpa using hb
    subst e
    exact ⟨h1,hL,h2,h3⟩
  · obtain ⟨o,es,ep,ho,r⟩:=hm
    exact ⟨o,es,ep,k _ o (Ne.symm hL) ho,r⟩
  · refine (I.hok b u e).stay (fun c v hc q=>k c v ?_ q) (fun _ q=>q) fun _ _ q=>q
    rcases hc with z | z
    · rw [z];exact nit b u e
    · exact nit c _ z
theorem Inv.tok (I:Inv X pins σ H s) (t:Nat):Inv X pins σ H { s with toks:=t }:=I.un (h':=s.heap) (t':=t) Un.refl I.hok
theorem Inv.kept {t':Nat} (I:Inv X pins σ H s) (k:∀ b u,s.heap.get? b=some u→h'.get? b=some u):Inv X pins σ H { s with heap:=h',toks:=t' }:=I.un (Un.kept k) (I.hok.kept k)
theorem Inv.laid {a:Addr} {o:HO} {t':Nat} (I:Inv X pins σ H s) (k:∀ b u,s.heap.get? b=some u→h'.get? b=some u) (hp:s.heap.objs.size≤a) (new:ObjOk X.prog X.w (upd H a o) h' a o) :
    Inv X pins σ (upd H a o) { s with heap:=h',toks:=t' }:=I.un (Un.laid k hp (I.hok.fresh hp)) (I.hok.laid k hp new)
theorem Inv.write {x e:Addr} {o:HO} {t':Nat} (I:Inv X pins σ H s) (mu:Mut (H x)) (he:e=x∨H e=some (.own x)) (k:∀ b u,b≠e→s.heap.get? b=some u→h'.get? b=some u) (heo:∃ u,h'.get? e=some u)
    (new:ObjOk X.prog X.w (upd H x o) h' x o):Inv X pins σ (upd H x o) { s with heap:=h',toks:=t' }:=I.un (Un.write mu he k heo) (I.hok.write mu he k heo new)
theorem Inv.pins_of {pins':List (Addr × Obj)} (I:Inv X pins σ H s) (h:∀ p∈pins',s.heap.get? p.1=some p.2∧H p.1=none∧p.1≠X.env.locals∧p.1 ∉ X.fs∧∀ v,p.2.data ≠ .cell v):Inv X pins' σ H s :=
  ⟨I.ok,I.os,I.bare,I.base,I.loc,I.cell,I.free,I.freeC,fun p hp=>(List.mem_append.mp hp).elim (fun z=>I.pin p (List.mem_append_left _ z)) (h p),I.hok,I.len⟩

theorem nodup_ix {N:List Str} (hN:N.Nodup) {i j:Nat} {x:Str} (a:N[i]? = some x) (b:N[j]? = some x):i=j:=by
  obtain ⟨h1,e1⟩:=List.getElem?_eq_some_iff.mp a
  obtain ⟨h2,e2⟩:=List.getElem?_eq_some_iff.mp b
  exact (List.getElem_inj hN).mp (e1.trans e2.symm)

theorem store_ok2 {M:Model} {A:Around} {E:Value→Shared→Prop} {i:Nat} {x:Str} {v:V} {u:Value} {Q:Unit→Shared→Prop} (I:Inv X pins σ H s) (hN:X.N.Nodup) (hi:X.N[i]? = some x) (hx:Loc X.env.scope x) (r:RelV v u)
    (h:∀ s',Inv X pins (σ.set i (some v)) H s'→(∃ a,Heap.SameBut a s.heap s'.heap∧(a=X.env.locals∨X.env.cells.lookup x=some a))→Q () s') (hf:X.fn x=true∨X.env.scope.names.lookup x=some .local:=by first | exact .inl rfl | exact .inr rfl | assumption):wpAny M A (storeName X.env x u) Q E s:=by
  obtain ⟨m,hn,hl⟩:=id I.loc
  have hcls:(X.env.scope.kind == .class || (X.env.scope.kind == .module && X.env.locals != X.env.globals))=false:=by rw [I.ok.kind];rfl
  have hiσ : i < σ.length:=by rw [I.len];exact (List.getElem?_eq_some_iff.mp hi).1
  have cne:=I.cne
  have tracked:∀ {a:Addr} {h':Heap},(∃ o,s.heap.get? a=some o∧H a=none)→Heap.SameBut a s.heap h'→HOk X.prog X.w H h':=fun {a h'} ha hs b ob e=>by
    obtain ⟨_,_,hfree⟩:=ha
    refine (I.hok b ob e).stay (fun c w' hc q=>(hs.2 c ?_).trans q) (fun _ q=>q) fun _ _ q=>q
    rintro rfl
    rcases hc with rfl | hc
    · rw [hfree] at e;cases e
    · rw [hfree] at hc;cases hc
  rcases hx with hk | hk
  · refine wpAny_storeName_local hk hn (fun h' hn' hs => ?_) hcls
    obtain ⟨oL,_,_,hoL,_⟩:=id hn
    refine h _ ⟨I.ok,I.os,I.bare,⟨fun b o e n hb hx => ?_,fun b o e n hb hx => ?_,I.base.free,fun b o e hx => ?_,I.base.tups,I.base.frzs,I.base.tbls⟩,⟨_,hn',fun j y v' e1 e2 e3 => ?_⟩,fun y c e => ?_,I.free,I.freeC,fun p hp => ?_,tracked ⟨oL,hoL,I.free⟩ hs,by simpa using I.len⟩ ⟨_,hs,.inl rfl⟩
    · exact (hs.2 b (Nat.ne_of_lt (Nat.lt_of_lt_of_le (Heap.lt_size e) I.ok.above))).trans (I.base.keep b o e n hb hx)
    · obtain ⟨sl,e1⟩:=I.base.slot b o e n hb hx
      exact ⟨sl,(hs.2 b (Nat.ne_of_lt (Nat.lt_of_lt_of_le (Heap.lt_size e) I.ok.above))).trans e1⟩
    · obtain ⟨o',e1⟩:=I.base.there b o e hx
      exact ⟨o',(hs.2 b (Nat.ne_of_lt (Nat.lt_of_lt_of_le (Heap.lt_size e) I.ok.above))).trans e1⟩
    · by_cases hj:j=i
      · subst hj
        rw [hi] at e1;cases e1
        rw [List.getElem?_set_self hiσ] at e2
        cases e2
        exact ⟨u,r,.inl ⟨hk,by simp⟩⟩
      · rw [List.getElem?_set_ne (Ne.symm hj)] at e2
        obtain ⟨u',r',q⟩:=hl j y v' e1 e2 e3
        refine ⟨u',r',?_⟩
        rcases q with ⟨k,e⟩ | ⟨k,c,e,z⟩
        · refine .inl ⟨k,?_⟩
          have:y≠x:=fun e=>hj (nodup_ix hN e1 (e ▸ hi))
          simp [this,e]
        · exact .inr ⟨k,c,e,z.sameBut hs (cne y c e)⟩
    · obtain ⟨w',z⟩:=I.cell y c e
      exact ⟨w',z.sameBut hs (cne y c e)⟩
    · obtain ⟨e,n,ne,nf,d⟩:=I.pin p hp
      exact ⟨(hs.2 p.1 ne).trans e,n,ne,nf,d⟩
  · have hfn:X.fn x=true:=by
      rcases hf with z | z
      · exact z
      · rw [z] at hk;cases hk
    obtain ⟨c,hc⟩:=I.ok.has x (.inl hk)
    obtain ⟨w',z⟩:=I.cell x c hc
    refine wpAny_storeName_cell I.ok.kind hk hc z (fun h' hc' hs => ?_)
    obtain ⟨oc,hoc,hocd⟩:=id z
    refine h { s with heap:=h' } ⟨I.ok,I.os,I.bare,⟨fun b o e n hb hx => ?_,fun b o e n hb hx => ?_,I.base.free,fun b o e hx => ?_,I.base.tups,I.base.frzs,I.base.tbls⟩,⟨m,hn.sameBut hs (Ne.symm (cne x c hc)),fun j y v' e1 e2 e3 => ?_⟩,fun y c' e => ?_,I.free,I.freeC,fun p hp => ?_,tracked ⟨oc,hoc,I.freeC x c hc⟩ hs,by simpa using I.len⟩ ⟨c,hs,.inr hc⟩
    · exact (hs.2 b (Nat.ne_of_lt (Nat.lt_of_lt_of_le (Heap.lt_size e) (I.ok.cab x c hfn hc)))).trans (I.base.keep b o e n hb hx)
    · obtain ⟨sl,e1⟩:=I.base.slot b o e n hb hx
      exact ⟨sl,(hs.2 b (Nat.ne_of_lt (Nat.lt_of_lt_of_le (Heap.lt_size e) (I.ok.cab x c hfn hc)))).trans e1⟩
    · obtain ⟨o',e1⟩:=I.base.there b o e hx
      exact ⟨o',(hs.2 b (Nat.ne_of_lt (Nat.lt_of_lt_of_le (Heap.lt_size e) (I.ok.cab x c hfn hc)))).trans e1⟩
    · by_cases hj:j=i
      · subst hj
        rw [hi] at e1;cases e1
        rw [List.getElem?_set_self hiσ] at e2
        cases e2
        exact ⟨u,r,.inr ⟨.inl hk,c,hc,hc'⟩⟩
      · rw [List.getElem?_set_ne (Ne.symm hj)] at e2
        obtain ⟨u',r',q⟩:=hl j y v' e1 e2 e3
        refine ⟨u',r',?_⟩
        rcases q with q | ⟨k,c',e,z'⟩
        · exact .inl q
        · refine .inr ⟨k,c',e,z'.sameBut hs ?_⟩
          rintro rfl
          exact hj (nodup_ix hN e1 (I.ok.inj _ _ _ e hc ▸ hi))
    · by_cases hcc:c'=c
      · subst hcc;exact ⟨_,hc'⟩
      · obtain ⟨w2,z2⟩:=I.cell y c' e
        exact ⟨w2,z2.sameBut hs hcc⟩
    · obtain ⟨e,n,ne,nf,d⟩:=I.pin p hp
      refine ⟨(hs.2 p.1 ?_).trans e,n,ne,nf,d⟩
      intro q
      rw [q,hoc] at e
      have q':oc=p.2:=Option.some.inj e
      exact d w' (by rw [← q'];exact hocd)
theorem store_ok {M:Model} {A:Around} {E:Value→Shared→Prop} {i:Nat} {x:Str} {v:V} {u:Value} {Q:Unit→Shared→Prop} (I:Inv X pins σ H s) (hN:X.N.Nodup) (hi:X.N[i]? = some x) (hx:Loc X.env.scope x) (r:RelV v u)
    (h:∀ s',Inv X pins (σ.set i (some v)) H s'→Q () s') (hf:X.fn x=true∨X.env.scope.names.lookup x=some .local:=by first | exact .inl rfl | exact .inr rfl | assumption):wpAny M A (storeName X.env x u) Q E s :=
  store_ok2 I hN hi hx r (fun s' I' _=>h s' I') hf
theorem Inv.call' {s':Shared} {ch:List Addr} (I:Inv X pins σ H s) (ho:s'.os=s.os) (u:Un (frs X.stack) ch H H' s.heap s'.heap) (hok:HOk X.prog X.w H' s'.heap) (hg:AllBare s'.gens)
    (hch:∀ b∈ch,(b∈X.ex∨X.s₀.heap.objs.size≤b)∧b≠X.env.locals∧(∀ x c,X.env.cells.lookup x=some c→c≠b)∧∀ p∈X.pn ++ pins,p.1≠b):Inv X pins σ H' s':=by
  obtain ⟨h',g',d',t',o'⟩:=s'
  have e:o'=s.os:=ho
  subst e
  exact I.call (g':=g') (t':=t') (d':=d') u hok hg hch
end

noncomputable abbrev XK:=Value→Option Addr→Hp→Prop
noncomputable abbrev St:=List (Option V)
noncomputable abbrev VK:=V→Hp→Prop
noncomputable abbrev TE:=St→Hp→VK→Prop
noncomputable abbrev TT:=St→Hp→(Bool→Hp→Prop)→Prop
noncomputable abbrev TA:=St→Hp→(List V→Hp→Prop)→Prop
structure Ends where
  nx:St→Hp→Prop
  rt:VK
  bk:St→Hp→Prop:=fun _ _=>False
  ct:St→Hp→Prop:=fun _ _=>False
noncomputable abbrev TS:=Ends→St→Hp→Prop

noncomputable def EP (X:Cx) (pins:List (Addr × Obj)) (σ : St) (Q:VK) (u:Value) (s':Shared):Prop := ∃ v H',Inv X pins σ H' s'∧RelV v u∧Q v H'
noncomputable def TP (X:Cx) (pins:List (Addr × Obj)) (σ : St) (Q:Bool→Hp→Prop) (b:Bool) (s':Shared):Prop := ∃ H',Inv X pins σ H' s'∧Q b H'
noncomputable def AP (X:Cx) (pins:List (Addr × Obj)) (σ : St) (Q:List V→Hp→Prop) (us:List Value) (s':Shared):Prop := ∃ vs H',Inv X pins σ H' s'∧Vals vs us∧Q vs H'
noncomputable def SP (X:Cx) (pins:List (Addr × Obj)) (D:Ends) (f:Flow) (s':Shared):Prop :=
  match f with
  | .next=>∃ σ' H',Inv X pins σ' H' s'∧D.nx σ' H'
  | .brk=>∃ σ' H',Inv X pins σ' H' s'∧D.bk σ' H'
  | .cont=>∃ σ' H',Inv X pins σ' H' s'∧D.ct σ' H'
  | .ret u=>∃ v σ' H',Inv X pins σ' H' s'∧RelV v u∧D.rt v H'

noncomputable def PE (X:Cx) (e:Expr) (t:TE):Prop :=
  ∀ (pins:List (Addr × Obj)) (s:Shared) (σ : St) (H:Hp) (Q:VK),Inv X pins σ H s→t σ H Q→wpAny (model X.prog X.w) X.A (eval e X.env) (EP X pins σ Q) X.xe s
noncomputable def PT (X:Cx) (e:Expr) (t:TT):Prop :=
  ∀ (pins:List (Addr × Obj)) (s:Shared) (σ : St) (H:Hp) (Q:Bool→Hp→Prop),Inv X pins σ H s→t σ H Q→wpAny (model X.prog X.w) X.A (isTrue e X.env (eval e X.env)) (TP X pins σ Q) X.xe s
noncomputable def PW (X:Cx) (e:Expr) (t:TT):Prop :=
  ∀ (whole:Sem Value) (pins:List (Addr × Obj)) (s:Shared) (σ : St) (H:Hp) (Q:Bool→Hp→Prop),Inv X pins σ H s→t σ H Q→wpAny (model X.prog X.w) X.A (isTrue e X.env whole) (TP X pins σ Q) X.xe s
theorem PW.pt {X:Cx} {e:Expr} {t:TT} (h:PW X e t):PT X e t:=h _
noncomputable def PA (X:Cx) (es:List Expr) (t:TA):Prop :=
  ∀ (pos:Pos) (pins:List (Addr × Obj)) (s:Shared) (σ : St) (H:Hp) (Q:List V→Hp→Prop),Inv X pins σ H s→t σ H Q→wpAny (model X.prog X.w) X.A (spliced (backTo pos (starEach es X.env))) (AP X pins σ Q) X.xe s
noncomputable def PS (X:Cx) (st:Stmt) (t:TS):Prop :=
  ∀ (pins:List (Addr × Obj)) (s:Shared) (σ : St) (H:Hp) (D:Ends),Inv X pins σ H s→t D σ H→wpAny (model X.prog X.w) X.A (exec st X.env) (SP X pins D) X.xe s
noncomputable def PSs (X:Cx) (st:List Stmt) (t:TS):Prop :=
  ∀ (pins:List (Addr × Obj)) (s:Shared) (σ : St) (H:Hp) (D:Ends),Inv X pins σ H s→t D σ H→wpAny (model X.prog X.w) X.A (execs st X.env) (SP X pins D) X.xe s
theorem thn {α : Type} {t:Sem α} {Q Q' : α → Shared→Prop} {M:Model} {A:Around} {E:Value→Shared→Prop} {s:Shared} (h:wpAny M A t Q E s) (hQ:∀ a s,Q a s→Q' a s):wpAny M A t Q' E s:=wpAny_mono h hQ fun _ _ x=>x
end L2

namespace L2
open PySem PySem.Spec PyProof.Rows
section
variable {X:Cx}


inductive TVar (i:Nat) (σ : St) (H:Hp) (Q:VK):Prop
  | mk (v:V) (e : σ[i]? = some (some v)) (q:Q v H):TVar i σ H Q
noncomputable def tVar (i:Nat):TE:=fun σ H Q=>TVar i σ H Q
noncomputable def tC (v:V):TE:=fun _ H Q=>Q v H
theorem pe_var {i:Nat} {x:Str} {pos:Pos} (hN:X.N[i]? = some x) (hv:Vis X.env.scope x) (hd:(x == ("__debug__" : Str))=false:=by decide) (hcd:(x == ("__classdict__" : Str))=false:=by decide):PE X (.Name x pos) (tVar i):=by
  intro pins s σ H Q I h
  obtain ⟨v,e,h⟩:=h
  obtain ⟨m,hn,hl⟩:=I.loc
  obtain ⟨u,r,l⟩:=hl i x v hN e hv
  have fin:EP X pins σ Q u s:=⟨v,H,I,r,h⟩
  rcases l with ⟨hk,hm⟩ | ⟨hk,c,hc,hcell⟩
  · exact wpAny_Name (wpAny_loadName_local I.ok.kind hk hn hm fin) hd
  · rcases hk with hk | hk
    · exact wpAny_Name (wpAny_loadName_cell I.ok.kind hk hc hcell fin) hd
    · exact wpAny_Name (wpAny_loadName_free I.ok.kind hk hc hcell fin hcd) hd
theorem pe_int {i j pos}:PE X (.Constant (.int i) j pos) (tC (.int i)):=fun _ _ _ H _ I h=>wpAny_Constant_int ⟨.int i,H,I.tok _,⟨_,rfl⟩,h⟩
theorem pe_bl {b j pos}:PE X (.Constant (.bool b) j pos) (tC (.bl b)):=fun _ _ _ H _ I h=>Constant_bool ⟨.bl b,H,I,rfl,h⟩
theorem pe_non {j pos}:PE X (.Constant .none j pos) (tC .non):=fun _ _ _ H _ I h=>Constant_none ⟨.non,H,I,rfl,h⟩
theorem pe_str {x j pos}:PE X (.Constant (.str x) j pos) (tC (.str x)):=fun _ _ _ H _ I h=>Calls.Constant_str ⟨.str x,H,I.tok _,⟨_,rfl⟩,h⟩

noncomputable def Gl (X:Cx) (x:Str):Prop:=X.env.kindOf x=some .globalImplicit
theorem ld_glob {E:Value→Shared→Prop} {pins:List (Addr × Obj)} {s:Shared} {σ : St} {H:Hp} {x:Str} {u:Value} {pos:Pos} {Q:Value→Shared→Prop} (I:Inv X pins σ H s) (hg:Gl X x) (hm:X.mg x=some u) (h:Q u s)
    (hd:(x == ("__debug__" : Str))=false:=by decide):wpAny (model X.prog X.w) X.A (eval (.Name x pos) X.env) Q E s :=
  Calls.Name_function_global I.ok.kind hg (Calls.loadGlobal_global (by rw [I.ok.glob];exact I.mod.glob.keeps I.bk) hm h) hd
theorem ld_blt {E:Value→Shared→Prop} {pins:List (Addr × Obj)} {s:Shared} {σ : St} {H:Hp} {x:Str} {u:Value} {pos:Pos} {Q:Value→Shared→Prop} (I:Inv X pins σ H s) (hg:Gl X x) (hm:X.mg x=none) (hv:bootBuiltins x=some u) (h:Q u s)
    (hn:x ≠ "__name__" := by decide) (hd:(x == ("__debug__" : Str))=false:=by decide):wpAny (model X.prog X.w) X.A (eval (.Name x pos) X.env) Q E s:=by
  obtain ⟨mb,h1,h2⟩:=I.mod.blt
  exact Calls.Name_function_global I.ok.kind hg (Calls.loadGlobal_builtin (by rw [I.ok.glob];exact I.mod.glob.keeps I.bk) hm (by rw [I.ok.blt];exact h1.keeps I.bk) ((h2 x hn).trans hv) h) hd
theorem pe_glob {x:Str} {v:V} {u:Value} {pos:Pos} (hg:Gl X x) (hm:X.mg x=some u) (r:RelV v u) (hd:(x == ("__debug__" : Str))=false:=by decide):PE X (.Name x pos) (tC v) :=
  fun _ _ _ H _ I h=>ld_glob I hg hm ⟨v,H,I,r,h⟩ hd

variable {a b:Expr} {ta tb:TE} {pos:Pos}

noncomputable def PC (X:Cx) (op:CmpOp) (a b:Expr) (t:TE):Prop :=
  ∀ (pins:List (Addr × Obj)) (s:Shared) (σ : St) (H:Hp) (Q:VK),Inv X pins σ H s→t σ H Q →
    wpAny (model X.prog X.w) X.A (eval a X.env) (fun v s₁ => wpAny (model X.prog X.w) X.A (eval b X.env) (fun u s₂ => wpAny (model X.prog X.w) X.A (compareOp op v u) (EP X pins σ Q) X.xe s₂) X.xe s₁) X.xe s
inductive J_tB (Q:Bool→Hp→Prop) (x:V) (H1:Hp):Prop
  | mk:∀ c,(x = .bl c)→(Q c H1)→J_tB Q x H1
noncomputable def tB (t:TE):TT:=fun σ H Q=>t σ H fun x H1=>J_tB Q x H1
theorem pe_cmp {op:CmpOp} {t:TE} (h:PC X op a b t) (h1:behindInMarks op b=false:=by first | exact nobehind _ (by decide) (by decide) | rfl):PE X (.Compare a [op] [b] pos) t:=fun pins s σ H Q I hw=>wpAny_Compare1 (h pins s σ H Q I hw) h1
theorem pt_val {e:Expr} {t:TE} (h:PE X e t) (he:∀ whole,isTrue e X.env whole=(do let v ← whole;standAt e.pos;holding [v] (truthy v)):=by intro _;rfl):PT X e (tB t):=by
  intro pins s σ H Q I hw
  refine isTrue_plain (thn (h pins s σ H _ I hw) fun v s1 ⟨x,H1,I1,r1,q1⟩ => ?_) (he _)
  obtain ⟨d,rfl,q⟩:=q1
  cases r1
  exact wpAny_truthy_bool ⟨H1,I1,q⟩

variable {tA tB':TT} {rest:List Expr}
noncomputable def tAnd (t u:TT):TT:=fun σ H Q=>t σ H fun c H1=>if c=true then u σ H1 Q else Q false H1
noncomputable def tOr (t u:TT):TT:=fun σ H Q=>t σ H fun c H1=>if c=true then Q true H1 else u σ H1 Q
theorem pw_and1 (ha:PT X a tA):PW X (.BoolOp .And [a] pos) tA:=by
  intro wh pins s σ H Q I h
  refine isTrue_and (thn (ha pins s σ H Q I h) fun c s1 e => ?_)
  cases c with
  | true=>exact isTrue_and_nil e
  | false=>exact e
theorem pw_or1 (ha:PT X a tA):PW X (.BoolOp .Or [a] pos) tA:=by
  intro wh pins s σ H Q I h
  refine isTrue_or (thn (ha pins s σ H Q I h) fun c s1 e => ?_)
  cases c with
  | false=>exact isTrue_or_nil e
  | true=>exact e
theorem pw_and (ha:PT X a tA) (hb:PW X (.BoolOp .And (b :: rest) pos) tB'):PW X (.BoolOp .And (a :: b :: rest) pos) (tAnd tA tB'):=by
  intro wh pins s σ H Q I h
  refine isTrue_and (thn (ha pins s σ H _ I h) fun c s1 ⟨H1,I1,q1⟩ => ?_)
  cases c with
  | true=>exact hb wh pins s1 σ H1 Q I1 q1
  | false=>exact ⟨H1,I1,q1⟩
theorem pw_or (ha:PT X a tA) (hb:PW X (.BoolOp .Or (b :: rest) pos) tB'):PW X (.BoolOp .Or (a :: b :: rest) pos) (tOr tA tB'):=by
  intro wh pins s σ H Q I h
  refine isTrue_or (thn (ha pins s σ H _ I h) fun c s1 ⟨H1,I1,q1⟩ => ?_)
  cases c with
  | true=>exact ⟨H1,I1,q1⟩
  | false=>exact hb wh pins s1 σ H1 Q I1 q1
noncomputable def tAndV (ta tb:TE):TE:=fun σ H Q=>ta σ H fun x H1=>∃ c,x = .bl c∧if c=true then tb σ H1 Q else Q (.bl false) H1
noncomputable def tOrV (ta tb:TE):TE:=fun σ H Q=>ta σ H fun x H1=>∃ c,x = .bl c∧if c=true then Q (.bl true) H1 else tb σ H1 Q
theorem pe_one {op} {t:TE} (h:PE X a t):PE X (.BoolOp op [a] pos) t:=fun pins s σ H Q I hw=>BoolOp_one (h pins s σ H Q I hw)
theorem pe_and (ha:PE X a ta) (hb:PE X (.BoolOp .And (b :: rest) pos) tb):PE X (.BoolOp .And (a :: b :: rest) pos) (tAndV ta tb):=by
  intro pins s σ H Q I h
  refine BoolOp_and (thn (ha pins s σ H _ I h) fun v s1 ⟨x,H1,I1,r1,q1⟩ => ?_)
  obtain ⟨c,rfl,q1⟩:=q1
  cases r1
  refine wpAny_truthy_bool ?_
  cases c with
  | true=>exact hb pins s1 σ H1 Q I1 q1
  | false=>exact ⟨.bl false,H1,I1,rfl,q1⟩
theorem pe_or (ha:PE X a ta) (hb:PE X (.BoolOp .Or (b :: rest) pos) tb):PE X (.BoolOp .Or (a :: b :: rest) pos) (tOrV ta tb):=by
  intro pins s σ H Q I h
  refine BoolOp_or (thn (ha pins s σ H _ I h) fun v s1 ⟨x,H1,I1,r1,q1⟩ => ?_)
  obtain ⟨c,rfl,q1⟩:=q1
  cases r1
  refine wpAny_truthy_bool ?_
  cases c with
  | false=>exact hb pins s1 σ H1 Q I1 q1
  | true=>exact ⟨.bl true,H1,I1,rfl,q1⟩
end
end L2

namespace L2
open PySem PySem.Spec PyProof.Rows

noncomputable def SqL (K:PySem.W.Frag) (H:Hp) (a:Addr) (xs:List V):Prop :=
  Rd H a (.lst xs) ∨
    ∃ (o:Obj) (its:Array Value) (n:Nat),K.lookup a=some o∧o.cls = .type "list" ∧ o.dict=none∧o.data = .seq its n∧its.size≤sizeLine∧Vals xs its.toList
noncomputable def SqT (K:PySem.W.Frag) (H:Hp) (a:Addr) (xs:List V):Prop :=
  Rd H a (.tup xs) ∨
    ∃ (o:Obj) (its:Array Value) (n:Nat),K.lookup a=some o∧o.cls = .type "tuple" ∧ o.data = .seq its n∧its.size≤sizeLine∧Vals xs its.toList
noncomputable def absV:Value→Option V
  | .none=>some .non
  | .bool b=>some (.bl b)
  | .int i _=>some (.int i)
  | .str x _=>some (.str x)
  | .bytes b _=>some (.byt b)
  | .float b _=>some (.flt b)
  | .ref a=>some (.ref a)
  | .type n=>some (.ty n)
  | _=>none
theorem RelV.abs {x:V} {u:Value} (r:RelV x u):absV u=some x:=by
  cases x with
  | non=>cases r;rfl
  | bl _=>cases r;rfl
  | int _=>obtain ⟨t,rfl⟩:=r;rfl
  | str _=>obtain ⟨t,rfl⟩:=r;rfl
  | byt _=>obtain ⟨t,rfl⟩:=r;rfl
  | flt _=>obtain ⟨t,rfl⟩:=r;rfl
  | ref _=>cases r;rfl
  | ty _=>cases r;rfl
theorem RelV.inj {x y:V} {u:Value} (r:RelV x u) (q:RelV y u):x=y:=Option.some.inj (r.abs.symm.trans q.abs)
theorem Vals.inj:∀ {xs ys:List V} {us:List Value},Vals xs us→Vals ys us→xs=ys
  | _,_,_,.nil,.nil=>rfl
  | _,_,_,.cons r t,.cons r' t'=>by rw [r.inj r',Vals.inj t t']
section
variable {X:Cx} {pins:List (Addr × Obj)} {σ : St} {H:Hp} {s:Shared} {a:Addr} {xs ys:List V}
theorem SqL.of {K:PySem.W.Frag} (h:H a=some (.lst xs)):SqL K H a xs := .inl (.inl h)
theorem SqT.of {K:PySem.W.Frag} (h:H a=some (.tup xs)):SqT K H a xs := .inl (.inl h)
theorem Inv.list (I:Inv X pins σ H s) (h:SqL X.K H a xs):∃ its:List Value,Vals xs its∧PlainL s.heap a its.toArray∧xs.length≤sizeLine:=by
  rcases h with h | ⟨o,its,n,hk,hc,hd,hs,hz,r⟩
  · obtain ⟨z,its,n,r,e⟩:=h.ok I.hok
    exact ⟨its,r,⟨_,n,e,rfl,rfl,rfl⟩,z⟩
  · refine ⟨its.toList,r,⟨o,n,I.kIn a o hk,hc,hd,by simpa using hs⟩,?_⟩
    have e:=r.length
    simp only [Array.length_toList] at e
    omega
theorem Inv.tuple (I:Inv X pins σ H s) (h:SqT X.K H a xs):∃ its:List Value,Vals xs its∧IsTup s.heap a its.toArray∧xs.length≤sizeLine:=by
  rcases h with h | ⟨o,its,n,hk,hc,hs,hz,r⟩
  · obtain ⟨z,its,r,p⟩:=h.ok I.hok
    exact ⟨its,r,p.tup,z⟩
  · refine ⟨its.toList,r,⟨o,I.kIn a o hk,hc,n,by simpa using hs⟩,?_⟩
    have e:=r.length
    simp only [Array.length_toList] at e
    omega
theorem Inv.list_inj (I:Inv X pins σ H s) (h:SqL X.K H a xs) (h':SqL X.K H a ys):xs=ys:=by
  obtain ⟨its,r,⟨o,n,e,_,_,d⟩,_⟩:=I.list h
  obtain ⟨its',r',⟨o',n',e',_,_,d'⟩,_⟩:=I.list h'
  rw [e] at e';cases e'
  rw [d] at d'
  injection d' with d1 _
  have:its=its':=by simpa using congrArg Array.toList d1
  subst this
  exact r.inj r'
theorem Inv.tuple_inj (I:Inv X pins σ H s) (h:SqT X.K H a xs) (h':SqT X.K H a ys):xs=ys:=by
  obtain ⟨its,r,⟨o,e,_,n,d⟩,_⟩:=I.tuple h
  obtain ⟨its',r',⟨o',e',_,n',d'⟩,_⟩:=I.tuple h'
  rw [e] at e';cases e'
  rw [d] at d'
  injection d' with d1 _
  have:its=its':=by simpa using congrArg Array.toList d1
  subst this
  exact r.inj r'
end

noncomputable abbrev Cx.wish (X:Cx) (E:Value→Shared→Prop):Cx := { X with xe:=E }
noncomputable abbrev Cx.nox (X:Cx):Cx:=X.wish fun _ _=>False
theorem Cx.Ok.wish {X:Cx} (ok:X.Ok) (E:Value→Shared→Prop):(X.wish E).Ok :=
  ⟨ok.mod,ok.kind,ok.glob,ok.blt,ok.above,ok.inj,ok.has,ok.cab,ok.hd,ok.frames,ok.stk,ok.exf,ok.bs,ok.bsz,ok.noex,ok.exfs,ok.funs,ok.frf⟩
theorem Cx.Ok.unwish {X:Cx} {E:Value→Shared→Prop} (ok:(X.wish E).Ok):X.Ok :=
  ⟨ok.mod,ok.kind,ok.glob,ok.blt,ok.above,ok.inj,ok.has,ok.cab,ok.hd,ok.frames,ok.stk,ok.exf,ok.bs,ok.bsz,ok.noex,ok.exfs,ok.funs,ok.frf⟩
section
variable {X:Cx} {pins:List (Addr × Obj)} {σ : St} {H:Hp} {s:Shared} {E:Value→Shared→Prop}
theorem Inv.wish (I:Inv X pins σ H s) (E:Value→Shared→Prop):Inv (X.wish E) pins σ H s:=⟨I.ok.wish E,I.os,I.bare,I.base,I.loc,I.cell,I.free,I.freeC,I.pin,I.hok,I.len⟩
theorem Inv.unwish (I:Inv (X.wish E) pins σ H s):Inv X pins σ H s:=⟨I.ok.unwish,I.os,I.bare,I.base,I.loc,I.cell,I.free,I.freeC,I.pin,I.hok,I.len⟩
theorem SP.unwish {D:Ends} {f:Flow} {s':Shared} (h:SP (X.wish E) pins D f s'):SP X pins D f s':=by
  cases f with
  | next=>obtain ⟨σ',H',I,q⟩:=h;exact ⟨σ',H',I.unwish,q⟩
  | brk=>obtain ⟨σ',H',I,q⟩:=h;exact ⟨σ',H',I.unwish,q⟩
  | cont=>obtain ⟨σ',H',I,q⟩:=h;exact ⟨σ',H',I.unwish,q⟩
  | ret u=>obtain ⟨v, σ',H',I,r,q⟩:=h;exact ⟨v, σ',H',I.unwish,r,q⟩
theorem PSs.nox {st:List Stmt} {t:TS} (h:PSs X.nox st t):PSs X st t:=fun pins s σ H D I hw =>
  wpAny_mono (h pins s σ H D (I.wish _) hw) (fun _ _ q=>q.unwish) fun _ _ z=>False.elim z
end

section
variable {X:Cx} {st:Stmt} {rest:List Stmt} {t u:TS} {e:Expr} {te:TE} {pos:Pos}
noncomputable def tNext:TS:=fun D σ H=>D.nx σ H
noncomputable def tSeq (t u:TS):TS:=fun D σ H=>t { D with nx:=u D } σ H
theorem pss_nil:PSs X [] tNext:=fun _ _ σ H _ I h=>wpAny_execs_nil ⟨σ,H,I,h⟩
theorem pss_cons (h1:PS X st t) (h2:PSs X rest u):PSs X (st :: rest) (tSeq t u):=by
  intro pins s σ H D I h
  refine wpAny_execs_cons (thn (h1 pins s σ H { D with nx:=u D } I h) fun f s1 q => ?_)
  cases f with
  | next =>
    obtain ⟨σ',H',I',q⟩:=q
    exact h2 pins s1 σ' H' D I' q
  | ret v=>exact q
  | brk=>exact q
  | cont=>exact q
theorem pss_one (h1:PS X st t):PSs X [st] t:=by
  intro pins s σ H D I h
  refine wpAny_execs_cons (thn (h1 pins s σ H D I h) fun f s1 q => ?_)
  cases f with
  | next=>exact wpAny_execs_nil q
  | ret v=>exact q
  | brk=>exact q
  | cont=>exact q
theorem ps_pass:PS X (.Pass pos) tNext:=fun _ _ σ H _ I h=>wpAny_Pass ⟨σ,H,I,h⟩
theorem Inv.quiet {pins:List (Addr × Obj)} {σ : St} {H:Hp} {s:Shared} (I:Inv X pins σ H s):interactive X.env=false:=by simp [interactive,I.ok.kind]
noncomputable def tDrop (te:TE):TS:=fun D σ H=>te σ H fun _ H1=>D.nx σ H1
theorem ps_expr (he:PE X e te) (hs:swapsWith e none pos.line X.env=pure false:=by rfl):PS X (.Expr e pos) (tDrop te):=by
  intro pins s σ H D I h
  exact wpAny_Expr_any (thn (he pins s σ H _ I h) fun v s1 ⟨x,H1,I1,r1,q1⟩=>⟨σ,H1,I1,q1⟩) I.quiet hs
noncomputable def tRet (te:TE):TS:=fun D σ H=>te σ H D.rt
theorem ps_ret (he:PE X e te):PS X (.Return (some e) pos) (tRet te):=by
  intro pins s σ H D I h
  exact wpAny_Return_some (thn (he pins s σ H _ I h) fun v s1 ⟨x,H1,I1,r1,q1⟩=>⟨x, σ,H1,I1,r1,q1⟩)
noncomputable def tIfS (c:TT) (t u:TS):TS:=fun D σ H=>c σ H fun b H1=>if b=true then t D σ H1 else u D σ H1
theorem ps_if {c:Expr} {a b:List Stmt} {tc:TT} (hc:PT X c tc) (ha:PSs X a t) (hb:PSs X b u):PS X (.If c a b pos) (tIfS tc t u):=by
  intro pins s σ H D I h
  refine wpAny_If (thn (hc pins s σ H _ I h) fun d s1 ⟨H1,I1,q1⟩ => ?_)
  cases d with
  | true=>exact ha pins s1 σ H1 D I1 q1
  | false=>exact hb pins s1 σ H1 D I1 q1
end

noncomputable abbrev TG:=V→St→Hp→(St→Hp→Prop)→Prop
noncomputable abbrev TGs:=List V→St→Hp→(St→Hp→Prop)→Prop
noncomputable def PG (X:Cx) (target:Expr) (t:TG):Prop :=
  ∀ (pins:List (Addr × Obj)) (s:Shared) (σ : St) (H:Hp) (v:V) (u:Value) (Q:St→Hp→Prop),Inv X pins σ H s→RelV v u→t v σ H Q →
    wpAny (model X.prog X.w) X.A (assign target X.env u) (fun _ s'=>∃ σ' H',Inv X pins σ' H' s'∧Q σ' H') X.xe s
noncomputable def PGs (X:Cx) (ts:List Expr) (t:TGs):Prop :=
  ∀ (pins:List (Addr × Obj)) (s:Shared) (σ : St) (H:Hp) (vs:List V) (us:List Value) (Q:St→Hp→Prop),Inv X pins σ H s→Vals vs us→t vs σ H Q →
    wpAny (model X.prog X.w) X.A (assignInOrder ((assignEach ts X.env).map (·.2)) us) (fun _ s'=>∃ σ' H',Inv X pins σ' H' s'∧Q σ' H') X.xe s
noncomputable abbrev TSet:=V→V→V→Hp→(Hp→Prop)→Prop
noncomputable def PSet (X:Cx) (t:TSet):Prop :=
  ∀ (pins:List (Addr × Obj)) (s:Shared) (σ : St) (H:Hp) (o i v:V) (ov iv u:Value) (Q:Hp→Prop),Inv X pins σ H s→RelV o ov→RelV i iv→RelV v u→t o i v H Q →
    wpAny (model X.prog X.w) X.A (setItem ov iv u) (fun _ s'=>∃ H',Inv X pins σ H' s'∧Q H') X.xe s
section
variable {X:Cx} {pos:Pos}
noncomputable def gName (i:Nat):TG:=fun v σ H Q=>Q (σ.set i (some v)) H
theorem pg_name {i:Nat} {x:Str} (hN:X.N.Nodup) (hi:X.N[i]? = some x) (hx:Loc X.env.scope x) (hf:X.fn x=true∨X.env.scope.names.lookup x=some .local:=by first | exact .inl rfl | exact .inr rfl | assumption):PG X (.Name x pos) (gName i):=by
  intro pins s σ H v u Q I r h
  exact wpAny_assign_Name (store_ok I hN hi hx r (fun s' I'=>⟨_,H,I',h⟩) hf)
noncomputable def gNil:TGs:=fun vs σ H Q=>vs = []∧Q σ H
inductive J_gCons (t:TG) (u:TGs) (vs:List V) (σ : St) (H:Hp) (Q:St→Hp→Prop):Prop
  | mk:∀ v r,(vs=v :: r)→(t v σ H fun σ' H'=>u r σ' H' Q)→J_gCons t u vs σ H Q
noncomputable def gCons (t:TG) (u:TGs):TGs:=fun vs σ H Q=>J_gCons t u vs σ H Q
theorem pgs_nil:PGs X [] gNil:=by
  intro pins s σ H vs us Q I r h
  obtain ⟨e,h⟩:=h
  subst e
  cases r
  exact assignInOrder_nil ⟨σ,H,I,h⟩
theorem pgs_cons {e:Expr} {es:List Expr} {t:TG} {u:TGs} (h1:PG X e t) (h2:PGs X es u)
    (hs:(assignEach (e :: es) X.env).map (·.2)=assign e X.env :: (assignEach es X.env).map (·.2):=by rfl):PGs X (e :: es) (gCons t u):=by
  intro pins s σ H vs us Q I r h
  obtain ⟨v,vr,e1,h⟩:=h
  subst e1
  cases r with
  | cons r rr =>
    rw [hs]
    refine assignInOrder_cons (thn (h1 pins s σ H _ _ _ I r h) fun _ s1 ⟨σ1,H1,I1,q1⟩ => ?_)
    exact h2 pins s1 σ1 H1 _ _ Q I1 rr q1
inductive J_gTup (K:PySem.W.Frag) (n:Nat) (t:TGs) (v:V) (σ : St) (H:Hp) (Q:St→Hp→Prop):Prop
  | mk:∀ a xs,(v = .ref a)→(SqT K H a xs)→(xs.length=n)→(t xs σ H Q)→J_gTup K n t v σ H Q
noncomputable def gTup (K:PySem.W.Frag) (n:Nat) (t:TGs):TG:=fun v σ H Q=>J_gTup K n t v σ H Q
theorem pg_tup {es:List Expr} {k:Nat} {t:TGs} {n:Nat} (hc:X.calm=true) (h:PGs X es t)
    (hn:(assignEach es X.env).length=n:=by rfl) (hst:(assignEach es X.env).findIdx? (·.1)=none:=by rfl):PG X (.Tuple es k pos) (gTup X.K n t):=by
  intro pins s σ H v u Q I r hw
  obtain ⟨a,xs,e1,hq,hl,hw⟩:=hw
  subst e1
  cases r
  obtain ⟨its,rv,ht,hz⟩:=I.tuple hq
  refine assign_Tuple_tuple (I.ok.hd hc) ht (by simp [hn, ← hl,rv.length]) hst fun h' hx => ?_
  have I1:Inv X pins σ H { s with heap:=h' }:=I.kept (t':=s.toks) fun b o e=>hx b o (Nat.ne_of_lt (Heap.lt_size e)) e
  exact h pins _ σ H xs _ Q I1 (by simpa using rv) hw
noncomputable def gSub (to ti:TE) (t:TSet):TG:=fun v σ H Q=>to σ H fun o H1=>ti σ H1 fun i H2=>t o i v H2 fun H3=>Q σ H3
theorem pg_sub {o i:Expr} {to ti:TE} {t:TSet} (ho:PE X o to) (hi:PE X i ti) (hs:PSet X t)
    (ha:∀ v,assign (.Subscript o i pos) X.env v=(do
      let ov ← holding [v] (eval o X.env)
      let iv ← holding [v,ov] (eval i X.env)
      standAt pos
      holding [v,ov,iv] (setItem ov iv v)
      release [v,ov,iv] []):=by intro _;rfl):PG X (.Subscript o i pos) (gSub to ti t):=by
  intro pins s σ H v u Q I r h
  rw [ha]
  refine wpAny_bind (wpAny_holding (thn (ho pins s σ H _ I h) fun ov s1 ⟨x,H1,I1,r1,q1⟩ => ?_))
  refine wpAny_bind (wpAny_holding (thn (hi pins s1 σ H1 _ I1 q1) fun iv s2 ⟨y,H2,I2,r2,q2⟩ => ?_))
  refine wpAny_bind (wpAny_standAt (wpAny_bind (wpAny_holding (thn (hs pins s2 σ H2 x y v ov iv u _ I2 r1 r2 r q2) fun _ s3 ⟨H3,I3,q3⟩ => ?_))))
  exact wpAny_release ⟨σ,H3,I3,q3⟩
noncomputable def tAsg (te:TE) (g:TG):TS:=fun D σ H=>te σ H fun x H1=>g x σ H1 D.nx
theorem ps_asg {tg e:Expr} {te:TE} {g:TG} (he:PE X e te) (hg:PG X tg g) (hs:swapsWithSole [tg] e pos.line X.env=pure false:=by rfl) (hw:swappedStores [tg] e X.env=pure none:=by rfl)
    (h1:(assignEach [tg] X.env).map (·.2) = [assign tg X.env]:=by rfl):PS X (.Assign [tg] e pos) (tAsg te g):=by
  intro pins s σ H D I h
  refine wpAny_Assign_stores (thn (he pins s σ H _ I h) fun v s1 ⟨x,H1,I1,r1,q1⟩ => ?_) hs hw
  rw [h1]
  exact thn (hg pins s1 σ H1 x v _ I1 r1 q1) fun _ s2 q=>q
theorem ps_set {i:Nat} {x:Str} {e:Expr} {te:TE} {pos':Pos} (hN:X.N.Nodup) (hi:X.N[i]? = some x) (hx:Loc X.env.scope x) (he:PE X e te) (hs:swapsWith e (some (.Name x pos')) pos.line X.env=pure false:=by rfl) (hf:X.fn x=true∨X.env.scope.names.lookup x=some .local:=by first | exact .inl rfl | exact .inr rfl | assumption) :
    PS X (.Assign [.Name x pos'] e pos) (tAsg te (gName i)):=by
  intro pins s σ H D I h
  refine wpAny_Assign_Name (thn (he pins s σ H _ I h) fun v s1 ⟨y,H1,I1,r1,q1⟩ => ?_) hs
  exact store_ok I1 hN hi hx r1 (fun s2 I2=>⟨_,H1,I2,q1⟩) hf
end

section
variable {X:Cx} {pos:Pos}
noncomputable def tWhile (c:TT) (tb:TS):TS:=fun D σ H=>∃ W:Nat→St→Hp→Prop,(∃ m,W m σ H)∧∀ m σ H,W m σ H →
  c σ H fun b H1=>if b=true then ∃ N:St→Hp→Prop,(∀ σ' H',N σ' H'→∃ m',m' < m∧W m' σ' H')∧tb { D with nx:=N,ct:=N,bk:=D.nx } σ H1 else D.nx σ H1
theorem ps_while {c:Expr} {body:List Stmt} {tc:TT} {tb:TS} (hp:PassesOwn (model X.prog X.w) X.A X.env X.xe) (hc:PT X c tc) (hb:PSs X body tb):PS X (.While c body [] pos) (tWhile tc tb):=by
  intro pins s σ H D I h
  obtain ⟨W,⟨m0,w0⟩,turn⟩:=h
  refine wpAny_While (codeAny_whileLoop (fun n s'=>∃ σ' H',Inv X pins σ' H' s'∧W n σ' H') ?_ m0 ⟨σ,H,I,w0⟩)
  rintro n s1 ⟨σ1,H1,I1,w1⟩
  refine wpAny_passesOwn hp (thn (hc pins s1 σ1 H1 _ I1 (turn n σ1 H1 w1)) fun b s2 ⟨H2,I2,q2⟩ => ?_)
  cases b with
  | true =>
    obtain ⟨N,hN,q2⟩:=q2
    rw [if_pos rfl]
    refine wpAny_passesOwn hp (thn (hb pins s2 σ1 H2 _ I2 q2) fun f s3 q3 => ?_)
    cases f with
    | next =>
      obtain ⟨σ3,H3,I3,n3⟩:=q3
      obtain ⟨m',hm,w3⟩:=hN σ3 H3 n3
      exact ⟨m',hm, σ3,H3,I3,w3⟩
    | cont =>
      obtain ⟨σ3,H3,I3,n3⟩:=q3
      obtain ⟨m',hm,w3⟩:=hN σ3 H3 n3
      exact ⟨m',hm, σ3,H3,I3,w3⟩
    | brk=>exact q3
    | ret v=>exact q3
  | false =>
    rw [if_neg Bool.false_ne_true]
    exact wpAny_execs_nil ⟨σ1,H2,I2,q2⟩
end

structure It where
  go:Nat→Hp→Prop
  yld:Nat→Hp→V→Hp→Prop
  stop:Nat→Hp→Prop
noncomputable def FpOk (X:Cx) (pins:List (Addr × Obj)) (H:Hp) (b:Addr):Prop :=
  H b=none∧b≠X.env.locals∧b ∉ X.fs∧(b∈X.ex∨X.s₀.heap.objs.size≤b)∧(∀ x c,X.env.cells.lookup x=some c→c≠b)∧∀ p∈X.pn ++ pins,p.1≠b
theorem Inv.fpOk {X:Cx} {pins:List (Addr × Obj)} {σ : St} {H H':Hp} {s:Shared} {b:Addr} (I:Inv X pins σ H s) (hb:s.heap.objs.size≤b) (hn:H' b=none):FpOk X pins H' b:=by
  refine ⟨hn,Nat.ne_of_gt (Nat.lt_of_lt_of_le I.lt hb),I.nofs hb,.inr (Nat.le_trans I.sz hb),fun x c e z => ?_,fun p hp z => ?_⟩
  · obtain ⟨v,q⟩:=I.cell x c e
    exact absurd (Nat.lt_of_lt_of_le q.lt (by rw [z];exact hb)) (Nat.lt_irrefl _)
  · exact absurd (Nat.lt_of_lt_of_le (Heap.lt_size (I.pin p hp).1) (by rw [z];exact hb)) (Nat.lt_irrefl _)
structure Turn (P:Program) (w:World) (K:PySem.W.Frag) (tg:Expr) (J:It) (fp:List Addr) (it:Addr) (tn:Nat→Heap→Prop):Prop where
  mem:it∈fp
  obj:∀ i h,tn i h→∀ b∈fp,∃ o,h.get? b=some o∧∀ v,o.data ≠ .cell v
  keep:∀ i h h',tn i h→(∀ b∈fp,∀ o,h.get? b=some o→h'.get? b=some o)→tn i h'
  item:∀ (X:Cx),X.prog=P→X.w=w→X.K=K→X.calm=true→∀ (i:Nat) (pins:List (Addr × Obj)) (s:Shared) (σ : St) (H:Hp) (E:Value→Shared→Prop),Inv X pins σ H s→(∀ b∈fp,FpOk X pins H b)→tn i s.heap→J.go i H →
    wpAny (model P w) X.A (pyNext (.ref it)) (fun r s1=>∃ u,r=some u ∧
      wpAny (model P w) X.A (letOwnedTupleGo tg (.ref it) u) (fun _ s2=>∃ x H',Inv X pins σ H' s2∧RelV x u∧J.yld i H x H'∧tn (i+1) s2.heap∧∀ b∈fp,H' b=none) E s1) E s
  done:∀ (X:Cx),X.prog=P→X.w=w→X.K=K→X.calm=true→∀ (i:Nat) (pins:List (Addr × Obj)) (s:Shared) (σ : St) (H:Hp) (E:Value→Shared→Prop),Inv X pins σ H s→(∀ b∈fp,FpOk X pins H b)→tn i s.heap→J.stop i H →
    wpAny (model P w) X.A (pyNext (.ref it)) (fun r s1=>r=none∧Inv X pins σ H s1) E s
  self:∀ (A:Around) (i:Nat) (s:Shared) (Q:Value→Shared→Prop) (E:Value→Shared→Prop),tn i s.heap→Q (.ref it) s→wpAny (model P w) A (pyIter (.ref it)) Q E s
noncomputable abbrev TI:=St→Hp→(It→Hp→Prop)→Prop
noncomputable def PIE (X:Cx) (pins:List (Addr × Obj)) (σ : St) (tg:Expr) (R:It→Hp→Prop) (itv:Value) (s2:Shared):Prop :=
  ∃ (it:Addr) (fp:List Addr) (tn:Nat→Heap→Prop) (J:It) (H':Hp),itv = .ref it∧Inv X pins σ H' s2∧Turn X.prog X.w X.K tg J fp it tn∧tn 0 s2.heap∧(∀ b∈fp,FpOk X pins H' b)∧R J H'
noncomputable def PI (X:Cx) (tg iter:Expr) (wi:TI):Prop :=
  ∀ (pins:List (Addr × Obj)) (s:Shared) (σ : St) (H:Hp) (R:It→Hp→Prop),Inv X pins σ H s→wi σ H R →
    wpAny (model X.prog X.w) X.A (eval iter X.env) (fun v s1=>wpAny (model X.prog X.w) X.A (pyIter v) (PIE X pins σ tg R) X.xe s1) X.xe s

theorem go_of {M:Model} {A:Around} {E:Value→Shared→Prop} {s:Shared} {tg:Expr} {it:Addr} {u:Value} {o:Obj} {n:String} {vs:Array Value} {Q:Unit→Shared→Prop} (ho:s.heap.get? it=some o) (hc:o.cls = .type n) (hd:o.data = .fields vs)
    (hn : ["enumerate", "zip", "dict_itemiterator", "dict_reverseitemiterator", "odict_iterator", "itertools.zip_longest", "itertools.pairwise"].contains n=false) (hQ:Q () s):wpAny M A (letOwnedTupleGo tg (.ref it) u) Q E s:=by
  unfold letOwnedTupleGo
  cases tg <;> first
    | exact wpAny_pure hQ
    | (cases u <;> first
        | exact wpAny_pure hQ
        | (refine wpAny_bind (wpAny_load ho ?_)
           rw [hc,hd]
           show wpAny M A (if (["enumerate", "zip", "dict_itemiterator", "dict_reverseitemiterator", "odict_iterator", "itertools.zip_longest", "itertools.pairwise"].contains n && vs[0]? == some (rawInt _))=true then _ else _) Q E s
           rw [if_neg (by intro h;rw [hn,Bool.false_and] at h;cases h)]
           exact wpAny_pure hQ))

noncomputable def Itl (K:PySem.W.Frag) (a:Addr):It :=
  ⟨fun i H=>∃ xs x,SqL K H a xs∧xs[i]? = some x,fun i H x H'=>H'=H∧∀ xs,SqL K H a xs→xs[i]? = some x,fun i H=>∃ xs,SqL K H a xs∧xs.length≤i⟩
noncomputable def Itt (K:PySem.W.Frag) (a:Addr):It :=
  ⟨fun i H=>∃ xs x,SqT K H a xs∧xs[i]? = some x,fun i H x H'=>H'=H∧∀ xs,SqT K H a xs→xs[i]? = some x,fun i H=>∃ xs,SqT K H a xs∧xs.length≤i⟩
noncomputable def Itr (lo:Int) (n:Nat):It:=⟨fun i _=>i < n,fun i H x H'=>H'=H∧x = .int (lo+i),fun i _=>n≤i⟩
theorem turn_list {P:Program} {w:World} {K:PySem.W.Frag} {tg:Expr} (a it:Addr):Turn P w K tg (Itl K a) [it] it (fun i h=>h.IsListIter it a i) where
  mem:=by simp
  obj:=fun i h st b hb=>by
    have e:b=it:=by simpa using hb
    subst e
    obtain ⟨o,e,c,d⟩:=st
    exact ⟨o,e,fun v z=>by rw [d] at z;cases z⟩
  keep:=fun i h h' st k=>st.at fun o e=>k it (by simp) o e
  item:=by
    intro X hP hw hK hc i pins s σ H E I hf st hg
    subst hP hw hK
    obtain ⟨xs,x,hq,hx⟩:=hg
    obtain ⟨its,rv,p,hz⟩:=I.list hq
    obtain ⟨u,hu,ru⟩:=rv.get hx
    obtain ⟨f0,f1,f2,f3,f4,f5⟩:=hf it (by simp)
    refine wpAny_pyNext_list_item st p.isList (x:=u) (by simpa using hu) fun h' st' sb => ?_
    have I1:Inv X pins σ H { s with heap:=h' }:=I.turned (t':=s.toks) (fun b o hb e=>(sb.2 b hb).trans e) f0 f1 f3 f4 f5
    obtain ⟨o,e,c,d⟩:=id st'
    exact ⟨u,rfl,go_of (s := { s with heap:=h' }) e c d (by decide) ⟨x,H,I1,ru,⟨rfl,fun ys hy=>by rw [I.list_inj hy hq];exact hx⟩,st',fun b hb=>(hf b hb).1⟩⟩
  done:=by
    intro X hP hw hK hc i pins s σ H E I hf st hg
    subst hP hw hK
    obtain ⟨xs,hq,hx⟩:=hg
    obtain ⟨its,rv,p,hz⟩:=I.list hq
    obtain ⟨f0,f1,f2,f3,f4,f5⟩:=hf it (by simp)
    have hl:=rv.length
    exact wpAny_pyNext_list_end (I.ok.hd hc) st p.isList (by simp;omega) fun h' eb=>⟨rfl,I.turned (t':=s.toks) (fun b o hb e=>eb b o hb e) f0 f1 f3 f4 f5⟩
  self:=fun _ _ _ _ _ st h=>wpAny_pyIter_listiter st h
theorem turn_tuple {P:Program} {w:World} {K:PySem.W.Frag} {tg:Expr} (a it:Addr):Turn P w K tg (Itt K a) [it] it (fun i h=>h.IsTupleIter it a i) where
  mem:=by simp
  obj:=fun i h st b hb=>by
    have e:b=it:=by simpa using hb
    subst e
    obtain ⟨o,e,c,d⟩:=st
    exact ⟨o,e,fun v z=>by rw [d] at z;cases z⟩
  keep:=fun i h h' st k=>st.at fun o e=>k it (by simp) o e
  item:=by
    intro X hP hw hK hc i pins s σ H E I hf st hg
    subst hP hw hK
    obtain ⟨xs,x,hq,hx⟩:=hg
    obtain ⟨its,rv,p,hz⟩:=I.tuple hq
    obtain ⟨u,hu,ru⟩:=rv.get hx
    obtain ⟨f0,f1,f2,f3,f4,f5⟩:=hf it (by simp)
    refine wpAny_pyNext_tuple_item st (show s.heap.IsTuple a its.toArray from p) (x:=u) (by simpa using hu) fun h' st' sb => ?_
    have I1:Inv X pins σ H { s with heap:=h' }:=I.turned (t':=s.toks) (fun b o hb e=>(sb.2 b hb).trans e) f0 f1 f3 f4 f5
    obtain ⟨o,e,c,d⟩:=id st'
    exact ⟨u,rfl,go_of (s := { s with heap:=h' }) e c d (by decide) ⟨x,H,I1,ru,⟨rfl,fun ys hy=>by rw [I.tuple_inj hy hq];exact hx⟩,st',fun b hb=>(hf b hb).1⟩⟩
  done:=by
    intro X hP hw hK hc i pins s σ H E I hf st hg
    subst hP hw hK
    obtain ⟨xs,hq,hx⟩:=hg
    obtain ⟨its,rv,p,hz⟩:=I.tuple hq
    obtain ⟨f0,f1,f2,f3,f4,f5⟩:=hf it (by simp)
    have hl:=rv.length
    exact wpAny_pyNext_tuple_end (I.ok.hd hc) st (show s.heap.IsTuple a its.toArray from p) (by simp;omega) fun h' eb=>⟨rfl,I.turned (t':=s.toks) (fun b o hb e=>eb b o hb e) f0 f1 f3 f4 f5⟩
  self:=fun _ _ _ _ _ st h=>wpAny_pyIter_tupleiter st h
theorem turn_range {P:Program} {w:World} {K:PySem.W.Frag} {tg:Expr} (it:Addr) (lo:Int) (n:Nat):Turn P w K tg (Itr lo n) [it] it (fun i h=>IsRangeIter h it (lo+(i:Nat) * 1) ((n:Int) - (i:Nat)) 1) where
  mem:=by simp
  obj:=fun i h st b hb=>by
    have e:b=it:=by simpa using hb
    subst e
    exact ⟨_,st,fun v z=>by
      have z':Data.fields _=Data.cell v:=z
      cases z'⟩
  keep:=fun i h h' st k=>k it (by simp) _ st
  item:=by
    intro X hP hw hK hc i pins s σ H E I hf st hg
    subst hP hw hK
    obtain ⟨f0,f1,f2,f3,f4,f5⟩:=hf it (by simp)
    have W:=Walks.range (prog:=X.prog) (w:=X.w) (I.ok.hd hc) it lo 1 n
    refine W.item i s _ _ hg st fun v h' tk hv st' kk => ?_
    obtain ⟨t,rfl⟩:=hv
    have I1:Inv X pins σ H { s with heap:=h',toks:=tk }:=I.turned (fun b o hb e=>kk b o (by simpa using hb) e) f0 f1 f3 f4 f5
    refine ⟨_,rfl,go_of (s := { s with heap:=h',toks:=tk }) (n := "range_iterator") st' rfl rfl (by decide) ⟨.int (lo+i),H,I1,⟨t,?_⟩,⟨rfl,rfl⟩,st',fun b hb=>(hf b hb).1⟩⟩
    rw [Int.mul_one]
  done:=by
    intro X hP hw hK hc i pins s σ H E I hf st hg
    subst hP hw hK
    obtain ⟨f0,f1,f2,f3,f4,f5⟩:=hf it (by simp)
    exact wpAny_pyNext_range_end (I.ok.hd hc) st (by have:n≤i:=hg;omega) fun h' eb=>⟨rfl,I.turned (t':=s.toks) (fun b o hb e=>eb b o hb e) f0 f1 f3 f4 f5⟩
  self:=fun _ _ _ _ _ st h=>wpAny_pyIter_rangeiter st h
end L2

namespace L2
open PySem PySem.Spec PyProof.Rows
section
variable {X:Cx} {tg:Expr}
inductive J_iList (K:PySem.W.Frag) (R:It→Hp→Prop) (x:V) (H1:Hp):Prop
  | mk:∀ a,(x = .ref a)→((∃ xs,SqL K H1 a xs))→(R (Itl K a) H1)→J_iList K R x H1
noncomputable def iList (K:PySem.W.Frag) (tl:TE):TI:=fun σ H R=>tl σ H fun x H1=>J_iList K R x H1
inductive J_iTup (K:PySem.W.Frag) (R:It→Hp→Prop) (x:V) (H1:Hp):Prop
  | mk:∀ a,(x = .ref a)→((∃ xs,SqT K H1 a xs))→(R (Itt K a) H1)→J_iTup K R x H1
noncomputable def iTup (K:PySem.W.Frag) (tl:TE):TI:=fun σ H R=>tl σ H fun x H1=>J_iTup K R x H1
theorem pi_list {l:Expr} {tl:TE} (hl:PE X l tl):PI X tg l (iList X.K tl):=by
  intro pins s σ H R I h
  refine thn (hl pins s σ H _ I h) fun v s1 ⟨x,H1,I1,r1,q1⟩ => ?_
  obtain ⟨a,e,⟨xs,hq⟩,q⟩:=q1
  subst e
  cases r1
  obtain ⟨its,rv,p,hz⟩:=I1.list hq
  refine wpAny_pyIter_list p.isList ?_
  refine ⟨s1.heap.objs.size, [s1.heap.objs.size],_,_,H1,rfl,I1.kept (t':=s1.toks) fun b o e=>Heap.get?_push_of_some _ e,turn_list a _,⟨_,Heap.get?_push_size _ rfl,rfl,rfl⟩,fun b hb => ?_,q⟩
  have e:b=s1.heap.objs.size:=by simpa using hb
  subst e
  exact I1.fpOk (Nat.le_refl _) (I1.hok.fresh (Nat.le_refl _))
theorem pi_tup {l:Expr} {tl:TE} (hl:PE X l tl):PI X tg l (iTup X.K tl):=by
  intro pins s σ H R I h
  refine thn (hl pins s σ H _ I h) fun v s1 ⟨x,H1,I1,r1,q1⟩ => ?_
  obtain ⟨a,e,⟨xs,hq⟩,q⟩:=q1
  subst e
  cases r1
  obtain ⟨its,rv,p,hz⟩:=I1.tuple hq
  refine wpAny_pyIter_tuple (show s1.heap.IsTuple a its.toArray from p) ?_
  refine ⟨s1.heap.objs.size, [s1.heap.objs.size],_,_,H1,rfl,I1.kept (t':=s1.toks) fun b o e=>Heap.get?_push_of_some _ e,turn_tuple a _,⟨_,Heap.get?_push_size _ rfl,rfl,rfl⟩,fun b hb => ?_,q⟩
  have e:b=s1.heap.objs.size:=by simpa using hb
  subst e
  exact I1.fpOk (Nat.le_refl _) (I1.hok.fresh (Nat.le_refl _))
theorem range_it {pins:List (Addr × Obj)} {σ : St} {H:Hp} {s:Shared} {R:It→Hp→Prop} {E:Value→Shared→Prop} {lo hi:Int} {t u v:Tok} {tk:Nat} (I:Inv X pins σ H s) (h1 : -(2 ^ 62)≤lo) (h2:lo < 2 ^ 62) (h3 : -(2 ^ 62)≤hi) (h4:hi < 2 ^ 62)
    (q:R (Itr lo (hi - lo).toNat) H):wpAny (model X.prog X.w) X.A (pyIter (.ref s.heap.objs.size)) (PIE X pins σ tg R) E { s with heap:=s.heap.push { cls := .type "range",data := .fields #[.int lo t,.int hi u,.int 1 v] },toks:=tk }:=by
  refine wpAny_pyIter_range (IsRange.new ..) (small_one h1 h2 h3 h4) ?_
  have I1:Inv X pins σ H { s with heap:=s.heap.push { cls := .type "range",data := .fields #[.int lo t,.int hi u,.int 1 v] },toks:=tk }:=I.kept fun b o e=>Heap.get?_push_of_some _ e
  refine ⟨(s.heap.push { cls := .type "range",data := .fields #[.int lo t,.int hi u,.int 1 v] }).objs.size, [(s.heap.push { cls := .type "range",data := .fields #[.int lo t,.int hi u,.int 1 v] }).objs.size],_,_,H,rfl,
    I1.kept (t':=tk) fun b o e=>Heap.get?_push_of_some _ e,turn_range _ lo (hi - lo).toNat,?_,fun b hb => ?_,q⟩
  · have e1:lo+((0:Nat):Int) * 1=lo:=by simp
    have e2:(((hi - lo).toNat:Nat):Int) - ((0:Nat):Int)=Builtin.Range.rangeSize lo hi 1:=by rw [rangeSize_one];split <;> omega
    show IsRangeIter _ _ (lo+((0:Nat):Int) * 1) ((((hi - lo).toNat:Nat):Int) - ((0:Nat):Int)) 1
    rw [e1,e2]
    exact Heap.get?_push_size _ rfl
  · have e:b=(s.heap.push { cls := .type "range",data := .fields #[.int lo t,.int hi u,.int 1 v] }).objs.size:=by simpa using hb
    subst e
    exact I1.fpOk (Nat.le_refl _) (I1.hok.fresh (Nat.le_refl _))
inductive J_iRng1 (R:It→Hp→Prop) (vs:List V) (H1:Hp):Prop
  | mk:∀ (j:Int),(vs = [.int j])→(-(2 ^ 62)≤j)→(j < 2 ^ 62)→(R (Itr 0 j.toNat) H1)→J_iRng1 R vs H1
noncomputable def iRng1 (ta:TA):TI:=fun σ H R=>ta σ H fun vs H1=>J_iRng1 R vs H1
inductive J_iRng2 (R:It→Hp→Prop) (vs:List V) (H1:Hp):Prop
  | mk:∀ (i j:Int),(vs = [.int i,.int j])→((-(2 ^ 62)≤i∧i < 2 ^ 62 ∧ -(2 ^ 62)≤j∧j < 2 ^ 62))→(R (Itr i (j - i).toNat) H1)→J_iRng2 R vs H1
noncomputable def iRng2 (ta:TA):TI:=fun σ H R=>ta σ H fun vs H1=>J_iRng2 R vs H1
theorem pi_range1 {a:Expr} {ta:TA} {p pos:Pos} (hg:Gl X "range") (hm:X.mg "range" = none) (ha:PA X [a] ta) (hs:starEach [a] X.env = [(false,eval a X.env)]:=by rfl):PI X tg (.Call (.Name "range" p) [a] [] pos) (iRng1 ta):=by
  intro pins s σ H R I h
  refine Call_ (ld_blt I hg hm boot_range (PyProof.Rows.callWith_type1 (thn (ha pos pins s σ H _ I h) fun us s1 ⟨vs,H1,I1,r1,q1⟩ => ?_) hs rfl))
  obtain ⟨j,e,q1,q2,q⟩:=q1
  subst e
  cases r1 with
  | cons r rr =>
    cases rr
    obtain ⟨t,rfl⟩:=r
    exact call_range_1 (range_it I1 (by omega) (by omega) q1 q2 (by simpa using q))
theorem pi_range2 {a b:Expr} {ta:TA} {p pos:Pos} (hg:Gl X "range") (hm:X.mg "range" = none) (ha:PA X [a,b] ta) (hs:starEach [a,b] X.env = [(false,eval a X.env),(false,eval b X.env)]:=by rfl) (hs2:starEach [b] X.env = [(false,eval b X.env)]:=by rfl) :
    PI X tg (.Call (.Name "range" p) [a,b] [] pos) (iRng2 ta):=by
  intro pins s σ H R I h
  refine Call_ (ld_blt I hg hm boot_range (PyProof.Rows.callWith_type1 (thn (ha pos pins s σ H _ I h) fun us s1 ⟨vs,H1,I1,r1,q1⟩ => ?_) (by rw [hs,hs2]) (by rw [hs2];rfl)))
  obtain ⟨i,j,e,⟨q1,q2,q3,q4⟩,q⟩:=q1
  subst e
  cases r1 with
  | cons r rr =>
    cases rr with
    | cons r' rr =>
      cases rr
      obtain ⟨t,rfl⟩:=r
      obtain ⟨t',rfl⟩:=r'
      exact call_range_2 (range_it I1 q1 q2 q3 q4 q)

noncomputable def tFor (wi:TI) (g:TG) (tb:TS):TS:=fun D σ H=>wi σ H fun J H1=>∃ W:Nat→Nat→St→Hp→Prop,(∃ m,W 0 m σ H1)∧∀ i m σ H,W i m σ H →
  (J.stop i H∧D.nx σ H)∨(J.go i H∧∃ N:St→Hp→Prop,(∀ σ' H',N σ' H'→∃ m',m' < m∧W (i+1) m' σ' H')∧∀ x H',J.yld i H x H'→g x σ H' fun σ2 H2=>tb { D with nx:=N,ct:=N,bk:=D.nx } σ2 H2)
noncomputable def pinsAt (fp:List Addr) (h:Heap):List (Addr × Obj):=fp.filterMap fun b=>(h.get? b).map fun o=>(b,o)
theorem mem_pinsAt {fp:List Addr} {h:Heap} {b:Addr} {o:Obj} (hb:b∈fp) (e:h.get? b=some o):(b,o)∈pinsAt fp h:=List.mem_filterMap.mpr ⟨b,hb,by rw [e];rfl⟩
theorem of_pinsAt {fp:List Addr} {h:Heap} {p:Addr × Obj} (hp:p∈pinsAt fp h):p.1∈fp∧h.get? p.1=some p.2:=by
  obtain ⟨b,hb,e⟩:=List.mem_filterMap.mp hp
  cases q:h.get? b with
  | none=>rw [q] at e;cases e
  | some o =>
    rw [q] at e
    have e':(b,o)=p:=Option.some.inj e
    subst e'
    exact ⟨hb,q⟩
theorem Inv.pinned {pins:List (Addr × Obj)} {σ : St} {H:Hp} {s:Shared} {fp:List Addr} (I:Inv X pins σ H s) (hf:∀ b∈fp,FpOk X pins H b) (ho:∀ b∈fp,∃ o,s.heap.get? b=some o∧∀ v,o.data ≠ .cell v):Inv X (pins ++ pinsAt fp s.heap) σ H s :=
  I.pins_of fun p hp=>(List.mem_append.mp hp).elim (fun z=>I.pin p (List.mem_append_right _ z)) fun z=>by
    obtain ⟨hb,e⟩:=of_pinsAt z
    obtain ⟨f0,f1,f2,_⟩:=hf p.1 hb
    obtain ⟨o,e',d⟩:=ho p.1 hb
    rw [e] at e';cases e'
    exact ⟨e,f0,f1,f2,d⟩
theorem Inv.unpinned {pins pl:List (Addr × Obj)} {σ : St} {H:Hp} {s:Shared} (I:Inv X (pins ++ pl) σ H s):Inv X pins σ H s:=I.pins_of fun p hp=>I.pin p (List.mem_append_right _ (List.mem_append_left _ hp))
theorem ps_for {iter:Expr} {body:List Stmt} {wi:TI} {g:TG} {tb:TS} {pos:Pos} (hp:PassesOwn (model X.prog X.w) X.A X.env X.xe) (hc:X.calm=true) (hi:PI X tg iter wi) (hg:PG X tg g) (hb:PSs X body tb)
    (hs:∀ x,foldedSetIterable iter X.env x=pure x:=by intro _;rfl):PS X (.For tg iter body [] pos) (tFor wi g tb):=by
  intro pins s σ H D I h
  refine wpAny_For (thn (hi pins s σ H _ I h) fun v s1 h1=>thn h1 fun itv s2 h2 => ?_) hs
  obtain ⟨it,fp,tn,J,H2,e,I2,T,st2,f2,W,⟨m0,w0⟩,turn⟩:=h2
  subst e
  -- what stays true of the iterator's objects through the loop
  have stat:∀ {H':Hp},(∀ b∈fp,H' b=none)→∀ b∈fp,FpOk X pins H' b:=fun hn b hb=>⟨hn b hb,(f2 b hb).2⟩
  refine codeAny_forLoop_any (fun n s'=>∃ i σ' H',Inv X pins σ' H' s'∧tn i s'.heap∧(∀ b∈fp,H' b=none)∧W i n σ' H') ?_ m0 ⟨0, σ,H2,I2,st2,fun b hb=>(f2 b hb).1,w0⟩
  rintro n s3 ⟨i, σ3,H3,I3,st3,fr3,w3⟩
  rcases turn i n σ3 H3 w3 with ⟨stop,qn⟩ | ⟨go,N,hN,step⟩
  · refine wpAny_passesOwn hp (thn (T.done X rfl rfl rfl hc i pins s3 σ3 H3 X.xe I3 (stat fr3) st3 stop) fun r s4 ⟨hr,I4⟩ => ?_)
    subst hr
    exact wpAny_execs_nil ⟨σ3,H3,I4,qn⟩
  · refine wpAny_passesOwn hp (thn (T.item X rfl rfl rfl hc i pins s3 σ3 H3 X.xe I3 (stat fr3) st3 go) fun r s4 ⟨u,hr,h4⟩ => ?_)
    subst hr
    refine wpAny_passesOwn hp (thn h4 fun _ s5 ⟨x,H5,I5,r5,y5,st5,fr5⟩ => ?_)
    have I5':=I5.pinned (stat fr5) (T.obj _ _ st5)
    refine wpAny_passesOwn hp (thn (hg _ s5 σ3 H5 x u _ I5' r5 (step x H5 y5)) fun _ s6 ⟨σ6,H6,I6,q6⟩ => ?_)
    refine wpAny_passesOwn hp (thn (hb _ s6 σ6 H6 _ I6 q6) fun f s7 q7 => ?_)
    have again:∀ {σ7:St} {H7:Hp},Inv X (pins ++ pinsAt fp s5.heap) σ7 H7 s7→N σ7 H7→∃ m,m < n∧∃ i σ' H',Inv X pins σ' H' s7∧tn i s7.heap∧(∀ b∈fp,H' b=none)∧W i m σ' H':=fun {σ7 H7} I7 n7=>by
      obtain ⟨m',hm,w7⟩:=hN σ7 H7 n7
      refine ⟨m',hm,i+1, σ7,H7,I7.unpinned,T.keep _ _ _ st5 fun b hb o e=>(I7.pin (b,o) (List.mem_append_right _ (List.mem_append_right _ (mem_pinsAt hb e)))).1,fun b hb => ?_,w7⟩
      obtain ⟨o,e,d⟩:=T.obj _ _ st5 b hb
      exact (I7.pin (b,o) (List.mem_append_right _ (List.mem_append_right _ (mem_pinsAt hb e)))).2.1
    cases f with
    | next=>obtain ⟨σ7,H7,I7,n7⟩:=q7;exact again I7 n7
    | cont=>obtain ⟨σ7,H7,I7,n7⟩:=q7;exact again I7 n7
    | brk=>obtain ⟨σ7,H7,I7,q7⟩:=q7;exact ⟨σ7,H7,I7.unpinned,q7⟩
    | ret v=>obtain ⟨x7, σ7,H7,I7,r7,q7⟩:=q7;exact ⟨x7, σ7,H7,I7.unpinned,r7,q7⟩
end

theorem for_list {K:PySem.W.Frag} {a:Addr} {xs:List V} {g:TG} {tb:TS} {D:Ends} {σ : St} {H:Hp} (Pv:Nat→St→Hp→Prop) (h0:Pv 0 σ H) (hl:∀ i σ H,i≤xs.length→Pv i σ H→SqL K H a xs)
    (hs:∀ i x σ H,xs[i]? = some x→Pv i σ H→g x σ H fun σ2 H2=>tb { D with nx:=Pv (i+1),ct:=Pv (i+1),bk:=D.nx } σ2 H2) (hd:∀ σ H,Pv xs.length σ H→D.nx σ H) :
    ∃ W:Nat→Nat→St→Hp→Prop,(∃ m,W 0 m σ H)∧∀ i m σ H,W i m σ H →
      ((Itl K a).stop i H∧D.nx σ H)∨((Itl K a).go i H∧∃ N:St→Hp→Prop,(∀ σ' H',N σ' H'→∃ m',m' < m∧W (i+1) m' σ' H')∧∀ x H',(Itl K a).yld i H x H'→g x σ H' fun σ2 H2=>tb { D with nx:=N,ct:=N,bk:=D.nx } σ2 H2):=by
  refine ⟨fun i m σ H=>m=xs.length - i∧i≤xs.length∧Pv i σ H,⟨xs.length,by simp,Nat.zero_le _,h0⟩,?_⟩
  rintro i m σ H ⟨rfl,hi,p⟩
  have q:=hl i σ H hi p
  by_cases hlt:i < xs.length
  · refine .inr ⟨⟨xs,xs[i],q,by simp [hlt]⟩,Pv (i+1),fun σ' H' p'=>⟨xs.length - (i+1),by omega,rfl,hlt,p'⟩,fun x H' y => ?_⟩
    obtain ⟨e,y⟩:=y
    subst e
    exact hs i x σ _ (y xs q) p
  · have e:i=xs.length:=by omega
    subst e
    exact .inl ⟨⟨xs,q,Nat.le_refl _⟩,hd σ H p⟩
theorem for_tup {K:PySem.W.Frag} {a:Addr} {xs:List V} {g:TG} {tb:TS} {D:Ends} {σ : St} {H:Hp} (Pv:Nat→St→Hp→Prop) (h0:Pv 0 σ H) (hl:∀ i σ H,i≤xs.length→Pv i σ H→SqT K H a xs)
    (hs:∀ i x σ H,xs[i]? = some x→Pv i σ H→g x σ H fun σ2 H2=>tb { D with nx:=Pv (i+1),ct:=Pv (i+1),bk:=D.nx } σ2 H2) (hd:∀ σ H,Pv xs.length σ H→D.nx σ H) :
    ∃ W:Nat→Nat→St→Hp→Prop,(∃ m,W 0 m σ H)∧∀ i m σ H,W i m σ H →
      ((Itt K a).stop i H∧D.nx σ H)∨((Itt K a).go i H∧∃ N:St→Hp→Prop,(∀ σ' H',N σ' H'→∃ m',m' < m∧W (i+1) m' σ' H')∧∀ x H',(Itt K a).yld i H x H'→g x σ H' fun σ2 H2=>tb { D with nx:=N,ct:=N,bk:=D.nx } σ2 H2):=by
  refine ⟨fun i m σ H=>m=xs.length - i∧i≤xs.length∧Pv i σ H,⟨xs.length,by simp,Nat.zero_le _,h0⟩,?_⟩
  rintro i m σ H ⟨rfl,hi,p⟩
  have q:=hl i σ H hi p
  by_cases hlt:i < xs.length
  · refine .inr ⟨⟨xs,xs[i],q,by simp [hlt]⟩,Pv (i+1),fun σ' H' p'=>⟨xs.length - (i+1),by omega,rfl,hlt,p'⟩,fun x H' y => ?_⟩
    obtain ⟨e,y⟩:=y
    subst e
    exact hs i x σ _ (y xs q) p
  · have e:i=xs.length:=by omega
    subst e
    exact .inl ⟨⟨xs,q,Nat.le_refl _⟩,hd σ H p⟩
theorem for_range {lo:Int} {n:Nat} {g:TG} {tb:TS} {D:Ends} {σ : St} {H:Hp} (Pv:Nat→St→Hp→Prop) (h0:Pv 0 σ H)
    (hs:∀ i σ H,i < n→Pv i σ H→g (.int (lo+i)) σ H fun σ2 H2=>tb { D with nx:=Pv (i+1),ct:=Pv (i+1),bk:=D.nx } σ2 H2) (hd:∀ σ H,Pv n σ H→D.nx σ H) :
    ∃ W:Nat→Nat→St→Hp→Prop,(∃ m,W 0 m σ H)∧∀ i m σ H,W i m σ H →
      ((Itr lo n).stop i H∧D.nx σ H)∨((Itr lo n).go i H∧∃ N:St→Hp→Prop,(∀ σ' H',N σ' H'→∃ m',m' < m∧W (i+1) m' σ' H')∧∀ x H',(Itr lo n).yld i H x H'→g x σ H' fun σ2 H2=>tb { D with nx:=N,ct:=N,bk:=D.nx } σ2 H2):=by
  refine ⟨fun i m σ H=>m=n - i∧i≤n∧Pv i σ H,⟨n,by simp,Nat.zero_le _,h0⟩,?_⟩
  rintro i m σ H ⟨rfl,hi,p⟩
  by_cases hlt:i < n
  · refine .inr ⟨hlt,Pv (i+1),fun σ' H' p'=>⟨n - (i+1),by omega,rfl,hlt,p'⟩,fun x H' y => ?_⟩
    obtain ⟨e,y⟩:=y
    subst e y
    exact hs i σ _ hlt p
  · have e:i=n:=by omega
    subst e
    exact .inl ⟨Nat.le_refl _,hd σ H p⟩
end L2

namespace L2
open PySem PySem.Spec PyProof.Rows

noncomputable abbrev R2:=V→V→Hp→VK→Prop
noncomputable def OpR (X:Cx) (f:Value→Value→Sem Value) (r:R2):Prop :=
  ∀ (pins:List (Addr × Obj)) (s:Shared) (σ : St) (H:Hp) (x y:V) (v u:Value) (Q:VK),Inv X pins σ H s→RelV x v→RelV y u→r x y H Q →
    wpAny (model X.prog X.w) X.A (f v u) (EP X pins σ Q) X.xe s
noncomputable def UnR (X:Cx) (f:Value→Sem Value) (r:V→Hp→VK→Prop):Prop :=
  ∀ (pins:List (Addr × Obj)) (s:Shared) (σ : St) (H:Hp) (x:V) (v:Value) (Q:VK),Inv X pins σ H s→RelV x v→r x H Q →
    wpAny (model X.prog X.w) X.A (f v) (EP X pins σ Q) X.xe s
noncomputable def CallR (X:Cx) (f:Value) (r:List V→Hp→VK→Prop):Prop :=
  ∀ (pins:List (Addr × Obj)) (s:Shared) (σ : St) (H:Hp) (xs:List V) (us:List Value) (Q:VK),Inv X pins σ H s→Vals xs us→r xs H Q →
    wpAny (model X.prog X.w) X.A (call f us) (EP X pins σ Q) X.xe s
noncomputable def TruR (X:Cx) (r:V→Hp→(Bool→Hp→Prop)→Prop):Prop :=
  ∀ (pins:List (Addr × Obj)) (s:Shared) (σ : St) (H:Hp) (x:V) (v:Value) (Q:Bool→Hp→Prop),Inv X pins σ H s→RelV x v→r x H Q →
    wpAny (model X.prog X.w) X.A (truthy v) (TP X pins σ Q) X.xe s

noncomputable def tOp (r:R2) (ta tb:TE):TE:=fun σ H Q=>ta σ H fun x H1=>tb σ H1 fun y H2=>r x y H2 Q
noncomputable def tUn (r:V→Hp→VK→Prop) (ta:TE):TE:=fun σ H Q=>ta σ H fun x H1=>r x H1 Q
inductive RI (C:Int→Int→Prop) (g:Int→Int→V) (x y:V) (H:Hp) (Q:VK):Prop
  | mk (i j:Int) (hx:x = .int i) (hy:y = .int j) (hc:C i j) (q:Q (g i j) H):RI C g x y H Q
noncomputable def rI (C:Int→Int→Prop) (g:Int→Int→V):R2:=fun x y H Q=>RI C g x y H Q
inductive RI0 (g:Int→Int→V) (x y:V) (H:Hp) (Q:VK):Prop
  | mk (i j:Int) (hx:x = .int i) (hy:y = .int j) (q:Q (g i j) H):RI0 g x y H Q
noncomputable def rI0 (g:Int→Int→V):R2:=fun x y H Q=>RI0 g x y H Q
inductive RU (g:Int→V) (x:V) (H:Hp) (Q:VK):Prop
  | mk (i:Int) (hx:x = .int i) (q:Q (g i) H):RU g x H Q
noncomputable def rU (g:Int→V):V→Hp→VK→Prop:=fun x H Q=>RU g x H Q

section
variable {X:Cx} {a b c:Expr} {ta tb tc:TE} {pos:Pos}

theorem binT (ha:PE X a ta) (hb:PE X b tb) {pins:List (Addr × Obj)} {s:Shared} {σ : St} {H:Hp} {R:V→V→Hp→Prop} (I:Inv X pins σ H s)
    (h:ta σ H fun x H1=>tb σ H1 fun y H2=>R x y H2) {Q:Value→Shared→Prop} {f:Value→Value→Sem Value}
    (hf:∀ v u s2 x y H2,Inv X pins σ H2 s2→RelV x v→RelV y u→R x y H2→wpAny (model X.prog X.w) X.A (f v u) Q X.xe s2) :
    wpAny (model X.prog X.w) X.A (eval a X.env) (fun v s₁ => wpAny (model X.prog X.w) X.A (eval b X.env) (fun u s₂ => wpAny (model X.prog X.w) X.A (f v u) Q X.xe s₂) X.xe s₁) X.xe s:=by
  refine thn (ha pins s σ H _ I h) fun v s1 ⟨x,H1,I1,r1,q1⟩ => ?_
  refine thn (hb pins s1 σ H1 _ I1 q1) fun u s2 ⟨y,H2,I2,r2,q2⟩ => ?_
  exact hf v u s2 x y H2 I2 r1 r2 q2

theorem pe_op {op:Operator} {r:R2} (ho:OpR X (binaryOp op) r) (ha:PE X a ta) (hb:PE X b tb):PE X (.BinOp a op b pos) (tOp r ta tb):=by
  intro pins s σ H Q I h
  exact wpAny_BinOp (binT ha hb I h fun v u s2 x y H2 I2 rx ry q=>ho pins s2 σ H2 x y v u Q I2 rx ry q)
theorem pe_un {op:UnaryOp} {r:V→Hp→VK→Prop} (ho:UnR X (unaryOp op) r) (ha:PE X a ta):PE X (.UnaryOp op a pos) (tUn r ta):=by
  intro pins s σ H Q I h
  exact UnaryOp_ (thn (ha pins s σ H _ I h) fun v s1 ⟨x,H1,I1,r1,q1⟩=>ho pins s1 σ H1 x v Q I1 r1 q1)

theorem opI {f:Value→Value→Sem Value} {C:Int→Int→Prop} {g:Int→Int→Int}
    (rule:∀ (i j:Int) (t u:Tok) (s:Shared) (Q:Value→Shared→Prop) (E:Value→Shared→Prop),C i j→Q (.int (g i j) s.toks) { s with toks:=s.toks+1 }→wpAny (model X.prog X.w) X.A (f (.int i t) (.int j u)) Q E s) :
    OpR X f (rI C fun i j => .int (g i j)):=by
  intro pins s σ H x y v u Q I rx ry h
  obtain ⟨i,j,rfl,rfl,hc,q⟩:=h
  obtain ⟨t,rfl⟩:=rx
  obtain ⟨t',rfl⟩:=ry
  exact rule i j t t' s _ _ hc ⟨.int (g i j),H,I.tok _,⟨_,rfl⟩,q⟩
theorem opI0 {f:Value→Value→Sem Value} {g:Int→Int→Int}
    (rule:∀ (i j:Int) (t u:Tok) (s:Shared) (Q:Value→Shared→Prop) (E:Value→Shared→Prop),Q (.int (g i j) s.toks) { s with toks:=s.toks+1 }→wpAny (model X.prog X.w) X.A (f (.int i t) (.int j u)) Q E s) :
    OpR X f (rI0 fun i j => .int (g i j)):=by
  intro pins s σ H x y v u Q I rx ry h
  obtain ⟨i,j,rfl,rfl,q⟩:=h
  obtain ⟨t,rfl⟩:=rx
  obtain ⟨t',rfl⟩:=ry
  exact rule i j t t' s _ _ ⟨.int (g i j),H,I.tok _,⟨_,rfl⟩,q⟩
theorem opB0 {f:Value→Value→Sem Value} {g:Int→Int→Bool}
    (rule:∀ (i j:Int) (t u:Tok) (s:Shared) (Q:Value→Shared→Prop) (E:Value→Shared→Prop),Q (.bool (g i j)) s→wpAny (model X.prog X.w) X.A (f (.int i t) (.int j u)) Q E s) :
    OpR X f (rI0 fun i j => .bl (g i j)):=by
  intro pins s σ H x y v u Q I rx ry h
  obtain ⟨i,j,rfl,rfl,q⟩:=h
  obtain ⟨t,rfl⟩:=rx
  obtain ⟨t',rfl⟩:=ry
  exact rule i j t t' s _ _ ⟨.bl (g i j),H,I,rfl,q⟩

noncomputable def CDiv (i j:Int):Prop:=0 < j∧j < 1073741824
noncomputable def CPow (i j:Int):Prop:=0≤j∧j≤1000000∧i.natAbs < 2 ^ 64
noncomputable def CMul (i j:Int):Prop:=(-(2 ^ 64) < i∧i < 2 ^ 64)∨(-(2 ^ 64) < j∧j < 2 ^ 64)
theorem CMul.ok {i j:Int} (h:CMul i j):IntMulOk i j:=by
  rcases h with ⟨h1,h2⟩ | ⟨h1,h2⟩
  · exact .of_left (intBits_le_64 h1 h2)
  · exact .of_right (intBits_le_64 h1 h2)

theorem op_add:OpR X (binaryOp .Add) (rI0 fun i j => .int (i+j)):=opI0 fun _ _ _ _ _ _ _ q=>add_int q
theorem op_sub:OpR X (binaryOp .Sub) (rI0 fun i j => .int (i - j)):=opI0 fun _ _ _ _ _ _ _ q=>sub_int q
theorem op_mul:OpR X (binaryOp .Mult) (rI CMul fun i j => .int (i * j)):=opI fun _ _ _ _ _ _ _ hc q=>mul_int q hc.ok
theorem op_fdiv:OpR X (binaryOp .FloorDiv) (rI CDiv fun i j => .int (i / j)):=opI fun i j _ _ _ _ _ hc q=>by
  have h1:(0:Int) < j:=hc.1
  have h2:j < 1073741824:=hc.2
  exact floordiv_int (by omega) (by rw [Int.fdiv_eq_ediv_of_nonneg i (by omega)];exact q) (.inl (PyProof.noPylong_small (by omega)))
theorem op_mod:OpR X (binaryOp .Mod) (rI (fun _ j=>0 < j) fun i j => .int (i % j)):=opI fun i j _ _ _ _ _ hc q=>by
  have h1:(0:Int) < j:=hc
  exact mod_int' (by omega) (by rw [Int.fmod_eq_emod_of_nonneg i (by omega)];exact q)
theorem op_pow:OpR X (binaryOp .Pow) (rI CPow fun i j => .int (i ^ j.toNat)):=opI fun _ _ _ _ _ _ _ hc q=>pow_int_small hc.1 hc.2.1 hc.2.2 q
theorem op_shl:OpR X (binaryOp .LShift) (rI CPow fun i j => .int (i * 2 ^ j.toNat)):=opI fun _ _ _ _ _ _ _ hc q=>lshift_int_small hc.1 hc.2.1 hc.2.2 q
theorem op_and:OpR X (binaryOp .BitAnd) (rI0 fun i j => .int (Builtin.bitAnd i j)):=opI0 fun _ _ _ _ _ _ _ q=>and_int q
theorem op_or:OpR X (binaryOp .BitOr) (rI0 fun i j => .int (Builtin.bitOr i j)):=opI0 fun _ _ _ _ _ _ _ q=>or_int q


theorem unI {f:Value→Sem Value} {g:Int→Int}
    (rule:∀ (i:Int) (t:Tok) (s:Shared) (Q:Value→Shared→Prop) (E:Value→Shared→Prop),Q (.int (g i) s.toks) { s with toks:=s.toks+1 }→wpAny (model X.prog X.w) X.A (f (.int i t)) Q E s) :
    UnR X f (rU fun i => .int (g i)):=by
  intro pins s σ H x v Q I rx h
  obtain ⟨i,rfl,q⟩:=h
  obtain ⟨t,rfl⟩:=rx
  exact rule i t s _ _ ⟨.int (g i),H,I.tok _,⟨_,rfl⟩,q⟩
theorem un_neg:UnR X (unaryOp .USub) (rU fun i => .int (-i)):=unI fun _ _ _ _ _ q=>neg_int q
theorem un_inv:UnR X (unaryOp .Invert) (rU fun i => .int (Builtin.bitNot i)):=unI fun _ _ _ _ _ q=>invert_int q

end

noncomputable def scal:V→V→Bool
  | .non,.non=>true | .non,.int _=>true | .int _,.non=>true | .non,.bl _=>true | .bl _,.non=>true | .non,.str _=>true | .str _,.non=>true
  | .int _,.int _=>true | .bl _,.bl _=>true | .str _,.str _=>true | .byt _,.byt _=>true
  | .int _,.str _=>true | .str _,.int _=>true | .bl _,.str _=>true | .str _,.bl _=>true
  | _,_=>false
noncomputable def rEq:R2:=fun x y H Q=>scal x y=true∧Q (.bl (decide (x=y))) H
noncomputable def rNe:R2:=fun x y H Q=>scal x y=true∧Q (.bl (!decide (x=y))) H

theorem dec_int {i j:Int}:decide (V.int i=V.int j)=(i == j):=by
  rw [Bool.eq_iff_iff]
  simp
theorem dec_bl {i j:Bool}:decide (V.bl i=V.bl j)=(i == j):=by
  rw [Bool.eq_iff_iff]
  simp
theorem dec_str {i j:Str}:decide (V.str i=V.str j)=(i == j):=by
  rw [Bool.eq_iff_iff]
  simp
theorem dec_byt {i j:Array UInt8}:decide (V.byt i=V.byt j)=(i.toList == j.toList):=by
  rw [Bool.eq_iff_iff]
  cases i
  cases j
  simp

section
variable {X:Cx} {a b c:Expr} {ta tb tc:TE} {pos:Pos}
theorem fin_bl {pins:List (Addr × Obj)} {σ : St} {H:Hp} {s:Shared} {Q:VK} {k k':Bool} (I:Inv X pins σ H s) (q:Q (.bl k) H) (e:k=k'):EP X pins σ Q (.bool k') s:=by
  subst e
  exact ⟨.bl k,H,I,rfl,q⟩
theorem op_eq:OpR X (compareOp .Eq) rEq:=by
  intro pins s σ H x y v u Q I rx ry h
  obtain ⟨hs,q⟩:=h
  cases x with
  | non =>
    cases rx
    cases y with
    | non=>cases ry;exact PySem.EqNone.eq_none_none (fin_bl I q (by simp))
    | bl j=>cases ry;exact PySem.EqNone.eq_none_bool (fin_bl I q (by simp))
    | int j=>obtain ⟨t',rfl⟩:=ry;exact PySem.EqNone.eq_none_int (fin_bl I q (by simp))
    | str j=>obtain ⟨t',rfl⟩:=ry;exact PySem.EqNone.eq_none_str (fin_bl I q (by simp))
    | _=>exact absurd (show false=true from hs) Bool.false_ne_true
  | bl i =>
    cases rx
    cases y with
    | non=>cases ry;exact PySem.EqNone.eq_bool_none (fin_bl I q (by simp))
    | bl j=>cases ry;exact eq_bool (fin_bl I q dec_bl)
    | str j=>obtain ⟨t',rfl⟩:=ry;exact PySem.EqMixed.eq_bool_str (fin_bl I q (by simp))
    | _=>exact absurd (show false=true from hs) Bool.false_ne_true
  | int i =>
    obtain ⟨t,rfl⟩:=rx
    cases y with
    | non=>cases ry;exact PySem.EqNone.eq_int_none (fin_bl I q (by simp))
    | int j=>obtain ⟨t',rfl⟩:=ry;exact eq_int (fin_bl I q dec_int)
    | str j=>obtain ⟨t',rfl⟩:=ry;exact PySem.EqMixed.eq_int_str (fin_bl I q (by simp))
    | _=>exact absurd (show false=true from hs) Bool.false_ne_true
  | str i =>
    obtain ⟨t,rfl⟩:=rx
    cases y with
    | non=>cases ry;exact PySem.EqNone.eq_str_none (fin_bl I q (by simp))
    | bl j=>cases ry;exact PySem.EqMixed.eq_str_bool (fin_bl I q (by simp))
    | int j=>obtain ⟨t',rfl⟩:=ry;exact PySem.EqMixed.eq_str_int (fin_bl I q (by simp))
    | str j=>obtain ⟨t',rfl⟩:=ry;exact eq_str (fin_bl I q dec_str)
    | _=>exact absurd (show false=true from hs) Bool.false_ne_true
  | byt i =>
    obtain ⟨t,rfl⟩:=rx
    cases y with
    | byt j=>obtain ⟨t',rfl⟩:=ry;exact PySem.W.eq_bytes (fin_bl I q dec_byt)
    | _=>exact absurd (show false=true from hs) Bool.false_ne_true
  | _=>cases y <;> exact absurd (show false=true from hs) Bool.false_ne_true
theorem op_ne:OpR X (compareOp .NotEq) rNe:=by
  intro pins s σ H x y v u Q I rx ry h
  obtain ⟨hs,q⟩:=h
  cases x with
  | non =>
    cases rx
    cases y with
    | non=>cases ry;exact PySem.EqNone.ne_none_none (fin_bl I q (by simp))
    | bl j=>cases ry;exact PySem.EqNone.ne_none_bool (fin_bl I q (by simp))
    | int j=>obtain ⟨t',rfl⟩:=ry;exact PySem.EqNone.ne_none_int (fin_bl I q (by simp))
    | str j=>obtain ⟨t',rfl⟩:=ry;exact PySem.EqNone.ne_none_str (fin_bl I q (by simp))
    | _=>exact absurd (show false=true from hs) Bool.false_ne_true
  | bl i =>
    cases rx
    cases y with
    | non=>cases ry;exact PySem.EqNone.ne_bool_none (fin_bl I q (by simp))
    | bl j=>cases ry;exact ne_bool (fin_bl I q (congrArg not dec_bl))
    | str j=>obtain ⟨t',rfl⟩:=ry;exact PySem.EqMixed.ne_bool_str (fin_bl I q (by simp))
    | _=>exact absurd (show false=true from hs) Bool.false_ne_true
  | int i =>
    obtain ⟨t,rfl⟩:=rx
    cases y with
    | non=>cases ry;exact PySem.EqNone.ne_int_none (fin_bl I q (by simp))
    | int j=>obtain ⟨t',rfl⟩:=ry;exact ne_int (fin_bl I q (congrArg not dec_int))
    | str j=>obtain ⟨t',rfl⟩:=ry;exact PySem.EqMixed.ne_int_str (fin_bl I q (by simp))
    | _=>exact absurd (show false=true from hs) Bool.false_ne_true
  | str i =>
    obtain ⟨t,rfl⟩:=rx
    cases y with
    | non=>cases ry;exact PySem.EqNone.ne_str_none (fin_bl I q (by simp))
    | bl j=>cases ry;exact PySem.EqMixed.ne_str_bool (fin_bl I q (by simp))
    | int j=>obtain ⟨t',rfl⟩:=ry;exact PySem.EqMixed.ne_str_int (fin_bl I q (by simp))
    | str j=>obtain ⟨t',rfl⟩:=ry;exact ne_str (fin_bl I q (congrArg not dec_str))
    | _=>exact absurd (show false=true from hs) Bool.false_ne_true
  | byt i =>
    obtain ⟨t,rfl⟩:=rx
    cases y with
    | byt j=>obtain ⟨t',rfl⟩:=ry;exact PySem.W.ne_bytes (fin_bl I q (congrArg not dec_byt))
    | _=>exact absurd (show false=true from hs) Bool.false_ne_true
  | _=>cases y <;> exact absurd (show false=true from hs) Bool.false_ne_true

theorem op_lt:OpR X (compareOp .Lt) (rI0 fun i j => .bl (decide (i < j))):=opB0 fun _ _ _ _ _ _ _ q=>lt_int q
theorem op_gt:OpR X (compareOp .Gt) (rI0 fun i j => .bl (decide (j < i))):=opB0 fun _ _ _ _ _ _ _ q=>gt_int q




theorem nomark (b:Expr) {op:CmpOp} (h:op ≠ .In:=by decide) (h2:op ≠ .NotIn:=by decide):behindInMarks op b=false:=by
  have e1:(op == CmpOp.In)=false:=by cases op <;> first | rfl | exact absurd rfl h
  have e2:(op == CmpOp.NotIn)=false:=by cases op <;> first | rfl | exact absurd rfl h2
  cases b <;> simp [behindInMarks,e1,e2]
theorem pe_cmpR {op:CmpOp} {r:R2} (ho:OpR X (compareOp op) r) (ha:PE X a ta) (hb:PE X b tb) (hm:behindInMarks op b=false):PE X (.Compare a [op] [b] pos) (tOp r ta tb):=by
  intro pins s σ H Q I h
  exact wpAny_Compare1 (binT ha hb I h fun v u s2 x y H2 I2 rx ry q=>ho pins s2 σ H2 x y v u Q I2 rx ry q) hm
inductive RTest (x:V) (H:Hp) (Q:Bool→Hp→Prop):Prop
  | mk (k:Bool) (hx:x = .bl k) (q:Q k H):RTest x H Q
noncomputable def tTest (t:TE):TT:=fun σ H Q=>t σ H fun x H'=>RTest x H' Q
theorem pt_cmpR {op:CmpOp} {r:R2} (ho:OpR X (compareOp op) r) (ha:PE X a ta) (hb:PE X b tb) (hm:behindInMarks op b=false):PT X (.Compare a [op] [b] pos) (tTest (tOp r ta tb)):=by
  intro pins s σ H Q I h
  refine wpAny_isTrue_Compare1 (thn (ha pins s σ H _ I h) fun v s1 ⟨x,H1,I1,r1,q1⟩=>thn (hb pins s1 σ H1 _ I1 q1) fun u s2 ⟨y,H2,I2,r2,q2⟩ =>
    thn (ho pins s2 σ H2 x y v u _ I2 r1 r2 q2) fun c s3 ⟨z,H3,I3,r3,k,e,q3⟩ => ?_) hm
  subst e
  cases r3
  exact wpAny_truthy_bool ⟨H3,I3,q3⟩

noncomputable def TruV (K:PySem.W.Frag) (x:V) (H:Hp) (k:Bool):Prop :=
  match x with
  | .non=>k=false
  | .bl b=>k=b
  | .int i=>k=(i != 0)
  | .str y=>y.length≤sizeLine∧k=((y.length:Int) != 0)
  | .byt y=>y.size≤sizeLine∧k=((y.size:Int) != 0)
  | .ref p=>(∃ xs,SqL K H p xs∧k = !xs.isEmpty)∨(∃ xs,SqT K H p xs∧k = !xs.isEmpty)∨∃ kvs,H p=some (.dK kvs)∧k = !kvs.isEmpty
  | _=>False
theorem isEmpty_kv {κ : Type} {kvs:List (κ × V)} {vs:List (κ × Value)} (r:KV kvs vs):(!vs.isEmpty) = !kvs.isEmpty:=by
  cases r <;> rfl
theorem isEmpty_of {xs:List V} {its:List Value} (r:Vals xs its):(!its.toArray.isEmpty) = !xs.isEmpty:=by
  cases r <;> simp
theorem line63:(sizeLine:Nat) < 2 ^ 63:=by rw [sizeLine_eq];decide
theorem tru_ok:TruR X (fun x H Q=>∃ k,TruV X.K x H k∧Q k H):=by
  intro pins s σ H x v Q I rx h
  obtain ⟨k,e,q⟩:=h
  have hl:=line63
  have hs:sizeLine=16777216:=sizeLine_eq
  cases x with
  | non =>
    cases rx
    have e':k=false:=e
    subst e'
    exact truthy_none ⟨H,I,q⟩
  | bl b =>
    cases rx
    have e':k=b:=e
    subst e'
    exact wpAny_truthy_bool ⟨H,I,q⟩
  | int i =>
    obtain ⟨t,rfl⟩:=rx
    have e':k=(i != 0):=e
    subst e'
    exact PySem.P.truthy_int ⟨H,I,q⟩
  | str y =>
    obtain ⟨t,rfl⟩:=rx
    obtain ⟨hy,e'⟩:y.length≤sizeLine∧k=((y.length:Int) != 0):=e
    subst e'
    exact PySem.P.truthy_str (by omega) ⟨H,I.tok _,q⟩
  | byt y =>
    obtain ⟨t,rfl⟩:=rx
    obtain ⟨hy,e'⟩:y.size≤sizeLine∧k=((y.size:Int) != 0):=e
    subst e'
    exact PySem.W.truthy_bytes (by omega) ⟨H,I.tok _,q⟩
  | ref p =>
    cases rx
    have e':(∃ xs,SqL X.K H p xs∧k = !xs.isEmpty)∨(∃ xs,SqT X.K H p xs∧k = !xs.isEmpty)∨∃ kvs,H p=some (.dK kvs)∧k = !kvs.isEmpty:=e
    rcases e' with ⟨xs,hx,e'⟩ | ⟨xs,hx,e'⟩ | ⟨kvs,hx,e'⟩
    · subst e'
      obtain ⟨its,r,pl,hz⟩:=I.list hx
      have hlen:=r.length
      exact wpAny_truthy_list pl.isList (by simp only [List.size_toArray];omega) ⟨H,I.tok _,by rw [isEmpty_of r];exact q⟩
    · subst e'
      obtain ⟨its,r,pl,hz⟩:=I.tuple hx
      have hlen:=r.length
      exact truthy_tuple pl (by simp only [List.size_toArray];omega) ⟨H,I.tok _,by rw [isEmpty_of r];exact q⟩
    · subst e'
      obtain ⟨hz,hS,vs,r,m⟩:kvs.length≤sizeLine∧(p == sysModules)=false∧∃ vs,KV kvs vs∧s.heap.DictOf (mixKind X.prog X.w) p vs:=I.hok p _ hx
      have hlen:kvs.length=vs.length:=Paired.length r
      exact wpAny_truthy_dict hS m (by omega) ⟨H,I.tok _,by rw [isEmpty_kv r];exact q⟩
  | _=>exact (show False from e).elim
theorem pt_truth (ha:PE X a ta) (he:∀ whole,isTrue a X.env whole=(do let v ← whole;standAt a.pos;holding [v] (truthy v))) :
    PT X a (fun σ H Q=>ta σ H fun x H'=>∃ k,TruV X.K x H' k∧Q k H'):=by
  intro pins s σ H Q I h
  exact isTrue_plain (thn (ha pins s σ H _ I h) fun v s1 ⟨x,H1,I1,r1,q1⟩=>tru_ok pins s1 σ H1 x v Q I1 r1 q1) (he _)

inductive J_op_add_str (x:V) (y:V) (H:Hp) (Q:VK):Prop
  | mk:∀ i j,(x = .str i)→(y = .str j)→(i.length+j.length≤sizeLine)→(Q (.str (i ++ j)) H)→J_op_add_str x y H Q
theorem op_add_str:OpR X (binaryOp .Add) (fun x y H Q=>J_op_add_str x y H Q):=by
  intro pins s σ H x y v u Q I rx ry h
  obtain ⟨i,j,rfl,rfl,hz,q⟩:=h
  obtain ⟨t,rfl⟩:=rx
  obtain ⟨t',rfl⟩:=ry
  exact add_str (fun t' tk=>⟨.str (i ++ j),H,I.tok _,⟨_,rfl⟩,q⟩) hz


theorem vals1 {x:V} {us:List Value} (r:Vals [x] us):∃ u,us = [u]∧RelV x u:=by
  cases r with
  | cons r1 r2=>cases r2;exact ⟨_,rfl,r1⟩
theorem vals2 {x y:V} {us:List Value} (r:Vals [x,y] us):∃ u w',us = [u,w']∧RelV x u∧RelV y w':=by
  cases r with
  | cons r1 r2 =>
    cases r2 with
    | cons r3 r4=>cases r4;exact ⟨_,_,rfl,r1,r3⟩
inductive J_call_max2 (xs:List V) (H:Hp) (Q:VK):Prop
  | mk:∀ i j,(xs = [.int i,.int j])→(Q (.int (if j > i then j else i)) H)→J_call_max2 xs H Q
theorem call_max2 (hc:X.calm=true):CallR X (.builtin "max") (fun xs H Q=>J_call_max2 xs H Q):=by
  intro pins s σ H xs us Q I r h
  obtain ⟨i,j,rfl,q⟩:=h
  obtain ⟨u,w',rfl,⟨t,rfl⟩,⟨t',rfl⟩⟩:=vals2 r
  refine max_two_ints (I.ok.hd hc) fun h' tk k=>⟨_,H,I.kept k,?_,q⟩
  by_cases hj:j > i
  · rw [if_pos hj,if_pos hj];exact ⟨_,rfl⟩
  · rw [if_neg hj,if_neg hj];exact ⟨_,rfl⟩
inductive J_call_min2 (xs:List V) (H:Hp) (Q:VK):Prop
  | mk:∀ i j,(xs = [.int i,.int j])→(Q (.int (if j < i then j else i)) H)→J_call_min2 xs H Q
theorem call_min2 (hc:X.calm=true):CallR X (.builtin "min") (fun xs H Q=>J_call_min2 xs H Q):=by
  intro pins s σ H xs us Q I r h
  obtain ⟨i,j,rfl,q⟩:=h
  obtain ⟨u,w',rfl,⟨t,rfl⟩,⟨t',rfl⟩⟩:=vals2 r
  refine min_two_ints (I.ok.hd hc) fun h' tk k=>⟨_,H,I.kept k,?_,q⟩
  by_cases hj:j < i
  · rw [if_pos hj,if_pos hj];exact ⟨_,rfl⟩
  · rw [if_neg hj,if_neg hj];exact ⟨_,rfl⟩
end
end L2

namespace L2
open PySem PySem.Spec PyProof.Rows

structure ObjM (h:Heap) (x dx C:Addr) (mA:Str→Option Value):Prop where
  obj:h.get? x=some (PySem.W.instObj C dx)
  ns:h.Ns1 dx mA
  ne:dx≠x

theorem lookIn_ns {h:Heap} {dx:Addr} {mA:Str→Option Value} (n:h.Ns1 dx mA):∃ od,h.get? dx=some od∧∀ name,PySem.W.lookIn name od=some (mA name):=by
  obtain ⟨o,es,ep,ho,hd,hk,_,hm⟩:=n
  refine ⟨o,ho,fun name => ?_⟩
  have e:=hm name
  unfold nsFind findBy at e
  rw [← Array.find?_toList] at e
  unfold PySem.W.lookIn
  rw [hd]
  dsimp only
  split
  · rename_i y q
    rw [q] at e
    exact congrArg some e
  · rename_i q
    rw [q] at e
    have a:es.toList.any (·.refKey)=false:=by
      rw [List.any_eq_false]
      intro y hy
      obtain ⟨z,t,hkey⟩:=hk y (Array.mem_toList_iff.mp hy)
      simp [DictEntry.refKey,hkey]
    have a':¬ es.toList.any (·.refKey)=true:=by rw [a];exact Bool.false_ne_true
    rw [if_neg a']
    exact congrArg some e

theorem ObjM.look {h:Heap} {x dx C:Addr} {mA:Str→Option Value} (I:ObjM h x dx C mA):∃ od,PySem.W.InstAt h x (PySem.W.instObj C dx) C (some od)∧∀ name,PySem.W.lookIn name od=some (mA name) :=
  let ⟨od,ho,hl⟩:=lookIn_ns I.ns
  ⟨od,⟨I.obj,rfl,rfl,ho⟩,hl⟩

section
variable {prog:Program} {w:World} {A:Around} {E:Value→Shared→Prop} {s:Shared} {K:PySem.W.Frag} {x dx C f:Addr} {mA:Str→Option Value} {name:Str} {v:Value}

theorem get_map {expr:Bool} {Q:Value→Shared→Prop} (X:K.In s.heap) (I:ObjM s.heap x dx C mA) (hg:PySem.W.plainGet K C name=true) (hh:PySem.W.hasDictIn K C=true)
    (ha:PySem.W.findIn K (.ref C) name=some none) (hv:mA name=some v) (hv':PySem.W.handedIn v=true) (h:Q v { s with toks:=s.toks+1 }) :
    wpAny (model prog w) A (getAttr (.ref x) name expr) Q E s:=by
  obtain ⟨od,J,hl⟩:=I.look
  exact PySem.W.get_value X J (PySem.W.plainGet_of hg).1 (PySem.W.findObj_own hh ha rfl (by rw [hl,hv])) hv' h


theorem get_meth {pl:Sem Bool} {Q:Value × List Value→Shared→Prop} (X:K.In s.heap) (I:ObjM s.heap x dx C mA) (hg:PySem.W.plainGet K C name=true)
    (hf:PySem.W.findIn K (.ref C) name=some (some (.ref f))) (ht:PySem.W.isFn K (.ref f)=true) (hv:mA name=none) (h:Q (.ref f, [.ref x]) s) :
    wpAny (model prog w) A (getMethod (.ref x) name pl) Q E s:=by
  obtain ⟨od,J,hl⟩:=I.look
  exact PySem.W.method_fn X J (PySem.W.plainGet_of hg).1 (PySem.W.plainGet_of hg).2 hf (beq_iff_eq.mp ht) (by show (PySem.W.lookIn name od).map (·.isSome)=some false;rw [hl,hv];rfl) h

theorem set_map {ns:List Str} {Q:Unit→Shared→Prop} (X:K.In s.heap) (I:ObjM s.heap x dx C mA)
    (hs:PySem.W.findIn K (.ref C) "__setattr__" = some (some (.builtin "object.__setattr__"))) (hp:PySem.W.plainOver K C=true) (ht:PySem.W.takerIn K C name=some none) (hh:PySem.W.hasDictIn K C=true)
    (hw:PySem.Within mA ns) (hsz:ns.length≤sizeLine)
    (h:∀ h',ObjM h' x dx C (fun y=>if y=name then some v else mA y)→Heap.SameBut dx s.heap h'→Q () { s with heap:=h',toks:=s.toks+2 }) :
    wpAny (model prog w) A (setAttr (.ref x) name v) Q E s:=by
  obtain ⟨od,J,hl⟩:=I.look
  refine PySem.W.set_plain X J hs (PySem.W.osa_open (s := { s with toks:=s.toks+1 }) (r:=none) X J hp ht fun b => ?_)
  obtain ⟨cd,hc,hd'⟩:=PySem.W.any_some hh
  have hx:s.heap.get? x=some ⟨.ref C,some dx,.plain, #[]⟩:=I.obj
  refine wpAny_bind (wpAny_pure (wpAny_bind (wpAny_bind (wpAny_loadPart hx (wpAny_bind (PySem.W.Looks.here (s := { s with toks:=s.toks+1 }) (PySem.W.looks_clsIn X hc) ?_))))))
  rw [hd']
  refine wpAny_pure (a:=some dx) (wpAny_bind (wpAny_pure (wpAny_bind ?_)))
  refine wpAny_nsSet1 (s := { s with toks:=s.toks+1 }) I.ns fun h' hn2 hs2 => ?_
  obtain ⟨oD,esD,epD,hoD,hdD,hcD⟩:=hn2.count (PySem.Within.cons name v hw)
  refine wpAny_bind (wpAny_lookBehind hoD (by rw [hdD];exact pastItsLine_dict (Nat.le_trans hcD (by rw [List.length_cons];omega))) ?_)
  exact wpAny_pure (h _ ⟨(hs2.2 _ (Ne.symm I.ne)).trans I.obj,hn2,I.ne⟩ hs2)

theorem make_map {R:Result→Shared→Prop} {vs:List Value} {kw:List (Str × Value)} (X:K.In s.heap) (hm:PySem.W.makesIn K C=true)
    (hi:PySem.W.findIn K (.ref C) "__init__" = some (some (.ref f))) (hf:PySem.W.typeIn K (.ref f)=some (.type "function"))
    (h:codeAny (model prog w) (A.under (.builtin "type.__call__" ⟨.ref C :: vs,kw⟩)) (.call (.ref f) ⟨.ref (s.heap.objs.size+1) :: vs,kw⟩) (PySem.W.InitBack (s.heap.objs.size+1) R)
      { s with heap:=(s.heap.push PySem.W.emptyDict).push (PySem.W.instObj C s.heap.objs.size) }) :
    codeAny (model prog w) A (.call (.ref C) ⟨vs,kw⟩) R s:=by
  obtain ⟨hh,g,d,t,os⟩:=s
  exact PySem.W.make_core (PySem.W.makes_of X hm) (PySem.W.looks_findIn X hi) (fun self=>PySem.W.bind_fn X self hf) (.inl rfl) h
end

noncomputable def putF (f:Str) (v:V):List (Str × V)→List (Str × V)
  | [] => [(f,v)]
  | (g,x) :: r=>if g=f then (g,v) :: r else (g,x) :: putF f v r
theorem lookup_putF (f g:Str) (v:V):∀ fs:List (Str × V),(putF f v fs).lookup g=if g=f then some v else fs.lookup g
  | []=>by
    show List.lookup g [(f,v)]=_
    by_cases h:g=f
    · have hb:(g == f)=true:=beq_iff_eq.mpr h
      simp only [List.lookup,hb,if_pos h]
    · have hb:(g == f)=false:=beq_eq_false_iff_ne.mpr h
      simp only [List.lookup,hb,if_neg h]
  | (k,x) :: r=>by
    have ih:=lookup_putF f g v r
    rw [show putF f v ((k,x) :: r)=(if k=f then (k,v) :: r else (k,x) :: putF f v r) from rfl]
    by_cases hk:k=f
    · rw [if_pos hk]
      by_cases h:g=k
      · have hb:(g == k)=true:=beq_iff_eq.mpr h
        simp only [List.lookup,hb,if_pos (h.trans hk)]
      · have hb:(g == k)=false:=beq_eq_false_iff_ne.mpr h
        simp only [List.lookup,hb,if_neg (fun e:g=f=>h (e.trans hk.symm))]
    · rw [if_neg hk]
      by_cases h:g=k
      · have hb:(g == k)=true:=beq_iff_eq.mpr h
        simp only [List.lookup,hb,if_neg (fun e:g=f=>hk (h.symm.trans e))]
      · have hb:(g == k)=false:=beq_eq_false_iff_ne.mpr h
        simp only [List.lookup,hb]
        exact ih
theorem keys_putF (f:Str) (v:V):∀ fs:List (Str × V),f∈(putF f v fs).map (·.1)∧∀ g,g∈fs.map (·.1)→g∈(putF f v fs).map (·.1)
  | []=>⟨by simp [putF],fun g h=>by simp at h⟩
  | (k,x) :: r=>by
    obtain ⟨i1,i2⟩:=keys_putF f v r
    rw [show putF f v ((k,x) :: r)=(if k=f then (k,v) :: r else (k,x) :: putF f v r) from rfl]
    by_cases hk:k=f
    · rw [if_pos hk]
      subst hk
      exact ⟨by simp,fun g h=>by simpa using h⟩
    · rw [if_neg hk]
      refine ⟨?_,fun g h => ?_⟩
      · rw [List.map_cons]
        exact List.mem_cons_of_mem _ i1
      · rw [List.map_cons] at h ⊢
        rcases List.mem_cons.mp h with e | e
        · exact List.mem_cons.mpr (.inl e)
        · exact List.mem_cons_of_mem _ (i2 g e)
theorem length_putF (f:Str) (v:V):∀ fs:List (Str × V),(putF f v fs).length≤fs.length+1
  | []=>by simp [putF]
  | (k,x) :: r=>by
    have ih:=length_putF f v r
    rw [show putF f v ((k,x) :: r)=(if k=f then (k,v) :: r else (k,x) :: putF f v r) from rfl]
    by_cases hk:k=f
    · rw [if_pos hk,List.length_cons,List.length_cons];omega
    · rw [if_neg hk,List.length_cons,List.length_cons];omega

theorem RelO.some_of {v:V} {o:Option Value} (r:RelO (some v) o):∃ u,o=some u∧RelV v u:=by
  cases o with
  | none=>exact (show False from r).elim
  | some u=>exact ⟨u,rfl,r⟩
theorem RelO.none_of {o:Option Value} (r:RelO none o):o=none:=by
  cases o with
  | none=>rfl
  | some u=>exact (show False from r).elim
theorem handed_of {v:V} {u:Value} (r:RelV v u):PySem.W.handedIn u=true:=by
  cases v with
  | non=>cases (show u=Value.none from r);rfl
  | bl b=>cases (show u=Value.bool b from r);rfl
  | int i=>obtain ⟨t,e⟩:=(show ∃ t,u=Value.int i t from r);cases e;rfl
  | str x=>obtain ⟨t,e⟩:=(show ∃ t,u=Value.str x t from r);cases e;rfl
  | byt b=>obtain ⟨t,e⟩:=(show ∃ t,u=Value.bytes b t from r);cases e;rfl
  | flt b=>obtain ⟨t,e⟩:=(show ∃ t,u=Value.float b t from r);cases e;rfl
  | ref a=>cases (show u=Value.ref a from r);rfl
  | ty n=>cases (show u=Value.type n from r);rfl

section
variable {P:Program} {w:World} {H H':Hp} {h h':Heap} {a C dx:Addr} {fs fs':List (Str × V)}
theorem ins_get (hok:HOk P w H h) (e:H a=some (.ins C dx fs)):∃ mA,ObjM h a dx C mA∧(∀ f,RelO (fs.lookup f) (mA f))∧PySem.Within mA (fs.map (·.1))∧fs.length≤1000∧H dx=some (.own a):=by
  obtain ⟨d,z,ne,ob,mA,n,r,q⟩:=(show ObjOk P w H h a (.ins C dx fs) from hok a _ e)
  exact ⟨mA,⟨ob,n,ne⟩,r,q,z,d⟩
end

structure Cls (K:PySem.W.Frag) (C:Addr):Prop where
  pg:PySem.W.plainGet K C Str.empty=true
  hd:PySem.W.hasDictIn K C=true
  po:PySem.W.plainOver K C=true
  sa:PySem.W.findIn K (.ref C) "__setattr__" = some (some (.builtin "object.__setattr__"))
theorem Cls.get {K:PySem.W.Frag} {C:Addr} (c:Cls K C) (f:Str):PySem.W.plainGet K C f=true:=c.pg
noncomputable def NoAttr (K:PySem.W.Frag) (C:Addr) (f:Str):Prop:=PySem.W.findIn K (.ref C) f=some none
theorem NoAttr.taker {K:PySem.W.Frag} {C:Addr} {f:Str} (n:NoAttr K C f):PySem.W.takerIn K C f=some none:=by
  unfold PySem.W.takerIn
  rw [show PySem.W.findIn K (.ref C) f=some none from n]
  rfl
structure Meth (K:PySem.W.Frag) (C:Addr) (m:Str) (f:Addr):Prop where
  at_:PySem.W.findIn K (.ref C) m=some (some (.ref f))
  fn:PySem.W.isFn K (.ref f)=true
  kp:PySem.W.keepIn K (.ref f)=true

section
variable {X:Cx} {pins:List (Addr × Obj)} {σ : St} {H:Hp} {s:Shared} {a C dx:Addr} {fs:List (Str × V)} {f:Str} {v:V} {A:Around} {E:Value→Shared→Prop}

theorem getattr_ok {b:Bool} {Q:Value→Shared→Prop} (I:Inv X pins σ H s) (e:H a=some (.ins C dx fs)) (c:Cls X.K C) (n:NoAttr X.K C f) (l:fs.lookup f=some v)
    (h:∀ u s',Inv X pins σ H s'→RelV v u→Q u s'):wpAny (model X.prog X.w) A (getAttr (.ref a) f b) Q E s:=by
  obtain ⟨mA,O,r,_,_,_⟩:=ins_get I.hok e
  obtain ⟨u,hu,ru⟩:=RelO.some_of (v:=v) (o:=mA f) (by rw [← l];exact r f)
  exact get_map I.kIn O (c.get f) c.hd n hu (handed_of ru) (h u _ (I.tok _) ru)


theorem getmeth_ok {m:Str} {g:Addr} {pl:Sem Bool} {Q:Value × List Value→Shared→Prop} (I:Inv X pins σ H s) (e:H a=some (.ins C dx fs)) (c:Cls X.K C) (k:Meth X.K C m g) (l:fs.lookup m=none)
    (h:Q (.ref g, [.ref a]) s):wpAny (model X.prog X.w) A (getMethod (.ref a) m pl) Q E s:=by
  obtain ⟨mA,O,r,_,_,_⟩:=ins_get I.hok e
  have hn:mA m=none:=RelO.none_of (by rw [← l];exact r m)
  exact get_meth I.kIn O (c.get m) k.at_ k.fn hn h

theorem setattr_ok {y:V} {u:Value} {Q:Unit→Shared→Prop} (I:Inv X pins σ H s) (e:H a=some (.ins C dx fs)) (c:Cls X.K C) (n:NoAttr X.K C f) (hl:fs.length < 1000) (ry:RelV y u)
    (h:∀ s',Inv X pins σ (upd H a (.ins C dx (putF f y fs))) s'→Q () s'):wpAny (model X.prog X.w) A (setAttr (.ref a) f u) Q E s:=by
  obtain ⟨mA,O,r,wi,_,ho⟩:=ins_get I.hok e
  have hz:(fs.map (·.1)).length≤sizeLine:=by rw [List.length_map,sizeLine_eq];omega
  refine set_map I.kIn O c.sa c.po n.taker c.hd wi hz fun h' O' sb=>h _ ?_
  have hd:∃ o,h'.get? dx=some o:=let ⟨o,_,_,e',_⟩:=O'.ns; ⟨o,e'⟩
  refine I.write (x:=a) (e:=dx) (by rw [e];exact True.intro) (.inr ho) (fun b q hb z=>(sb.2 b hb).trans z) hd ?_
  refine ⟨by rw [upd_ne O.ne];exact ho,?_,O.ne,O'.obj,_,O'.ns,fun g => ?_,fun g hg => ?_⟩
  · have:=length_putF f y fs;omega
  · show RelO ((putF f y fs).lookup g) (if g=f then some u else mA g)
    rw [lookup_putF]
    by_cases q:g=f
    · rw [if_pos q,if_pos q];exact ry
    · rw [if_neg q,if_neg q];exact r g
  · by_cases q:g=f
    · rw [q];exact (keys_putF f y fs).1
    · refine (keys_putF f y fs).2 g (wi g fun z=>hg ?_)
      show (if g=f then some u else mA g)=none
      rw [if_neg q];exact z

theorem Inv.made (I:Inv X pins σ H s):Inv X pins σ (upd (upd H s.heap.objs.size (.own (s.heap.objs.size+1))) (s.heap.objs.size+1) (.ins C s.heap.objs.size []))
    { s with heap:=(s.heap.push PySem.W.emptyDict).push (PySem.W.instObj C s.heap.objs.size) }:=by
  have e1:(s.heap.push PySem.W.emptyDict).get? s.heap.objs.size=some PySem.W.emptyDict:=Heap.get?_push_size s.heap rfl
  have e2:((s.heap.push PySem.W.emptyDict).push (PySem.W.instObj C s.heap.objs.size)).get? (s.heap.objs.size+1)=some (PySem.W.instObj C s.heap.objs.size):=by
    have:=Heap.get?_push_size (s.heap.push PySem.W.emptyDict) (o:=PySem.W.instObj C s.heap.objs.size) rfl
    rwa [Heap.size_push] at this
  have e3:(s.heap.push PySem.W.emptyDict).Ns s.heap.objs.size (fun _=>none):=⟨PySem.W.emptyDict, #[],_,e1,rfl,(fun e he=>absurd he (by simp)),fun _=>rfl⟩
  have I1:=I.laid (a:=s.heap.objs.size) (o := .own (s.heap.objs.size+1)) (h':=s.heap.push PySem.W.emptyDict) (t':=s.toks) (fun b u q=>Heap.get?_push_of_some _ q) (Nat.le_refl _) ⟨_,e1⟩
  refine I1.laid (a:=s.heap.objs.size+1) (o := .ins C s.heap.objs.size []) (t':=s.toks) (fun b u q=>Heap.get?_push_of_some _ q) (Nat.le_of_eq (Heap.size_push _ _)) ?_
  have ne:s.heap.objs.size≠s.heap.objs.size+1:=Nat.ne_of_lt (Nat.lt_succ_self _)
  refine ⟨by rw [upd_ne ne,upd_same],Nat.zero_le _,ne,e2,fun _=>none,(Heap.Ns1.of_empty e3).at fun o q=>Heap.get?_push_of_some _ q,fun _=>True.intro,fun y hy=>absurd rfl hy⟩

theorem attr_of {prog:Program} {w:World} {env:Env} {e:Expr} {f:Str} {pos:Pos} {s:Shared} {Q:Value→Shared→Prop} (hb:attributeBase e f env (eval e env)=eval e env)
    (h:wpAny (model prog w) A (eval e env) (fun o s₁ => wpAny (model prog w) A (getAttr o f true) Q E s₁) E s):wpAny (model prog w) A (eval (.Attribute e f pos) env) Q E s :=
  Attribute_any_ h (by rw [arm_eval_Attribute,hb])
end

inductive RFld (K:PySem.W.Frag) (f:Str) (x:V) (H:Hp) (Q:VK):Prop
  | mk (a C dx:Addr) (fs:List (Str × V)) (v:V) (hx:x = .ref a) (h:H a=some (.ins C dx fs)) (c:Cls K C) (n:NoAttr K C f) (l:fs.lookup f=some v) (q:Q v H):RFld K f x H Q
noncomputable def tFld (K:PySem.W.Frag) (ta:TE) (f:Str):TE:=fun σ H Q=>ta σ H fun x H1=>RFld K f x H1 Q
inductive J_sFld (K:PySem.W.Frag) (f:Str) (D:Ends) (σ : St) (y:V) (x:V) (H2:Hp):Prop
  | mk:∀ a C dx fs,(x = .ref a)→(H2 a=some (.ins C dx fs))→(Cls K C)→(NoAttr K C f)→(fs.length < 1000)→(D.nx σ (upd H2 a (.ins C dx (putF f y fs))))→J_sFld K f D σ y x H2
noncomputable def sFld (K:PySem.W.Frag) (ta tv:TE) (f:Str):TS:=fun D σ H=>tv σ H fun y H1=>ta σ H1 fun x H2=>J_sFld K f D σ y x H2

section
variable {X:Cx} {o e value:Expr} {f:Str} {pos pos' tpos:Pos} {ta tv:TE}
theorem pe_fld (he:PE X e ta) (hb:attributeBase e f X.env (eval e X.env)=eval e X.env):PE X (.Attribute e f pos) (tFld X.K ta f):=by
  intro pins s σ H Q I h
  refine attr_of hb (thn (he pins s σ H _ I h) fun u s1 ⟨x,H1,I1,rx,a,C,dx,fs,v,ex,ea,c,n,l,q⟩ => ?_)
  subst ex
  obtain rfl:u=Value.ref a:=rx
  exact getattr_ok I1 ea c n l fun u' s2 I2 ru=>⟨v,H1,I2,ru,q⟩
theorem ps_fld (ha:PE X o ta) (hv:PE X value tv) (hs:swapsWith value (some (.Attribute o f pos')) pos.line X.env=pure false):PS X (.Assign [.Attribute o f pos'] value pos) (sFld X.K ta tv f):=by
  intro pins s σ H D I h
  refine plainObj_wpAny_Assign_Attribute (thn (hv pins s σ H _ I h) fun u s1 ⟨y,H1,I1,ry,q⟩=>thn (ha pins s1 σ H1 _ I1 q) fun ov s2 ⟨x,H2,I2,rx,a,C,dx,fs,ex,ea,c,n,l,q2⟩ => ?_) hs
  subst ex
  obtain rfl:ov=Value.ref a:=rx
  exact setattr_ok I2 ea c n l ry fun s3 I3=>⟨σ,_,I3,q2⟩

end

section
variable {X:Cx} {pins:List (Addr × Obj)} {σ : St} {H:Hp} {s:Shared} {A:Around} {E:Value→Shared→Prop} {Q:Value→Shared→Prop} {c:Value} {b:Bool}
end
end L2

namespace L2
open PySem PySem.Spec PyProof.Rows

structure Room (k:Nat) (A:Around):Prop where
  hd:A.handled=none
  dp:A.depth+3 * k+5 < recursionLimit
  un:A.units+16 * k+200 < cLine
theorem Room.mono {j k:Nat} {A:Around} (r:Room k A) (h:j≤k):Room j A:=⟨r.hd,by have:=r.dp;omega,by have:=r.un;omega⟩
theorem Room.deeper {k:Nat} {A:Around} (r:Room (k+1) A) (env:Env):Room k (A.deeper env) :=
  ⟨r.hd,by have:=r.dp;show A.depth+1+3 * k+5 < _;omega,by have:=r.un;show A.units+3+16 * k+200 < _;omega⟩
theorem make_depth {A:Around} {C:Addr} {us:List Value} {kw:List (Str × Value)}:(A.under (.builtin "type.__call__" ⟨.ref C :: us,kw⟩)).depth=A.depth+1:=by
  first | rfl | simp [Around.under,Code.weight,Code.isCreation,Code.isGuard,Code.isCaller,Code.frames,Code.isFrame,guardIds]
theorem make_units {A:Around} {C:Addr} {us:List Value} {kw:List (Str × Value)}:(A.under (.builtin "type.__call__" ⟨.ref C :: us,kw⟩)).units=A.units+1:=by
  first | rfl | simp [Around.under,Code.cUnits,Code.frames,Code.isFrame]
theorem Room.make {k:Nat} {A:Around} (r:Room (k+1) A) (C:Addr) (us:List Value) (kw:List (Str × Value)):Room k (A.under (.builtin "type.__call__" ⟨.ref C :: us,kw⟩)) :=
  ⟨r.hd,by have:=r.dp;rw [make_depth];omega,by have:=r.un;rw [make_units];omega⟩
theorem Room.depth {k:Nat} {A:Around} (r:Room k A):A.depth < recursionLimit:=by have:=r.dp;omega
theorem Room.units {k:Nat} {A:Around} (r:Room k A):A.units+64 < cLine:=by have:=r.un;omega

noncomputable def tNil:TA:=fun _ H Q=>Q [] H
noncomputable def tCons (ta:TE) (tr:TA):TA:=fun σ H Q=>ta σ H fun x H1=>tr σ H1 fun xs H2=>Q (x :: xs) H2
section
variable {X:Cx} {e:Expr} {es:List Expr} {te:TE} {t:TA} {pos:Pos}
theorem pa_nil:PA X [] tNil:=fun _ _ _ _ H Q I h=>Calls.spliced_nil ⟨[],H,I,.nil,h⟩
theorem pa_cons (ha:PE X e te) (hr:PA X es t) (hs:starEach (e :: es) X.env=(false,eval e X.env) :: starEach es X.env:=by rfl):PA X (e :: es) (tCons te t):=by
  intro pos pins s σ H Q I h
  rw [hs]
  show wpAny _ _ (spliced ((false,eval e X.env) :: backTo pos (starEach es X.env))) _ _ s
  refine Calls.spliced_cons (thn (ha pins s σ H _ I h) fun u s1 ⟨x,H1,I1,r1,q1⟩ => ?_)
  exact thn (hr pos pins s1 σ H1 _ I1 q1) fun us s2 ⟨xs,H2,I2,r2,q2⟩=>⟨x :: xs,H2,I2,.cons r1 r2,q2⟩

noncomputable def tTup (t:TA):TE:=fun σ H Q=>t σ H fun xs H1=>xs.length≤sizeLine∧∀ p,H1 p=none→Q (.ref p) (upd H1 p (.tup xs))
noncomputable def tLst (t:TA):TE:=fun σ H Q=>t σ H fun xs H1=>xs.length≤sizeLine∧∀ p,H1 p=none→Q (.ref p) (upd H1 p (.lst xs))
theorem pe_tup {x1} (h:PA X es t):PE X (.Tuple es x1 pos) (tTup t):=by
  intro pins s σ H Q I hq
  refine wpAny_Tuple_spliced (thn (h pos pins s σ H _ I hq) fun us s1 ⟨xs,H1,I1,r,z,q⟩=>⟨by rw [← r.length];exact z,?_⟩)
  have hf:H1 s1.heap.objs.size=none:=I1.hok.fresh (Nat.le_refl _)
  refine ⟨.ref s1.heap.objs.size,upd H1 s1.heap.objs.size (.tup xs),I1.laid (t':=s1.toks) (fun b u e=>Heap.get?_push_of_some _ e) (Nat.le_refl _) ?_,rfl,q _ hf⟩
  exact ⟨z,us,r,⟨_,Heap.get?_push_size _ rfl,rfl,_,rfl,rfl⟩⟩
theorem pe_lst (h:PA X es t):PE X (.List es pos) (tLst t):=by
  intro pins s σ H Q I hq
  refine wpAny_List_spliced (thn (h pos pins s σ H _ I hq) fun us s1 ⟨xs,H1,I1,r,z,q⟩=>⟨by rw [← r.length];exact z,?_⟩)
  have hf:H1 s1.heap.objs.size=none:=I1.hok.fresh (Nat.le_refl _)
  refine ⟨.ref s1.heap.objs.size,upd H1 s1.heap.objs.size (.lst xs),I1.laid (t':=s1.toks) (fun b u e=>Heap.get?_push_of_some _ e) (Nat.le_refl _) ?_,rfl,q _ hf⟩
  exact ⟨z,us,0,r,Heap.get?_push_size _ rfl⟩
end

noncomputable abbrev Sp:=List V→Hp→VK→XK→Prop
noncomputable abbrev CXT:=List Env→Hp→Shared→XK→Value→Shared→Prop

structure Env0 (P:Program) (w:World) (K:PySem.W.Frag) (mg:Str→Option Value) (base:Heap) (A:Around) (outer:List Env) (s:Shared) (H:Hp):Prop where
  frames:A.frames=some outer
  mod:Mod K mg base
  bs:∀ b o,base.get? b=some o→s.heap.get? b=some o∧H b=none
  bsz:base.objs.size≤s.heap.objs.size
  funs:s.heap.FunFrames base outer
  frf:∀ b∈frs outer,H b=none
  hok:HOk P w H s.heap
  bare:AllBare s.gens
noncomputable def CE (outer:List Env) (P:Program) (w:World) (H:Hp) (s:Shared) (Q:VK) (u:Value) (s':Shared):Prop :=
  ∃ v H',s'.os=s.os∧AllBare s'.gens∧Un (frs outer) [] H H' s.heap s'.heap∧HOk P w H' s'.heap∧RelV v u∧Q v H'
noncomputable def CR (CX:CXT) (outer:List Env) (P:Program) (w:World) (H:Hp) (s:Shared) (Q:VK) (E:XK) (r:Result) (s':Shared):Prop :=
  match r with
  | .ok (.ret u)=>CE outer P w H s Q u s'
  | .ok _=>False
  | .error e=>CX outer H s E e s'
structure FnOk (P:Program) (w:World) (K:PySem.W.Frag) (mg:Str→Option Value) (base:Heap) (CX:CXT) (k:Nat) (f:Addr) (fd:FuncData) (ps:List Str) (sp:Sp):Prop where
  len:∀ vs H Q E,sp vs H Q E→vs.length=ps.length
  run:∀ (A:Around) (outer:List Env) (s:Shared) (H:Hp) (args:Args) (us:List Value) (vs:List V) (Q:VK) (E:XK),Room k A→Env0 P w K mg base A outer s H→BindsTo s fd args (ps.zip us)→Vals vs us→sp vs H Q E →
    codeAny (model P w) A (.call (.ref f) args) (CR CX outer P w H s Q E) s

theorem Env0.make {P:Program} {w:World} {K:PySem.W.Frag} {mg:Str→Option Value} {base:Heap} {A:Around} {outer:List Env} {s:Shared} {H:Hp} (e:Env0 P w K mg base A outer s H) (C:Addr) (us:List Value) (kw:List (Str × Value)) :
    Env0 P w K mg base (A.under (.builtin "type.__call__" ⟨.ref C :: us,kw⟩)) outer s H:=⟨by first | exact e.frames | (simpa [Around.under,Code.envs,Code.isFrame,pushEnvs] using e.frames),e.mod,e.bs,e.bsz,e.funs,e.frf,e.hok,e.bare⟩

section
variable {X:Cx} {pins:List (Addr × Obj)} {σ : St} {H:Hp} {s s':Shared}
theorem Inv.env0 (I:Inv X pins σ H s):Env0 X.prog X.w X.K X.mg X.base X.A X.stack s H :=
  ⟨I.ok.frames,I.ok.mod,I.bs,Nat.le_trans I.ok.bsz I.sz,I.stack,I.stkFree,I.hok,I.bare⟩
theorem Inv.after {Q:VK} {u:Value} (I:Inv X pins σ H s) (h:CE X.stack X.prog X.w H s Q u s'):EP X pins σ Q u s':=by
  obtain ⟨v,H',os,bare,un,hok,r,q⟩:=h
  obtain ⟨hh,g,d,t,os'⟩:=s'
  obtain rfl:os'=s.os:=os
  exact ⟨v,H',I.call (h':=hh) (g':=g) (d':=d) (t':=t) (ch := []) un hok bare (fun b z=>absurd z (by simp)),r,q⟩
end

noncomputable def tCall (sp:Sp) (dvs:List V) (E:XK) (t:TA):TE:=fun σ H Q=>t σ H fun vs H1=>sp (vs ++ dvs) H1 Q E
inductive J_tMeth (C:Addr) (m:Str) (sp:Sp) (dvs:List V) (E:XK) (t:TA) (σ : St) (Q:VK) (x:V) (H1:Hp):Prop
  | mk:∀ a dx fs,(x = .ref a)→(H1 a=some (.ins C dx fs))→(fs.lookup m=none)→(t σ H1 fun vs H2=>sp (x :: (vs ++ dvs)) H2 Q E)→J_tMeth C m sp dvs E t σ Q x H1
noncomputable def tMeth (C:Addr) (m:Str) (sp:Sp) (dvs:List V) (E:XK) (ta:TE) (t:TA):TE:=fun σ H Q=>ta σ H fun x H1=>J_tMeth C m sp dvs E t σ Q x H1
noncomputable def tMake (C:Addr) (sp:Sp) (dvs:List V) (E:XK) (t:TA):TE:=fun σ H Q=>t σ H fun vs H1=>∀ x dx,H1 x=none→H1 dx=none→dx≠x →
  sp (.ref x :: (vs ++ dvs)) (upd (upd H1 dx (.own x)) x (.ins C dx [])) (fun v H2=>v = .non∧Q (.ref x) H2) E

noncomputable def Binds (K:PySem.W.Frag) (fd:FuncData) (ps:List Str) (ds:List Value):Prop :=
  ∀ (s:Shared) (us:List Value),K.In s.heap→(us ++ ds).length=ps.length→BindsTo s fd ⟨us, []⟩ (ps.zip (us ++ ds))
theorem Binds.all {K:PySem.W.Frag} {fd:FuncData} {ps:List Str} (h:∀ us:List Value,us.length=ps.length→bindArgs fd ⟨us, []⟩=pure (ps.zip us)):Binds K fd ps []:=fun s us _ hl=>by
  rw [List.append_nil] at hl ⊢
  exact .of_eq (h us hl)

noncomputable def Passes (CX:CXT) (X:Cx) (E:XK):Prop := ∀ (pins:List (Addr × Obj)) (σ : St) (H:Hp) (s:Shared) (e:Value) (s':Shared),Inv X pins σ H s→CX X.stack H s E e s'→X.xe e s'

section
variable {X:Cx} {CX:CXT} {k:Nat} {f C:Addr} {fd:FuncData} {ps:List Str} {sp:Sp} {dvs:List V} {ds:List Value} {E:XK} {x m:Str} {p pos apos:Pos} {e o:Expr} {es:List Expr} {ta:TE} {t:TA}

theorem run_fn {pins:List (Addr × Obj)} {σ : St} {H:Hp} {s:Shared} {Q:VK} {us:List Value} {vs:List V} (F:FnOk X.prog X.w X.K X.mg X.base CX k f fd ps sp) (hr:Room k X.A) (hb:Binds X.K fd ps ds) (hd:Vals dvs ds) (hx:Passes CX X E)
    (I:Inv X pins σ H s) (r:Vals vs us) (h:sp (vs ++ dvs) H Q E):wpAny (model X.prog X.w) X.A (call (.ref f) us) (EP X pins σ Q) X.xe s:=by
  have r2:Vals (vs ++ dvs) (us ++ ds):=r.append hd
  have hl:(us ++ ds).length=ps.length:=by rw [← r2.length];exact F.len _ _ _ _ h
  refine wpAny_call (codeAny_mono (F.run X.A X.stack s H ⟨us, []⟩ (us ++ ds) (vs ++ dvs) Q E hr I.env0 (hb s us I.kIn hl) r2 h) fun r s' hq => ?_)
  cases r with
  | error e=>exact hx pins σ H s e s' I hq
  | ok fl =>
    cases fl with
    | ret u=>exact I.after hq
    | next=>exact False.elim hq
    | brk=>exact False.elim hq
    | cont=>exact False.elim hq

theorem pe_call (F:FnOk X.prog X.w X.K X.mg X.base CX k f fd ps sp) (hr:Room k X.A) (hg:Gl X x) (hm:X.mg x=some (.ref f)) (hk:PySem.W.keepIn X.K (.ref f)=true) (hb:Binds X.K fd ps ds) (hd:Vals dvs ds) (hx:Passes CX X E)
    (ha:PA X (e :: es) t) (hdb:(x == ("__debug__" : Str))=false:=by decide) (he:starEach (e :: es) X.env=(false,eval e X.env) :: starEach es X.env:=by rfl) (hpl:(backTo pos (starEach es X.env)).any (·.1)=false:=by rfl) :
    PE X (.Call (.Name x p) (e :: es) [] pos) (tCall sp dvs E t):=by
  intro pins s σ H Q I h
  refine wpAny_Call_Name_kw (ld_glob I hg hm ?_ hdb)
  refine PySem.W.callWith_K (h₀ := X.base) I.ok.mod.kin hk (thn (ha pos pins s σ H _ I h) fun us s1 ⟨vs,H1,I1,r,q⟩=>⟨I1.kIn,?_⟩) he hpl
  exact run_fn F hr hb hd hx I1 r q

theorem pe_meth {pl:Sem Bool} (he:PE X o ta) (c:Cls X.K C) (hm:Meth X.K C m f) (F:FnOk X.prog X.w X.K X.mg X.base CX k f fd ps sp) (hr:Room k X.A) (hb:Binds X.K fd ps ds) (hd:Vals dvs ds) (hx:Passes CX X E) (ha:PA X (e :: es) t)
    (hst:starEach (e :: es) X.env=(false,eval e X.env) :: starEach es X.env:=by rfl) (hpl:(backTo pos (starEach es X.env)).any (·.1)=false:=by rfl)
    (ht:eval (.Call (.Attribute o m apos) (e :: es) [] pos) X.env=(do
      let ov ← eval o X.env
      standAt apos.atName
      let (f,first) ← holding [ov] (getMethod ov m pl)
      callWith pos f first (backTo pos (starEach (e :: es) X.env)) (backToKw pos (keywordEach [] X.env))):=by rfl) :
    PE X (.Call (.Attribute o m apos) (e :: es) [] pos) (tMeth C m sp dvs E ta t):=by
  intro pins s σ H Q I h
  refine PySem.W.methodCall_KW (pl:=pl) (thn (he pins s σ H _ I h) fun u s1 ⟨x,H1,I1,rx,a,dx,fs,ex,ea,l,q⟩ => ?_) ht
  subst ex
  obtain rfl:u=Value.ref a:=rx
  refine getmeth_ok I1 ea c hm l ?_
  refine PySem.W.callWith_K (first := [.ref a]) (h₀ := X.base) I.ok.mod.kin hm.kp (thn (ha pos pins s1 σ H1 _ I1 q) fun us s2 ⟨vs,H2,I2,r,q2⟩=>⟨I2.kIn,?_⟩) hst hpl
  exact run_fn (us := .ref a :: us) (vs := .ref a :: vs) F hr hb hd hx I2 (.cons rfl r) q2
theorem pe_meth0 {pl:Sem Bool} (he:PE X o ta) (c:Cls X.K C) (hm:Meth X.K C m f) (F:FnOk X.prog X.w X.K X.mg X.base CX k f fd ps sp) (hr:Room k X.A) (hb:Binds X.K fd ps ds) (hd:Vals dvs ds) (hx:Passes CX X E)
    (ht:eval (.Call (.Attribute o m apos) [] [] pos) X.env=(do
      let ov ← eval o X.env
      standAt apos.atName
      let (f,first) ← holding [ov] (getMethod ov m pl)
      callWith pos f first (backTo pos (starEach [] X.env)) (backToKw pos (keywordEach [] X.env))):=by rfl) :
    PE X (.Call (.Attribute o m apos) [] [] pos) (tMeth C m sp dvs E ta tNil):=by
  intro pins s σ H Q I h
  refine PySem.W.methodCall_KW (pl:=pl) (thn (he pins s σ H _ I h) fun u s1 ⟨x,H1,I1,rx,a,dx,fs,ex,ea,l,q⟩ => ?_) ht
  subst ex
  obtain rfl:u=Value.ref a:=rx
  refine getmeth_ok I1 ea c hm l ?_
  exact PySem.W.callWith_K0 (first := [.ref a]) I1.kIn hm.kp (run_fn (us := [.ref a]) (vs := [.ref a]) F hr hb hd hx I1 (.cons rfl .nil) q)

structure Mk (K:PySem.W.Frag) (C f:Addr):Prop where
  makes:PySem.W.makesIn K C=true
  init:PySem.W.findIn K (.ref C) "__init__" = some (some (.ref f))
  fn:PySem.W.isFn K (.ref f)=true
  kp:PySem.W.keepIn K (.ref C)=true

theorem run_make {pins:List (Addr × Obj)} {σ : St} {H:Hp} {s:Shared} {Q:VK} {us:List Value} {vs:List V} (M:Mk X.K C f) (F:FnOk X.prog X.w X.K X.mg X.base CX k f fd ps sp) (hr:Room (k+1) X.A) (hb:Binds X.K fd ps ds) (hd:Vals dvs ds)
    (hx:Passes CX X E) (I:Inv X pins σ H s) (r:Vals vs us)
    (h:∀ x dx,H x=none→H dx=none→dx≠x→sp (.ref x :: (vs ++ dvs)) (upd (upd H dx (.own x)) x (.ins C dx [])) (fun v H2=>v = .non∧Q (.ref x) H2) E) :
    wpAny (model X.prog X.w) X.A (call (.ref C) us) (EP X pins σ Q) X.xe s:=by
  have hq:=h (s.heap.objs.size+1) s.heap.objs.size (I.hok.fresh (Nat.le_succ _)) (I.hok.fresh (Nat.le_refl _)) (Nat.ne_of_lt (Nat.lt_succ_self _))
  have I2:=Inv.made (C:=C) I
  have r2:Vals (V.ref (s.heap.objs.size+1) :: (vs ++ dvs)) (Value.ref (s.heap.objs.size+1) :: (us ++ ds)) := .cons rfl (r.append hd)
  have hl:(Value.ref (s.heap.objs.size+1) :: us ++ ds).length=ps.length:=by
    have e:=r2.length
    rw [F.len _ _ _ _ hq] at e
    exact e.symm
  refine wpAny_call (make_map (f:=f) I.kIn M.makes M.init (beq_iff_eq.mp M.fn) (codeAny_mono (F.run _ X.stack _ _ ⟨Value.ref (s.heap.objs.size+1) :: us, []⟩ (Value.ref (s.heap.objs.size+1) :: (us ++ ds)) _ _ E (hr.make C us [])
    (I2.env0.make C us []) (hb _ (Value.ref (s.heap.objs.size+1) :: us) I2.kIn hl) r2 hq) fun r s' hq' => ?_))
  cases r with
  | error e=>exact hx pins σ _ _ e s' I2 hq'
  | ok fl =>
    cases fl with
    | ret u =>
      obtain ⟨v,H',I3,rv,ev,q3⟩:=I2.after hq'
      subst ev
      exact ⟨rv,⟨V.ref (s.heap.objs.size+1),H',I3,rfl,q3⟩⟩
    | next=>exact False.elim hq'
    | brk=>exact False.elim hq'
    | cont=>exact False.elim hq'
theorem pe_make (M:Mk X.K C f) (F:FnOk X.prog X.w X.K X.mg X.base CX k f fd ps sp) (hr:Room (k+1) X.A) (hg:Gl X x) (hm:X.mg x=some (.ref C)) (hb:Binds X.K fd ps ds) (hd:Vals dvs ds) (hx:Passes CX X E)
    (ha:PA X (e :: es) t) (hdb:(x == ("__debug__" : Str))=false:=by decide) (he:starEach (e :: es) X.env=(false,eval e X.env) :: starEach es X.env:=by rfl) (hpl:(backTo pos (starEach es X.env)).any (·.1)=false:=by rfl) :
    PE X (.Call (.Name x p) (e :: es) [] pos) (tMake C sp dvs E t):=by
  intro pins s σ H Q I h
  refine wpAny_Call_Name_kw (ld_glob I hg hm ?_ hdb)
  refine PySem.W.callWith_K (h₀ := X.base) I.ok.mod.kin M.kp (thn (ha pos pins s σ H _ I h) fun us s1 ⟨vs,H1,I1,r,q⟩=>⟨I1.kIn,?_⟩) he hpl
  exact run_make M F hr hb hd hx I1 r q
end

section
variable {X:Cx} {CX:CXT} {k:Nat} {f C:Addr} {fd:FuncData} {ps ks:List Str} {sp:Sp} {E:XK} {x m:Str} {p pos apos kpos:Pos} {e o:Expr} {es:List Expr} {kws:List Keyword} {te ta:TE} {t tk:TA} {nm:Option Str}

variable {g:List Value→List Value→List Value} {gV:List V→List V→List V}
end

structure FnScope (N P:List Str) (sc:Scope):Prop where
  kind:sc.kind = .function
  co:sc.isCoroutine=false
  gen:sc.isGenerator=false
  nd:N.Nodup
  pre:N.take P.length=P
  par:∀ x∈P,sc.names.lookup x=some .local∨sc.names.lookup x=some .cell
  nofree:∀ y∈sc.names,y.2 ≠ .free

theorem bindL_out {kindOf:Str→Option NameKind} {x:Str}:∀ {binds:List (Str × Value)} {m:Str→Option Value},(∀ v,(x,v) ∉ binds)→bindL kindOf binds m x=m x
  | [],_,_=>rfl
  | (n,v) :: r,m,h=>by
    unfold bindL
    rw [bindL_out fun w hw=>h w (List.mem_cons_of_mem _ hw)]
    split
    · have:x≠n:=by rintro rfl;exact h v List.mem_cons_self
      simp [this]
    · rfl
theorem bindC_out {kindOf:Str→Option NameKind} {x:Str}:∀ {binds:List (Str × Value)} {m:Str→Option Value},(∀ v,(x,v) ∉ binds)→bindC kindOf binds m x=m x
  | [],_,_=>rfl
  | (n,v) :: r,m,h=>by
    unfold bindC
    rw [bindC_out fun w hw=>h w (List.mem_cons_of_mem _ hw)]
    split
    · rfl
    · have:x≠n:=by rintro rfl;exact h v List.mem_cons_self
      simp [this]
theorem bindL_get {kindOf:Str→Option NameKind} {x:Str} {v:Value}:∀ {P:List Str} {vs:List Value} {i:Nat} {m:Str→Option Value},P.Nodup→P[i]? = some x→vs[i]? = some v→kindOf x=some .local →
    bindL kindOf (P.zip vs) m x=some v
  | [],_,_,_,_,h,_,_=>by simp at h
  | _ :: _, [],_,_,_,_,h,_=>by simp at h
  | p :: P,w :: vs,0,m,nd,h1,h2,hk=>by
    simp at h1 h2;subst h1;subst h2
    show bindL kindOf ((p,w) :: P.zip vs) m p=_
    unfold bindL
    rw [bindL_out fun v hv=>(List.nodup_cons.mp nd).1 (List.of_mem_zip hv).1,if_pos hk]
    simp
  | p :: P,w :: vs,i+1,m,nd,h1,h2,hk=>by
    show bindL kindOf ((p,w) :: P.zip vs) m x=_
    unfold bindL
    exact bindL_get (i:=i) (List.nodup_cons.mp nd).2 (by simpa using h1) (by simpa using h2) hk
theorem bindC_get {kindOf:Str→Option NameKind} {x:Str} {v:Value}:∀ {P:List Str} {vs:List Value} {i:Nat} {m:Str→Option Value},P.Nodup→P[i]? = some x→vs[i]? = some v→kindOf x≠some .local →
    bindC kindOf (P.zip vs) m x=some v
  | [],_,_,_,_,h,_,_=>by simp at h
  | _ :: _, [],_,_,_,_,h,_=>by simp at h
  | p :: P,w :: vs,0,m,nd,h1,h2,hk=>by
    simp at h1 h2;subst h1;subst h2
    show bindC kindOf ((p,w) :: P.zip vs) m p=_
    unfold bindC
    rw [bindC_out fun v hv=>(List.nodup_cons.mp nd).1 (List.of_mem_zip hv).1,if_neg hk]
    simp
  | p :: P,w :: vs,i+1,m,nd,h1,h2,hk=>by
    show bindC kindOf ((p,w) :: P.zip vs) m x=_
    unfold bindC
    exact bindC_get (i:=i) (List.nodup_cons.mp nd).2 (by simpa using h1) (by simpa using h2) hk

noncomputable def start (N:List Str) (vs:List V):St:=vs.map some ++ List.replicate (N.length - vs.length) none

noncomputable def cxOf (CX:CXT) (P:Program) (w:World) (K:PySem.W.Frag) (mg:Str→Option Value) (base:Heap) (N:List Str) (qual:Str) (scope:Scope) (f:Addr) (cd:Value) (A:Around) (outer:List Env) (s:Shared) (H:Hp) (E:XK):Cx where
  prog:=P
  w:=w
  K:=K
  mg:=mg
  base:=base
  A:=A.deeper (envOfC qual scope s.heap.objs.size f cd)
  N:=N
  s₀ := s
  H₀ := H
  env:=envOfC qual scope s.heap.objs.size f cd
  outer:=outer
  stack:=envOfC qual scope s.heap.objs.size f cd :: outer
  ex := []
  calm:=true
  fn:=fun _=>true
  pn := []
  xe:=fun e s'=>wpAny (model P w) (A.deeper (envOfC qual scope s.heap.objs.size f cd)) (leaving (envOfC qual scope s.heap.objs.size f cd) e) (fun _ s''=>CX outer H s E e s'') (fun e' s''=>CX outer H s E e' s'') s'

theorem cell_has {sc:Scope} {n:Nat} {x:Str} (h:sc.names.lookup x=some .cell):∃ c,(cellsFrom n sc.names []).lookup x=some c:=by
  have q:=PySem.W.cellsFrom_some sc.names n [] (.inl h)
  exact Option.isSome_iff_exists.mp q

theorem inv_start {CX:CXT} {P:Program} {w:World} {K:PySem.W.Frag} {mg:Str→Option Value} {base:Heap} {N ps:List Str} {qual:Str} {scope:Scope} {f:Addr} {cd:Value} {A:Around} {outer:List Env} {s s1:Shared} {H:Hp} {E:XK} {us:List Value} {vs:List V}
    (S:FnScope N ps scope) (hd:A.handled=none) (e0:Env0 P w K mg base A outer s H) (hl:vs.length=ps.length) (r:Vals vs us)
    (x:InCallC s s.heap.objs.size (bindL (envOfC qual scope s.heap.objs.size f cd).kindOf (ps.zip us) fun _=>none) (cellsFrom (s.heap.objs.size+1) scope.names []) (bindC (envOfC qual scope s.heap.objs.size f cd).kindOf (ps.zip us) fun _=>none) s1) :
    Inv (cxOf CX P w K mg base N qual scope f cd A outer s H E) [] (start N vs) H s1:=by
  have hpl:ps.length≤N.length:=by have:=congrArg List.length S.pre;rw [List.length_take] at this;omega
  obtain ⟨h1,tk,rfl,hk⟩:=x.done
  have noA:∀ b:Addr,b ∉ (cxOf CX P w K mg base N qual scope f cd A outer s H E).ex:=fun b z=>absurd (show b∈([]:List Addr) from z) (by simp)
  refine ⟨⟨e0.mod,S.kind,rfl,rfl,Nat.le_refl _,fun y z c h1 h2 => ?_,fun y hy => ?_,fun y c _ h => ?_,fun _=>hd,Around.frames_deeper e0.frames,.inr ⟨rfl,rfl⟩,fun b z=>absurd z (noA b),e0.bs,e0.bsz,fun b _ _=>noA b,fun b z=>absurd z (noA b),e0.funs,e0.frf⟩,
    rfl,e0.bare,Un.kept hk,⟨_,x.toInCall.ns,fun i y v h1 h2 h3 => ?_⟩,fun y c h=>⟨_,x.cell y c h⟩,e0.hok.fresh (Nat.le_refl _),fun y c h => ?_,fun p hp=>absurd (show p∈([]:List (Addr × Obj)) from hp) (by simp),e0.hok.kept hk,?_⟩
  · exact name_of_addr x.apart (PySem.mem_of_lookup h1) (PySem.mem_of_lookup h2)
  · have hy:scope.names.lookup y=some .cell∨scope.names.lookup y=some .free:=hy
    rcases hy with hy | hy
    · exact cell_has hy
    · exact absurd rfl (S.nofree _ (PySem.mem_of_lookup hy))
  · exact Nat.le_of_lt (x.above y c (PySem.mem_of_lookup h))
  · have hi:i < vs.length:=by
      unfold start at h2
      by_cases hi:i < vs.length
      · exact hi
      · rw [List.getElem?_append_right (by simpa using hi)] at h2
        rw [List.getElem?_replicate] at h2
        split at h2 <;> cases h2
    have ha:vs[i]? = some v:=by
      unfold start at h2
      rw [List.getElem?_append_left (by simpa using hi),List.getElem?_map] at h2
      cases e:vs[i]? with
      | none=>rw [e] at h2;cases h2
      | some a=>rw [e] at h2;cases h2;rfl
    obtain ⟨u,hu,rv⟩:=r.get ha
    have hp:ps[i]? = some y:=by
      rw [← S.pre,List.getElem?_take_of_lt (by omega)];exact h1
    have ndP:ps.Nodup:=by rw [← S.pre];exact S.nd.sublist (List.take_sublist _ _)
    refine ⟨u,rv,?_⟩
    rcases S.par y (List.mem_of_getElem? hp) with k | k
    · exact .inl ⟨k,bindL_get ndP hp hu k⟩
    · obtain ⟨c,e⟩:=cell_has (n:=s.heap.objs.size+1) k
      refine .inr ⟨.inl k,c,e,?_⟩
      have q:=x.cell y c e
      rw [bindC_get ndP hp hu (by show scope.names.lookup y≠_;rw [k];decide)] at q
      exact q
  · exact e0.hok.fresh (Nat.le_of_lt (x.above y c (PySem.mem_of_lookup h)))
  · unfold start
    show _=N.length
    rw [List.length_append,List.length_map,List.length_replicate]
    omega

theorem fn_of {CX:CXT} {P:Program} {w:World} {K:PySem.W.Frag} {mg:Str→Option Value} {base:Heap} {k:Nat} {f:Addr} {name qual:Str} {params:Arguments} {body:List Stmt} {scope:Scope} {dV kV doc pm cdv ct oc:Value} {an od:Option Addr}
    {osl:Array (Option Value)} {N ps:List Str} {sp:Sp} (lk:K.lookup f=some ⟨oc,od,.func (PySem.W.fnOf name qual params body scope dV kV doc pm an cdv ct),osl⟩) (hcd:PySem.W.codeIn K cdv qual=true) (S:FnScope N ps scope)
    (len:∀ vs H Q E,sp vs H Q E→vs.length=ps.length)
    (hbody:∀ (A:Around) (outer:List Env) (s:Shared) (H:Hp) (vs:List V) (Q:VK) (E:XK),Room k (A.deeper (envOfC qual scope s.heap.objs.size f cdv))→sp vs H Q E →
      ∃ t,PSs (cxOf CX P w K mg base N qual scope f cdv A outer s H E) body t∧t { nx:=fun _ H'=>Q .non H',rt:=Q } (start N vs) H) :
    FnOk P w K mg base CX (k+1) f (PySem.W.fnOf name qual params body scope dV kV doc pm an cdv ct) ps sp:=by
  refine ⟨len,fun A outer s H args us vs Q E hr e0 hb r hsp => ?_⟩
  have hl:=len _ _ _ _ hsp
  have KX:K.In s.heap:=e0.mod.kin.keeps fun b o e=>(e0.bs b o e).1
  have lim:s.heap.NoLimit:=e0.mod.nolimit.keeps fun b o e=>(e0.bs b o e).1
  have hkind:∀ y∈ps.zip us,scope.names.lookup y.1=some .local∨(scope.names.lookup y.1=some .cell∧((cellsFrom (s.heap.objs.size+1) scope.names []).lookup y.1).isSome=true):=fun ⟨n,v⟩ hy=>by
    rcases S.par n (List.of_mem_zip hy).1 with q | q
    · exact .inl q
    · exact .inr ⟨q,PySem.W.cellsFrom_some _ _ _ (.inl q)⟩
  refine codeAny_call_function hr.depth (KX _ _ lk) rfl S.co S.gen rfl (PySem.W.codeRec_of KX hcd) (hb _ _ _ _ ?_)
  refine wpAny_newFunctionEnv_cells S.kind hkind fun env he s1 x => ?_
  subst he
  refine ⟨lim.keeps x.toInCall.keep,codeAny_func ?_⟩
  obtain ⟨t,ht,hq⟩:=hbody A outer s H vs Q E (hr.deeper _) hsp
  have I:Inv (cxOf CX P w K mg base N qual scope f cdv A outer s H E) [] (start N vs) H s1:=inv_start S hr.hd e0 hl r x
  refine wpAny_mono (ht [] s1 (start N vs) H _ I hq) (fun fl s' hs => ?_) fun e s' hs=>hs
  have fin:∀ {σ':St} {H':Hp} {v:V} {u:Value},Inv (cxOf CX P w K mg base N qual scope f cdv A outer s H E) [] σ' H' s'→RelV v u→Q v H'→CE outer P w H s Q u s' :=
    fun {σ' H' v u} J rv q=>⟨v,H',J.os,J.bare,J.base,J.hok,rv,q⟩
  cases fl with
  | ret u =>
    obtain ⟨v, σ',H',J,rv,q⟩:=hs
    exact fin J rv q
  | next =>
    obtain ⟨σ',H',J,q⟩:=hs
    exact fin (v:=V.non) (u:=Value.none) J rfl q
  | brk =>
    obtain ⟨_,_,_,q⟩:=hs
    exact False.elim q
  | cont =>
    obtain ⟨_,_,_,q⟩:=hs
    exact False.elim q
end L2

namespace L2
open PySem PySem.Spec PyProof.Rows
section
variable {X:Cx} {x:Str} {p pos:Pos} {e:Expr} {es:List Expr} {t:TA} {id T:String} {r:List V→Hp→VK→Prop}

noncomputable def tCB (r:List V→Hp→VK→Prop) (t:TA):TE:=fun σ H Q=>t σ H fun vs H1=>r vs H1 Q
theorem pe_callB (hc:CallR X (.builtin id) r) (hg:Gl X x) (hm:X.mg x=none) (hv:bootBuiltins x=some (.builtin id)) (ha:PA X (e :: es) t) (hn:x ≠ "__name__" := by decide) (hdb:(x == ("__debug__" : Str))=false:=by decide)
    (he:starEach (e :: es) X.env=(false,eval e X.env) :: starEach es X.env:=by rfl) (hpl:(backTo pos (starEach es X.env)).any (·.1)=false:=by rfl):PE X (.Call (.Name x p) (e :: es) [] pos) (tCB r t):=by
  intro pins s σ H Q I h
  refine wpAny_Call_Name_kw (ld_blt I hg hm hv ?_ hn hdb)
  exact PyProof.Rows.callWith_builtin1 (thn (ha pos pins s σ H _ I h) fun us s1 ⟨vs,H1,I1,r1,q1⟩=>hc pins s1 σ H1 vs us Q I1 r1 q1) he hpl
theorem pe_callTy (hc:CallR X (.type T) r) (hg:Gl X x) (hm:X.mg x=none) (hv:bootBuiltins x=some (.type T)) (ha:PA X (e :: es) t) (hn:x ≠ "__name__" := by decide) (hdb:(x == ("__debug__" : Str))=false:=by decide)
    (he:starEach (e :: es) X.env=(false,eval e X.env) :: starEach es X.env:=by rfl) (hpl:(backTo pos (starEach es X.env)).any (·.1)=false:=by rfl):PE X (.Call (.Name x p) (e :: es) [] pos) (tCB r t):=by
  intro pins s σ H Q I h
  refine wpAny_Call_Name_kw (ld_blt I hg hm hv ?_ hn hdb)
  exact PyProof.Rows.callWith_type1 (thn (ha pos pins s σ H _ I h) fun us s1 ⟨vs,H1,I1,r1,q1⟩=>hc pins s1 σ H1 vs us Q I1 r1 q1) he hpl
end
end L2

namespace HT
open PySem PyProof.Rows

noncomputable def lexLt:List Int→List Int→Bool
  | [], []=>false
  | [],_ :: _=>true
  | _ :: _, []=>false
  | x :: xs,y :: ys=>if x=y then lexLt xs ys else decide (x < y)
theorem lexLt_cons (x y:Int) (xs ys:List Int):lexLt (x :: xs) (y :: ys)=if x=y then lexLt xs ys else decide (x < y):=rfl
theorem lexLt_nil_nil:lexLt [] []=false:=rfl
theorem lexLt_nil_cons (y:Int) (ys:List Int):lexLt [] (y :: ys)=true:=rfl
theorem lexLt_cons_nil (x:Int) (xs:List Int):lexLt (x :: xs) []=false:=rfl

theorem eqAt_int (A:Around) (s:Shared) (a:Int) (t:Tok) (c:Int) (u:Tok):∃ e,SeqAt.EqAt A s (.int a t) (.int c u) e∧(e=true↔a=c) :=
  ⟨(a == c),SeqAt.EqAt.int_int a t c u,by simp⟩
theorem rcLt_int (A:Around) (s:Shared) (a:Int) (t:Tok) (c:Int) (u:Tok) (prog:Program) (w:World) (E:Value→Shared→Prop) (Q:Value→Shared→Prop) (h:Q (.bool (decide (a < c))) s) :
    wpAny (model prog w) A (richCompare .Lt (.int a t) (.int c u)) Q E s :=
  (PyProof.Rows.lt_int h:wpAny (model prog w) A (compareOp .Lt (.int a t) (.int c u)) Q E s)

section
open PySem.SeqAt
open PySem.AutoSeq1 (wpAny_loadPart')
open PySem.MeetsSeq PySem.MeetsSeq2 PySem.MeetsSeq3

theorem tuple_lt_ints (l b:Addr) (items items2:Array Value) (n n2:Nat) (dd dd2:Option Addr) (sl sl2:Array (Option Value)) (ns ms:List Int) (hi:IntsAre items.toList ns) (hj:IntsAre items2.toList ms) :
    Meets (Builtin.«tuple.__lt__» ⟨[.ref l,.ref b], []⟩)
      (fun _ R s=>s.heap.get? l=some { cls := .type "tuple",dict:=dd,data := .seq items n,slots:=sl }∧s.heap.get? b=some { cls := .type "tuple",dict:=dd2,data := .seq items2 n2,slots:=sl2 } ∧
        R (.ok (.ret (.bool (lexLt ns ms)))) s) :=
  .of_wp fun prog w A R s h=>by
    obtain ⟨hp,g,d,tk,os⟩:=s;obtain ⟨hl,hb,h⟩:=h
    have f2:=AutoSeq1.sub_tuple_tuple
    have z1:items.size=ns.length:=by rw [← hi.length];simp
    have z2:items2.size=ms.length:=by rw [← hj.length];simp
    wp_walk using wpAny_loadPart' hl,wpAny_loadPart' hb,wpAny_forIn_list _ (fun rest b s'=>b.1=none∧s'=⟨hp,g,d,tk,os⟩∧∃ (vs ws:List Value) (ns' ms':List Int),rest=vs.zip ws ∧
      IntsAre vs ns'∧IntsAre ws ms'∧ns'.length+items2.size=ms'.length+items.size∧R (.ok (.ret (.bool (lexLt ns' ms')))) ⟨hp,g,d,tk,os⟩) _
    case turn =>
      rintro ⟨y,x⟩ rest b s' ⟨hb',rfl,vs,ws,ns',ms',hz,hvi,hwi,hlen,hR⟩
      cases hvi with
      | nil=>rw [List.zip_nil_left] at hz;cases hz
      | cons a t hvi' =>
        cases hwi with
        | nil=>rw [List.zip_nil_right] at hz;cases hz
        | cons c u hwi' =>
          rw [List.zip_cons_cons] at hz
          injection hz with hyx hrest
          injection hyx with hy hx
          subst hy hx
          rw [lexLt_cons] at hR
          simp only [List.length_cons] at hlen
          obtain ⟨e,he,hiff⟩:=eqAt_int A.in1 ⟨hp,g,d,tk,os⟩ a t c u
          refine wpAny_bind (he prog w _ _ ?_)
          cases e with
          | true =>
            rw [if_pos (hiff.mp rfl)] at hR
            wp_walk
            exact ⟨rfl,rfl,_,_,_,_,hrest,hvi',hwi',by omega,hR⟩
          | false =>
            rw [if_neg (fun q=>absurd (hiff.mpr q) Bool.false_ne_true)] at hR
            have hri:=rcLt_int A.in1 ⟨hp,g,d,tk,os⟩ a t c u prog w
            wp_walk using hri
            exact ⟨_,rfl,by simpa using hR⟩
    case fin =>
      rintro ⟨b1,b2⟩ s' ⟨hb',rfl,vs,ws,ns',ms',hz,hvi,hwi,hlen,hR⟩
      simp only at hb'
      subst hb'
      have hv:lexLt ns' ms'=decide (items.size < items2.size):=by
        cases hvi with
        | nil =>
          cases hwi with
          | nil =>
            simp only [List.length_nil] at hlen
            rw [lexLt_nil_nil]
            exact (decide_eq_false (by omega)).symm
          | cons c u hw =>
            simp only [List.length_nil,List.length_cons] at hlen
            rw [lexLt_nil_cons]
            exact (decide_eq_true (by omega)).symm
        | cons a t hv =>
          cases hwi with
          | nil =>
            simp only [List.length_nil,List.length_cons] at hlen
            rw [lexLt_cons_nil]
            exact (decide_eq_false (by omega)).symm
          | cons c u hw =>
            rw [List.zip_cons_cons] at hz
            cases hz
      rw [hv] at hR
      wp_walk
      exact ⟨_,rfl,by simpa [Builtin.Tuple.tupleCompareSizes] using hR⟩
    case h =>
      exact ⟨rfl,rfl,items.toList,items2.toList,ns,ms,rfl,hi,hj,by omega,h⟩
end

section
variable {prog:Program} {w:World} {A:Around} {E:Value→Shared→Prop} {s:Shared}

theorem lt_tupInts {l b:Addr} {items items2:Array Value} {ns ms:List Int} {Q:Value→Shared→Prop} (hl:IsTup s.heap l items) (hb:IsTup s.heap b items2) (hi:IntsAre items.toList ns) (hj:IntsAre items2.toList ms)
    (hu:A.units < cLine) (h:Q (.bool (lexLt ns ms)) s):wpAny (model prog w) A (compareOp .Lt (.ref l) (.ref b)) Q E s:=by
  obtain ⟨⟨cls,dd,data,sl⟩,ho,hc,n,hd⟩:=id hl
  obtain ⟨⟨cls2,dd2,data2,sl2⟩,ho2,hc2,n2,hd2⟩:=id hb
  simp only at hc hd hc2 hd2
  subst hc hd hc2 hd2
  exact richCompare_meets_room (op := .Lt) ⟨_,ho,rfl⟩ ⟨_,ho2,rfl⟩ PySem.F.slot_tuple_lt PySem.F.entry_tuple_lt (PySem.F.args_tuple_lt_2 _ _) (tuple_lt_ints l b items items2 n n2 dd dd2 sl sl2 ns ms hi hj)
    ⟨ho,ho2,show Value.bool (lexLt ns ms)≠Value.notImplemented∧Q (.bool (lexLt ns ms)) s from ⟨(fun x=>nomatch x),h⟩⟩ hu

theorem cat_tup {t b:Addr} {vs ws:List Value} {Q:Value→Shared→Prop} (ht:IsTup s.heap t vs.toArray) (hb:IsTup s.heap b ws.toArray) (hv:vs ≠ [])
    (h1:ws = []→Q (.ref t) s) (h2:ws ≠ []→Q (.ref s.heap.objs.size) { s with heap:=s.heap.push { cls := .type "tuple",data := .seq (vs ++ ws).toArray } })
    (hsz:vs.length+ws.length≤sizeLine):wpAny (model prog w) A (binaryOp .Add (.ref t) (.ref b)) Q E s:=by
  obtain ⟨⟨cls,dd,data,sl⟩,ho,hc,n,hd⟩:=id ht
  obtain ⟨⟨cls2,dd2,data2,sl2⟩,ho2,hc2,n2,hd2⟩:=id hb
  simp only at hc hd hc2 hd2
  subst hc hd hc2 hd2
  have e:vs.toArray ++ ws.toArray=(vs ++ ws).toArray:=by simp
  by_cases hw:ws = []
  · exact concat_meets ⟨_,ho,rfl⟩ ⟨_,ho2,rfl⟩ noFill_tuple_add seq_tuple_add PySem.F.slot_tuple_add PySem.F.entry_tuple_add (PySem.F.args_tuple_add_2 _ _)
      (tuple_addW1 t b vs.toArray ws.toArray n n2 dd dd2 sl sl2 (by simpa using hv) (by simp [hw])) ⟨ho,ho2,h1 hw⟩
  · refine concat_meets ⟨_,ho,rfl⟩ ⟨_,ho2,rfl⟩ noFill_tuple_add seq_tuple_add PySem.F.slot_tuple_add PySem.F.entry_tuple_add (PySem.F.args_tuple_add_2 _ _)
      (tuple_addW2 t b vs.toArray ws.toArray n n2 dd dd2 sl sl2 (by simpa using hv) (by simpa using hw) (by rw [List.size_toArray,List.size_toArray];exact hsz)) ⟨ho,ho2,?_⟩
    rw [e]
    exact h2 hw

noncomputable def sIx (n d:Nat):Option Int→Nat
  | none=>d
  | some v=>if v < 0 then (v+(n:Int)).toNat else min v.toNat n
theorem sIx_none (n d:Nat):sIx n d none=d:=rfl
theorem sIx_nat (n d k:Nat):sIx n d (some (k:Int))=min k n:=by
  show (if (k:Int) < 0 then ((k:Int)+(n:Int)).toNat else min (k:Int).toNat n)=min k n
  rw [if_neg (by omega),Int.toNat_natCast]
theorem sIx_le (n d:Nat) (hd:d≤n) (o:Option Int):sIx n d o≤n:=by
  cases o with
  | none=>exact hd
  | some v =>
    show (if v < 0 then (v+(n:Int)).toNat else min v.toNat n)≤n
    by_cases hv:v < 0
    · rw [if_pos hv];omega
    · rw [if_neg hv];exact Nat.min_le_right _ _
theorem clip_eq (v:Int) (n d:Nat):(if v < 0 then max (v+(n:Int)) 0 else min v (n:Int))=((sIx n d (some v):Nat):Int):=by
  show (if v < 0 then max (v+(n:Int)) 0 else min v (n:Int))=(((if v < 0 then (v+(n:Int)).toNat else min v.toNat n):Nat):Int)
  by_cases hv:v < 0
  · simp only [if_pos hv];omega
  · simp only [if_neg hv];omega
theorem adjust_gen (lo hi:Option Int) (n:Nat):Builtin.Slice.sliceAdjust lo hi 1 (n:Int)=(((sIx n 0 lo:Nat):Int),((sIx n n hi:Nat):Int)):=by
  have h1:¬ ((1:Int) < 0):=by omega
  unfold Builtin.Slice.sliceAdjust
  simp only [h1,if_false]
  refine Prod.ext ?_ ?_
  · cases lo with
    | none=>rfl
    | some v=>exact clip_eq v n 0
  · cases hi with
    | none=>rfl
    | some v=>exact clip_eq v n n
theorem places_gen (i j:Nat):Builtin.Slice.slicePlaces (i:Int) (j:Int) 1=j - i:=by
  unfold Builtin.Slice.slicePlaces
  have h1:(1:Int) > 0:=by omega
  simp only [h1,if_true,Int.ediv_one]
  split <;> omega
theorem slicePart_ {v:Value} {o:Option Int} {Q:Option Int→Shared→Prop} (p:IsPart v o) (h:Q o s):wpAny (model prog w) A (Builtin.Slice.slicePartIndex v) Q E s:=by
  cases p with
  | none=>exact slicePart_none h
  | int i t=>exact slicePart_int h
theorem sliceApplied_gen {sl:Addr} {vl vu:Value} {lo hi:Option Int} {n:Nat} {Q:Int × Int × Nat→Shared→Prop} (hs:s.heap.IsSliceOf sl vl vu .none) (pl:IsPart vl lo) (pu:IsPart vu hi)
    (h:Q (((sIx n 0 lo:Nat):Int),1,sIx n n hi - sIx n 0 lo) s):wpAny (model prog w) A (Builtin.Slice.sliceApplied (.ref sl) (pure (n:Int))) Q E s:=by
  obtain ⟨os,hos,hcs,hds⟩:=id hs
  unfold Builtin.Slice.sliceApplied Builtin.Slice.sliceFields
  refine wpAny_bind (wpAny_bind (wpAny_field hos hds (x:=vl) rfl (wpAny_bind (wpAny_field hos hds (x:=vu) rfl (wpAny_bind (wpAny_field hos hds (x := .none) rfl (wpAny_pure ?_)))))))
  refine wpAny_bind (slicePart_none ?_)
  show wpAny _ _ (if ((1:Int) == 0)=true then _ else _) _ _ s
  rw [if_neg (by decide)]
  refine wpAny_bind (slicePart_ pl (wpAny_bind (slicePart_ pu (wpAny_bind (wpAny_pure ?_)))))
  show wpAny _ _ (match Builtin.Slice.sliceAdjust lo hi 1 (n:Int) with | (lo,hi)=>pure (lo,(1:Int),Builtin.Slice.slicePlaces lo hi 1)) _ _ s
  rw [adjust_gen lo hi n]
  show wpAny _ _ (pure (((sIx n 0 lo:Nat):Int),(1:Int),Builtin.Slice.slicePlaces ((sIx n 0 lo:Nat):Int) ((sIx n n hi:Nat):Int) 1)) _ _ s
  rw [places_gen]
  exact wpAny_pure h
theorem pick_gen (xs:Array Value) (i k:Nat):((List.range k).filterMap fun (m:Nat)=>xs[((i:Int)+(m:Int) * 1).toNat]?).toArray=((xs.toList.drop i).take k).toArray:=by
  have e:(fun (m:Nat)=>xs[((i:Int)+(m:Int) * 1).toNat]?)=fun m=>xs[i+m]? := by
    funext m
    have:((i:Int)+(m:Int) * 1).toNat=i+m:=by omega
    rw [this]
  rw [e]
  have:=pick_run xs i k
  rw [List.filterMap_map] at this
  have e2:((fun x=>xs[x]?) ∘ fun x=>i+x)=fun m=>xs[i+m]? := rfl
  rw [e2] at this
  rw [this]

theorem getItem_tuple_cut {t sl:Addr} {items:Array Value} {vl vu:Value} {lo hi:Option Int} {Q:Value→Shared→Prop} (ht:IsTup s.heap t items) (hs:s.heap.IsSliceOf sl vl vu .none) (pl:IsPart vl lo) (pu:IsPart vu hi)
    (hw:¬ (sIx items.size 0 lo=0∧sIx items.size items.size hi=items.size))
    (h:Q (.ref s.heap.objs.size) { s with heap:=s.heap.push { cls := .type "tuple",data := .seq ((items.toList.drop (sIx items.size 0 lo)).take (sIx items.size items.size hi - sIx items.size 0 lo)).toArray } })
    (hsz:items.size≤sizeLine):wpAny (model prog w) A (getItem (.ref t) (.ref sl)) Q E s:=by
  have htake:sizeOk (.seq ((items.toList.drop (sIx items.size 0 lo)).take (sIx items.size items.size hi - sIx items.size 0 lo)).toArray):=by
    show ((items.toList.drop (sIx items.size 0 lo)).take (sIx items.size items.size hi - sIx items.size 0 lo)).toArray.size≤sizeLine
    rw [List.size_toArray,List.length_take,List.length_drop,Array.length_toList]
    omega
  have hj:sIx items.size items.size hi≤items.size:=sIx_le _ _ (Nat.le_refl _) hi
  obtain ⟨os,hos,hcs,hds⟩:=id hs
  have hTs:s.TypeIs (.ref sl) "slice" := ⟨os,hos,hcs⟩
  unfold getItem
  try with_reducible refine wpAny_holding ?_
  first | refine wpAny_bind (wpAny_pure ?_) | skip
  refine wpAny_bind (wpAny_sequenceKey ht.typeIs (by decide) ?_)
  refine wpAny_bind (wpAny_callSpecial?_slot (name:=Str.ofString "__getitem__") ht.typeIs PyProof.Rows.slot_tuple_getitem
    (wpAny_call_entry PyProof.Rows.slot_tuple_getitem ht.typeIs entry_tuple_getitem ?_ (args_tuple_getitem _ _)))
  show wpAny _ _ (Builtin.Tuple.tupleItemsOf (.ref t) >>= _) _ _ s
  refine wpAny_bind (tupleItemsOf_ ht ?_)
  refine wpAny_bind (wpAny_typeOf hTs ?_)
  rw [if_pos (by decide)]
  refine wpAny_bind (sliceApplied_gen hs pl pu ?_)
  have hno:¬ ((((sIx items.size 0 lo:Nat):Int) == 0 && (1:Int) == 1 && (sIx items.size items.size hi - sIx items.size 0 lo) == items.size)=true):=by
    intro q
    rw [Bool.and_eq_true,Bool.and_eq_true] at q
    have q1:((sIx items.size 0 lo:Nat):Int)=0:=eq_of_beq q.1.1
    have q2:sIx items.size items.size hi - sIx items.size 0 lo=items.size:=eq_of_beq q.2
    exact hw ⟨by omega,by omega⟩
  show wpAny _ _ (if (((sIx items.size 0 lo:Nat):Int) == 0 && (1:Int) == 1 && (sIx items.size items.size hi - sIx items.size 0 lo) == items.size)=true then _ else _) _ _ s
  rw [if_neg hno,pick_gen]
  first
    | exact wpAny_bind (m:=Builtin.Tuple.tupleExact _) (wpAny_newObj_type (wpAny_pure ⟨_,rfl,wpAny_pure h⟩) htake)
    | exact wpAny_bind (m:=Builtin.Tuple.tupleExact _) (wpAny_newObj_type (wpAny_bind (wpAny_pure (wpAny_pure ⟨_,rfl,wpAny_pure h⟩))) htake)
    | exact wpAny_bind (wpAny_bind (m:=Builtin.Tuple.tupleExact _) (wpAny_newObj_type (wpAny_pure (wpAny_pure ⟨_,rfl,wpAny_pure h⟩)) htake))
    | exact wpAny_bind (wpAny_bind (m:=Builtin.Tuple.tupleExact _) (wpAny_newObj_type (wpAny_pure ⟨_,rfl,wpAny_pure h⟩) htake))
end
end HT

namespace L2
open PySem PySem.Spec PyProof.Rows

noncomputable abbrev TO:=St→Hp→(Option Int→Hp→Prop)→Prop
noncomputable def PO (X:Cx) (e:Option Expr) (t:TO):Prop :=
  ∀ (pins:List (Addr × Obj)) (s:Shared) (σ : St) (H:Hp) (Q:Option Int→Hp→Prop),Inv X pins σ H s→t σ H Q →
    wpAny (model X.prog X.w) X.A (evalPart e X.env) (fun u s'=>∃ o H',Inv X pins σ H' s'∧IsPart u o∧Q o H') X.xe s
noncomputable def tNoPart:TO:=fun _ H Q=>Q none H
inductive J_tPart (Q:Option Int→Hp→Prop) (x:V) (H1:Hp):Prop
  | mk:∀ i,(x = .int i)→(Q (some i) H1)→J_tPart Q x H1
noncomputable def tPart (t:TE):TO:=fun σ H Q=>t σ H fun x H1=>J_tPart Q x H1

theorem intsAre_of {ns:List Int}:∀ {us:List Value},Vals (ns.map V.int) us→IntsAre us ns:=by
  induction ns with
  | nil=>intro us r;rw [List.map_nil] at r;cases r;exact .nil
  | cons n ns ih =>
    intro us r
    rw [List.map_cons] at r
    cases r with
    | cons r1 r2 =>
      obtain ⟨t,e⟩:=r1
      subst e
      exact .cons n t (ih r2)

section
variable {X:Cx} {e:Expr} {te:TE} {lo hi:Option Expr} {tl th:TO} {pos p2:Pos}

theorem po_none:PO X none tNoPart:=by
  intro pins s σ H Q I h
  rw [evalPart_none]
  exact wpAny_pure ⟨none,H,I,.none,h⟩
theorem po_some (h:PE X e te):PO X (some e) (tPart te):=by
  intro pins s σ H Q I hw
  rw [evalPart_some]
  refine thn (h pins s σ H _ I hw) fun u s1 ⟨x,H1,I1,r1,q1⟩ => ?_
  obtain ⟨i,rfl,q⟩:=q1
  obtain ⟨t,rfl⟩:=r1
  exact ⟨some i,H1,I1,.int i t,q⟩

noncomputable def SlR (X:Cx) (r:V→Option Int→Option Int→Hp→VK→Prop):Prop :=
  ∀ (pins:List (Addr × Obj)) (s:Shared) (σ : St) (H:Hp) (x:V) (v vl vu:Value) (lo hi:Option Int) (sl:Addr) (Q:VK),Inv X pins σ H s→RelV x v→s.heap.IsSliceOf sl vl vu .none→IsPart vl lo→IsPart vu hi→r x lo hi H Q →
    ∃ T id,typeLookup (.type T) "__getitem__" = pure (some (.builtin id))∧s.TypeIs v T∧wpAny (model X.prog X.w) X.A (getItem v (.ref sl)) (EP X pins σ Q) X.xe s
noncomputable def tSl (r:V→Option Int→Option Int→Hp→VK→Prop) (te:TE) (tl th:TO):TE:=fun σ H Q=>te σ H fun x H1=>tl σ H1 fun l H2=>th σ H2 fun u H3=>r x l u H3 Q
theorem pe_slice {r:V→Option Int→Option Int→Hp→VK→Prop} (hr:SlR X r) (he:PE X e te) (hl:PO X lo tl) (hu:PO X hi th):PE X (.Subscript e (.Slice lo hi none p2) pos) (tSl r te tl th):=by
  intro pins s σ H Q I h
  refine Subscript_ (thn (he pins s σ H _ I h) fun v s1 ⟨x,H1,I1,r1,q1⟩ => ?_)
  refine wpAny_Slice (thn (hl pins s1 σ H1 _ I1 q1) fun vl s2 ⟨l,H2,I2,pl,q2⟩=>thn (hu pins s2 σ H2 _ I2 q2) fun vu s3 ⟨u,H3,I3,pu,q3⟩ => ?_)
  rw [evalPart_none]
  refine wpAny_pure ?_
  have I4:Inv X pins σ H3 { s3 with heap:=s3.heap.push { cls := .type "slice",data := .fields #[vl,vu,.none] } }:=I3.kept (t':=s3.toks) fun b ob q=>Heap.get?_push_of_some _ q
  obtain ⟨T,id,hT,ht,hg⟩:=hr pins { s3 with heap:=s3.heap.push { cls := .type "slice",data := .fields #[vl,vu,.none] } } σ H3 x v vl vu l u s3.heap.objs.size Q I4 r1 (Heap.IsSliceOf.new ..) pl pu q3
  show wpAny (model X.prog X.w) X.A (subscriptTail e (.Slice lo hi none p2) v (.ref s3.heap.objs.size)) (EP X pins σ Q) X.xe { s3 with heap:=s3.heap.push { cls := .type "slice",data := .fields #[vl,vu,.none] } }
  exact tail_any (ops := [.ref s3.heap.objs.size,v]) ht hT hg (by with_unfolding_all rfl)

noncomputable def cutV (xs:List V) (lo hi:Option Int):List V:=(xs.drop (HT.sIx xs.length 0 lo)).take (HT.sIx xs.length xs.length hi - HT.sIx xs.length 0 lo)
theorem cutV_length (xs:List V) (lo hi:Option Int):(cutV xs lo hi).length≤xs.length:=by
  unfold cutV
  rw [List.length_take,List.length_drop]
  omega
inductive J_rSlT (K:PySem.W.Frag) (x:V) (lo:Option Int) (hi:Option Int) (H:Hp) (Q:VK):Prop
  | mk:∀ a xs,(x = .ref a)→(SqT K H a xs)→(¬ (HT.sIx xs.length 0 lo=0∧HT.sIx xs.length xs.length hi=xs.length))→(∀ p,H p=none→Q (.ref p) (upd H p (.tup (cutV xs lo hi))))→J_rSlT K x lo hi H Q
noncomputable def rSlT (K:PySem.W.Frag):V→Option Int→Option Int→Hp→VK→Prop:=fun x lo hi H Q=>J_rSlT K x lo hi H Q
theorem sl_tup:SlR X (rSlT X.K):=by
  intro pins s σ H x v vl vu lo hi sl Q I rx hs pl pu h
  obtain ⟨a,xs,rfl,hx,hw,q⟩:=h
  cases rx
  obtain ⟨its,r,ht,hz⟩:=I.tuple hx
  have hlen:its.toArray.size=xs.length:=by rw [List.size_toArray];exact r.length.symm
  refine ⟨"tuple",_,PyProof.Rows.slot_tuple_getitem.lookup,ht.typeIs,?_⟩
  refine HT.getItem_tuple_cut ht hs pl pu (by rw [hlen];exact hw) ?_ (by rw [hlen];exact hz)
  rw [hlen]
  refine ⟨.ref s.heap.objs.size,_,I.laid (t':=s.toks) (o := .tup (cutV xs lo hi)) (fun b ob q=>Heap.get?_push_of_some _ q) (Nat.le_refl _) ?_,rfl,q _ (I.hok.fresh (Nat.le_refl _))⟩
  exact ⟨Nat.le_trans (cutV_length xs lo hi) hz,_,(r.drop (HT.sIx xs.length 0 lo)).take (HT.sIx xs.length xs.length hi - HT.sIx xs.length 0 lo),IsTupN.new _ _⟩

noncomputable def rCatT (K:PySem.W.Frag):R2:=fun x y H Q=>∃ a b xs ys,x = .ref a∧y = .ref b∧SqT K H a xs∧SqT K H b ys∧xs ≠ []∧xs.length+ys.length≤sizeLine ∧
  (ys = []→Q (.ref a) H)∧(ys ≠ []→∀ p,H p=none→Q (.ref p) (upd H p (.tup (xs ++ ys))))
theorem Vals.nil_iff {xs:List V} {us:List Value} (r:Vals xs us):us = []↔xs = []:=by
  cases r with
  | nil=>simp
  | cons _ _=>simp
theorem op_catT:OpR X (binaryOp .Add) (rCatT X.K):=by
  intro pins s σ H x y v u Q I rx ry h
  obtain ⟨a,b,xs,ys,rfl,rfl,ha,hb,hx,hz,q1,q2⟩:=h
  cases rx
  cases ry
  obtain ⟨its,r1,p1,_⟩:=I.tuple ha
  obtain ⟨its2,r2,p2,_⟩:=I.tuple hb
  refine HT.cat_tup p1 p2 (fun z=>hx (r1.nil_iff.mp z)) (fun z=>⟨.ref a,H,I,rfl,q1 (r2.nil_iff.mp z)⟩) (fun z => ?_) (by rw [← r1.length, ← r2.length];exact hz)
  refine ⟨.ref s.heap.objs.size,_,I.laid (t':=s.toks) (o := .tup (xs ++ ys)) (fun b ob q=>Heap.get?_push_of_some _ q) (Nat.le_refl _) ?_,rfl,q2 (fun w=>z (r2.nil_iff.mpr w)) _ (I.hok.fresh (Nat.le_refl _))⟩
  exact ⟨by rw [List.length_append];exact hz,_,r1.append r2,IsTupN.new _ _⟩
end
end L2

namespace L2
open PySem PySem.Spec PyProof.Rows

noncomputable def ixN (n:Nat) (i:Int):Option Nat:=if 0≤i then (if i < n then some i.toNat else none) else if -(n:Int)≤i then some (i+n).toNat else none
noncomputable def atI {α : Type} (xs:List α) (i:Int):Option α := (ixN xs.length i).bind fun j=>xs[j]?
theorem ixN_seq {n:Nat} {i:Int} {j:Nat} (h:ixN n i=some j):seqIndex? i n=some j∧j < n ∧ -(n:Int)≤i∧i < n:=by
  unfold ixN at h
  by_cases h0:0≤i
  · rw [if_pos h0] at h
    by_cases h1:i < n
    · rw [if_pos h1] at h
      have e:i.toNat=j:=Option.some.inj h
      exact ⟨by rw [seqIndex_of h0 h1,e],by omega,by omega,h1⟩
    · rw [if_neg h1] at h;cases h
  · rw [if_neg h0] at h
    by_cases h1 : -(n:Int)≤i
    · rw [if_pos h1] at h
      have e:(i+n).toNat=j:=Option.some.inj h
      exact ⟨by rw [seqIndex_neg (by omega) h1,e],by omega,h1,by omega⟩
    · rw [if_neg h1] at h;cases h
theorem atI_get {α : Type} {xs:List α} {i:Int} {v : α} (h:atI xs i=some v):∃ j,seqIndex? i xs.length=some j∧xs[j]? = some v∧j < xs.length ∧ -(xs.length:Int)≤i∧i < xs.length:=by
  unfold atI at h
  cases e:ixN xs.length i with
  | none=>rw [e] at h;cases h
  | some j =>
    rw [e] at h
    obtain ⟨h1,h2,h3,h4⟩:=ixN_seq e
    exact ⟨j,h1,h,h2,h3,h4⟩
theorem atI_nat {α : Type} {xs:List α} {j:Nat} {v : α} (h:xs[j]? = some v):atI xs (j:Int)=some v:=by
  have hj:j < xs.length:=(List.getElem?_eq_some_iff.mp h).1
  have e:ixN xs.length (j:Int)=some j:=by
    unfold ixN
    rw [if_pos (by omega),if_pos (by omega)];simp
  unfold atI;rw [e];exact h

noncomputable def PlainIx (b:Expr):Prop := ∀ o i,subscripted b false o i=operate [o,i] (getItem o i)
noncomputable def IxR (X:Cx) (r:R2):Prop :=
  ∀ (value slice:Expr) (pins:List (Addr × Obj)) (s:Shared) (σ : St) (H:Hp) (x y:V) (v u:Value) (Q:VK),Inv X pins σ H s→RelV x v→RelV y u→r x y H Q →
    subscripted slice false v u=operate [v,u] (getItem v u)→wpAny (model X.prog X.w) X.A (subscriptTail value slice v u) (EP X pins σ Q) X.xe s
noncomputable def MtR (X:Cx) (id:String) (r:V→List V→Hp→VK→Prop):Prop :=
  ∀ (pins:List (Addr × Obj)) (s:Shared) (σ : St) (H:Hp) (x:V) (xs:List V) (v:Value) (us:List Value) (Q:VK),Inv X pins σ H s→RelV x v→Vals xs us→r x xs H Q →
    wpAny (model X.prog X.w) X.A (call (.builtin id) (v :: us)) (EP X pins σ Q) X.xe s
section
variable {X:Cx} {a b:Expr} {ta tb:TE} {pos:Pos}
theorem pe_ix {r:R2} (hr:IxR X r) (ha:PE X a ta) (hb:PE X b tb) (hs:PlainIx b):PE X (.Subscript a b pos) (tOp r ta tb):=by
  intro pins s σ H Q I h
  exact Subscript_ (binT ha hb I h fun v u s2 x y H2 I2 rx ry q=>hr a b pins s2 σ H2 x y v u Q I2 rx ry q (hs _ _))

inductive RIxL (K:PySem.W.Frag) (x y:V) (H:Hp) (Q:VK):Prop
  | mk (p:Addr) (xs:List V) (i:Int) (v:V) (hx:x = .ref p) (hy:y = .int i) (hS:SqL K H p xs) (he:atI xs i=some v) (q:Q v H):RIxL K x y H Q
noncomputable def rIxL (K:PySem.W.Frag):R2:=fun x y H Q=>RIxL K x y H Q
inductive RIxT (K:PySem.W.Frag) (x y:V) (H:Hp) (Q:VK):Prop
  | mk (p:Addr) (xs:List V) (i:Int) (v:V) (hx:x = .ref p) (hy:y = .int i) (hS:SqT K H p xs) (he:atI xs i=some v) (q:Q v H):RIxT K x y H Q
noncomputable def rIxT (K:PySem.W.Frag):R2:=fun x y H Q=>RIxT K x y H Q
inductive J_rIxS (x:V) (y:V) (H:Hp) (Q:VK):Prop
  | mk:∀ z i c,(x = .str z)→(y = .int i)→(z.length≤sizeLine)→(atI z.cps.toList i=some c)→(Q (.str ⟨#[c]⟩) H)→J_rIxS x y H Q
noncomputable def rIxS:R2:=fun x y H Q=>J_rIxS x y H Q
theorem ix_list:IxR X (rIxL X.K):=by
  intro value slice pins s σ H x y v u Q I rx ry h hs
  obtain ⟨p,xs,i,z,rfl,rfl,hq,he,q⟩:=h
  cases rx
  obtain ⟨t,rfl⟩:=ry
  obtain ⟨its,r,pl,hz⟩:=I.list hq
  obtain ⟨j,h1,h2,h3,h4,h5⟩:=atI_get he
  obtain ⟨w,ew,rw'⟩:=r.get h2
  have hl:=r.length
  have hn:=line63
  have fin:EP X pins σ Q w s:=⟨z,H,I,rw',q⟩
  by_cases h0:0≤i
  · have hj:i.toNat=j:=by
      rw [seqIndex_of h0 h5] at h1
      exact Option.some.inj h1
    exact item_listR pl.isList h0 (by omega) (by rw [hj];simpa using ew) fin hs
  · have hj:(i+(its.toArray.size:Int)).toNat=j:=by
      rw [seqIndex_neg (by omega) h4] at h1
      rw [List.size_toArray, ← hl]
      exact Option.some.inj h1
    exact subscriptTail_builtinR (x:=w) pl.isList.typeIs slot_list_getitem.lookup
      (wpAny_getItem_list_neg (Q:=fun r s'=>r=w∧EP X pins σ Q r s') pl.isList (by omega) (by rw [List.size_toArray] <;> omega) (by omega) (by rw [hj];simpa using ew) ⟨rfl,fin⟩) hs
theorem ix_tup:IxR X (rIxT X.K):=by
  intro value slice pins s σ H x y v u Q I rx ry h hs
  obtain ⟨p,xs,i,z,rfl,rfl,hq,he,q⟩:=h
  cases rx
  obtain ⟨t,rfl⟩:=ry
  obtain ⟨its,r,pl,hz⟩:=I.tuple hq
  obtain ⟨j,h1,h2,h3,h4,h5⟩:=atI_get he
  obtain ⟨w,ew,rw'⟩:=r.get h2
  have hl:=r.length
  have hn:=line63
  have fin:EP X pins σ Q w s:=⟨z,H,I,rw',q⟩
  exact subscriptTail_builtinR (x:=w) pl.typeIs slot_tuple_getitem.lookup
    (getItem_tuple (j:=j) (Q:=fun r s'=>r=w∧EP X pins σ Q r s') pl (by omega) (by omega) (by rw [List.size_toArray, ← hl];exact h1) (by simpa using ew) ⟨rfl,fin⟩) hs
theorem ix_str:IxR X rIxS:=by
  intro value slice pins s σ H x y v u Q I rx ry h hs
  obtain ⟨z,i,c,rfl,rfl,hz,he,q⟩:=h
  obtain ⟨t,rfl⟩:=rx
  obtain ⟨t',rfl⟩:=ry
  obtain ⟨j,h1,h2,h3,h4,h5⟩:=atI_get he
  have hl:z.cps.toList.length=z.length:=by simp [Str.length]
  rw [hl] at h1 h4 h5
  have hn:=line63
  exact tail_any (typeIs_str s z t) slot_str_getitem.lookup (getItem_str (c:=c) (by
    have e1:decide (i < -(2 ^ 63:Int))=false:=decide_eq_false (by omega)
    have e2:decide (i ≥ 2 ^ 63)=false:=decide_eq_false (by omega)
    rw [e1,e2,Bool.or_false]) (by rw [h1];simpa using h2) ⟨.str ⟨#[c]⟩,H,I.tok _,⟨_,rfl⟩,q⟩) hs

theorem mapSeq_set (its:List Value) (n j:Nat) (u:Value):Obj.mapSeq (·.setIfInBounds j u) { cls := .type "list",data := .seq its.toArray n }={ cls := .type "list",data := .seq (its.set j u).toArray n }:=by
  simp [Obj.mapSeq]
theorem Inv.lst {pins:List (Addr × Obj)} {σ : St} {H:Hp} {s:Shared} {p:Addr} {xs:List V} (I:Inv X pins σ H s) (h:H p=some (.lst xs)) :
    ∃ (its:List Value) (n:Nat),Vals xs its∧s.heap.get? p=some { cls := .type "list",data := .seq its.toArray n }∧xs.length≤sizeLine:=by
  obtain ⟨z,its,n,r,e⟩:=I.hok p _ h
  exact ⟨its,n,r,e,z⟩
theorem Inv.lstUpd {pins:List (Addr × Obj)} {σ : St} {H:Hp} {s:Shared} {p:Addr} {xs ys:List V} {its its':List Value} {n n':Nat} {f:Obj→Obj} (I:Inv X pins σ H s) (h:H p=some (.lst xs))
    (ho:s.heap.get? p=some { cls := .type "list",data := .seq its.toArray n }) (hf:f { cls := .type "list",data := .seq its.toArray n }={ cls := .type "list",data := .seq its'.toArray n' }) (r:Vals ys its') (hz:ys.length≤sizeLine) (t:Nat) :
    Inv X pins σ (upd H p (.lst ys)) { s with heap:=s.heap.update p f,toks:=t }:=by
  have e:(s.heap.update p f).get? p=some { cls := .type "list",data := .seq its'.toArray n' }:=by
    rw [Heap.get?_update_self f ho (by rw [hf] <;> rfl),hf]
  refine I.write (x:=p) (e:=p) (by rw [h];trivial) (.inl rfl) (fun b u hb q=>(Heap.get?_update_other _ _ (Ne.symm hb)).trans q) ⟨_,e⟩ ?_
  exact ⟨hz,its',n',r,e⟩
inductive J_rSetL (o:V) (i:V) (v:V) (H:Hp) (Q:Hp→Prop):Prop
  | mk:∀ p xs k j,(o = .ref p)→(i = .int k)→(H p=some (.lst xs))→(ixN xs.length k=some j)→(Q (upd H p (.lst (xs.set j v))))→J_rSetL o i v H Q
noncomputable def rSetL:V→V→V→Hp→(Hp→Prop)→Prop:=fun o i v H Q=>J_rSetL o i v H Q
theorem set_list:PSet X rSetL:=by
  intro pins s σ H o i v ov iv u Q I ro ri rv h
  obtain ⟨p,xs,k,j,rfl,rfl,hp,hj,q⟩:=h
  cases ro
  obtain ⟨t,rfl⟩:=ri
  obtain ⟨its,n,r,ho,hz⟩:=I.lst hp
  obtain ⟨h1,h2,h3,h4⟩:=ixN_seq hj
  have hl:=r.length
  have hn:=line63
  have I':Inv X pins σ (upd H p (.lst (xs.set j v))) { s with heap:=s.heap.update p (Obj.mapSeq (·.setIfInBounds j u)) } :=
    I.lstUpd hp ho (mapSeq_set its n j u) (r.set rv j) (by rw [List.length_set];exact hz) s.toks
  by_cases h0:0≤k
  · have hk:k.toNat=j:=by
      rw [seqIndex_of h0 h4] at h1
      exact Option.some.inj h1
    exact PySem.W.ki_setAt ho h0 (by omega) (by rw [List.size_toArray, ← hl];exact h4) (by rw [hk];exact ⟨_,I',q⟩)
  · have hk:(k+(its.toArray.size:Int)).toNat=j:=by
      rw [seqIndex_neg (by omega) h3] at h1
      rw [List.size_toArray, ← hl]
      exact Option.some.inj h1
    exact PySem.W.ki_setBack ho (by omega) (by rw [List.size_toArray, ← hl];exact h3) (by omega) (by rw [hk];exact ⟨_,I',q⟩)

theorem slice_bounds (lo hi:Option Int) (n:Nat):(sliceBounds lo hi none n).1=((HT.sIx n 0 lo:Nat):Int)∧(sliceBounds lo hi none n).2.1=((HT.sIx n n hi:Nat):Int)∧(sliceBounds lo hi none n).2.2=1:=by
  refine ⟨?_,?_,rfl⟩
  · cases lo with
    | none=>simp [sliceBounds,HT.sIx]
    | some i =>
      simp only [sliceBounds,HT.sIx,Option.getD_none,show (1:Int) > 0 by decide,if_true]
      by_cases h:i < 0
      · simp only [h,if_true] <;> omega
      · simp only [h,if_false] <;> omega
  · cases hi with
    | none=>simp [sliceBounds,HT.sIx]
    | some i =>
      simp only [sliceBounds,HT.sIx,Option.getD_none,show (1:Int) > 0 by decide,if_true]
      by_cases h:i < 0
      · simp only [h,if_true] <;> omega
      · simp only [h,if_false] <;> omega
theorem slicePick_cut (its:List Value) (lo hi:Option Int):slicePick its.toArray lo hi none=((its.drop (HT.sIx its.length 0 lo)).take (HT.sIx its.length its.length hi - HT.sIx its.length 0 lo)).toArray:=by
  obtain ⟨h1,h2,h3⟩:=slice_bounds lo hi its.toArray.size
  unfold slicePick
  rw [h1,h2,h3]
  simp only [sliceRange_one,pick_run,List.size_toArray] <;> rfl
inductive J_rSlL (K:PySem.W.Frag) (x:V) (lo:Option Int) (hi:Option Int) (H:Hp) (Q:VK):Prop
  | mk:∀ a xs,(x = .ref a)→(SqL K H a xs)→(∀ p,H p=none→Q (.ref p) (upd H p (.lst (cutV xs lo hi))))→J_rSlL K x lo hi H Q
noncomputable def rSlL (K:PySem.W.Frag):V→Option Int→Option Int→Hp→VK→Prop:=fun x lo hi H Q=>J_rSlL K x lo hi H Q
theorem sl_list:SlR X (rSlL X.K):=by
  intro pins s σ H x v vl vu lo hi sl Q I rx hs pl pu h
  obtain ⟨a,xs,rfl,hx,q⟩:=h
  cases rx
  obtain ⟨its,r,ht,hz⟩:=I.list hx
  have hlen:=r.length
  refine ⟨"list",_,slot_list_getitem.lookup,ht.isList.typeIs,?_⟩
  refine wpAny_getItem_list_slice ht.isList hs pl pu .none (by simp) ?_ (by rw [List.size_toArray] <;> omega)
  rw [slicePick_cut, ← hlen]
  refine ⟨.ref s.heap.objs.size,_,I.laid (t':=s.toks) (o := .lst (cutV xs lo hi)) (fun b ob q=>Heap.get?_push_of_some _ q) (Nat.le_refl _) ?_,rfl,q _ (I.hok.fresh (Nat.le_refl _))⟩
  exact ⟨Nat.le_trans (cutV_length xs lo hi) hz,_,0,(r.drop (HT.sIx xs.length 0 lo)).take (HT.sIx xs.length xs.length hi - HT.sIx xs.length 0 lo),Heap.get?_push_size _ rfl⟩

noncomputable def flatV:V→Bool
  | .non=>true
  | .bl _=>true
  | .int _=>true
  | .str _=>true
  | _=>false
noncomputable def eqV:V→V→Bool
  | .non,.non=>true
  | .bl a,.bl b=>a == b
  | .bl a,.int b=>(if a then 1 else 0) == b
  | .int a,.bl b=>a == (if b then 1 else 0)
  | .int a,.int b=>a == b
  | .str a,.str b=>a == b
  | _,_=>false
theorem eqAt_V {A:Around} {s:Shared} {y x:V} {u v:Value} (ry:RelV y u) (rx:RelV x v) (fy:flatV y=true) (fx:flatV x=true):SeqAt.EqAt A s u v (eqV y x):=by
  cases y with
  | non =>
    cases ry
    cases x with
    | non=>cases rx;exact SeqAt.EqAt.same _
    | bl b=>cases rx;exact SeqAt.EqAt.none_bool b
    | int b=>obtain ⟨t,rfl⟩:=rx;exact SeqAt.EqAt.none_int b t
    | str b=>obtain ⟨t,rfl⟩:=rx;exact SeqAt.EqAt.none_str b t
    | _=>exact absurd (show false=true from fx) Bool.false_ne_true
  | bl a =>
    cases ry
    cases x with
    | non=>cases rx;exact SeqAt.EqAt.bool_none a
    | bl b=>cases rx;exact SeqAt.EqAt.bool_bool a b
    | int b=>obtain ⟨t,rfl⟩:=rx;exact SeqAt.EqAt.bool_int a b t
    | str b=>obtain ⟨t,rfl⟩:=rx;exact SeqAt.EqAt.bool_str a b t
    | _=>exact absurd (show false=true from fx) Bool.false_ne_true
  | int a =>
    obtain ⟨t',rfl⟩:=ry
    cases x with
    | non=>cases rx;exact SeqAt.EqAt.int_none a t'
    | bl b=>cases rx;exact SeqAt.EqAt.int_bool a t' b
    | int b=>obtain ⟨t,rfl⟩:=rx;exact SeqAt.EqAt.int_int a t' b t
    | str b=>obtain ⟨t,rfl⟩:=rx;exact SeqAt.EqAt.int_str a t' b t
    | _=>exact absurd (show false=true from fx) Bool.false_ne_true
  | str a =>
    obtain ⟨t',rfl⟩:=ry
    cases x with
    | non=>cases rx;exact SeqAt.EqAt.str_none a t'
    | bl b=>cases rx;exact SeqAt.EqAt.str_bool a t' b
    | int b=>obtain ⟨t,rfl⟩:=rx;exact SeqAt.EqAt.str_int a t' b t
    | str b=>obtain ⟨t,rfl⟩:=rx;exact SeqAt.EqAt.str_str a t' b t
    | _=>exact absurd (show false=true from fx) Bool.false_ne_true
  | _=>exact absurd (show false=true from fy) Bool.false_ne_true
noncomputable def eqU (x:V) (u:Value):Bool:=match u with
  | .none=>eqV .non x
  | .bool b=>eqV (.bl b) x
  | .int i _=>eqV (.int i) x
  | .str z _=>eqV (.str z) x
  | _=>false
theorem eqU_of {x y:V} {u:Value} (r:RelV y u) (f:flatV y=true):eqU x u=eqV y x:=by
  cases y with
  | non=>cases r;rfl
  | bl b=>cases r;rfl
  | int i=>obtain ⟨t,rfl⟩:=r;rfl
  | str z=>obtain ⟨t,rfl⟩:=r;rfl
  | _=>exact absurd (show false=true from f) Bool.false_ne_true
theorem any_eqU {x:V}:∀ {xs:List V} {us:List Value},Vals xs us→xs.all flatV=true→us.any (eqU x)=xs.any fun y=>eqV y x
  | _,_,.nil,_=>rfl
  | y :: xs,u :: us,.cons r t,f=>by
    rw [List.all_cons,Bool.and_eq_true] at f
    rw [List.any_cons,List.any_cons,eqU_of r f.1,any_eqU t f.2]
theorem mem_eqAt {A:Around} {s:Shared} {x:V} {v:Value} (rx:RelV x v) (fx:flatV x=true):∀ {xs:List V} {us:List Value},Vals xs us→xs.all flatV=true→∀ u∈us,SeqAt.EqAt A s u v (eqU x u)
  | _,_,.nil,_=>fun u hu=>by cases hu
  | y :: xs,u :: us,.cons r t,f=>fun u' hu=>by
    rw [List.all_cons,Bool.and_eq_true] at f
    rcases List.mem_cons.mp hu with rfl | hu
    · rw [eqU_of r f.1];exact eqAt_V r rx f.1 fx
    · exact mem_eqAt rx fx t f.2 u' hu
noncomputable def inV (x:V) (xs:List V):Bool:=xs.any fun y=>eqV y x
inductive J_rIn (K:PySem.W.Frag) (neg:Bool) (x:V) (y:V) (H:Hp) (Q:VK):Prop
  | mk:∀ p xs,(y = .ref p)→((SqL K H p xs∨SqT K H p xs))→(flatV x=true)→(xs.all flatV=true)→(Q (.bl (if neg then !inV x xs else inV x xs)) H)→J_rIn K neg x y H Q
noncomputable def rIn (K:PySem.W.Frag) (neg:Bool):R2:=fun x y H Q=>J_rIn K neg x y H Q
theorem op_in_seq:OpR X (compareOp .In) (rIn X.K false):=by
  intro pins s σ H x y v u Q I rx ry h
  obtain ⟨p,xs,rfl,hq,fx,fs,q⟩:=h
  cases ry
  rcases hq with hq | hq
  · obtain ⟨its,r,pl,hz⟩:=I.list hq
    refine SeqAt.in_listAt (eqU x) pl.isList (fun w hw=>mem_eqAt rx fx r fs w (by simpa using hw)) ⟨.bl _,H,I,rfl,?_⟩
    rw [show its.toArray.any (eqU x)=its.any (eqU x) by simp,any_eqU r fs]
    exact q
  · obtain ⟨its,r,pl,hz⟩:=I.tuple hq
    refine SeqAt.in_tupleAt (eqU x) pl (fun w hw=>mem_eqAt rx fx r fs w (by simpa using hw)) ⟨.bl _,H,I,rfl,?_⟩
    rw [show its.toArray.any (eqU x)=its.any (eqU x) by simp,any_eqU r fs]
    exact q

inductive J_len (K:PySem.W.Frag) (xs:List V) (H:Hp) (Q:VK):Prop
  | mk:∀ p ys,(xs = [.ref p])→(SqL K H p ys∨SqT K H p ys)→(Q (.int ys.length) H)→J_len K xs H Q
theorem call_len_seq:CallR X (.builtin "len") (fun xs H Q=>J_len X.K xs H Q):=by
  intro pins s σ H xs us Q I r h
  obtain ⟨p,ys,rfl,hq,q⟩:=h
  obtain ⟨u,rfl,rx⟩:=vals1 r
  cases rx
  have hn:=line63
  rcases hq with hq | hq
  · obtain ⟨its,r',pl,hz⟩:=I.list hq
    have hlen:=r'.length
    exact Calls.call_len_list pl.isList (by simp only [List.size_toArray] <;> omega) ⟨.int ys.length,H,I.tok _,⟨s.toks+1,by rw [List.size_toArray,hlen]⟩,q⟩
  · obtain ⟨its,r',pl,hz⟩:=I.tuple hq
    have hlen:=r'.length
    exact len_tuple pl (by simp only [List.size_toArray] <;> omega) ⟨.int ys.length,H,I.tok _,⟨s.toks+1,by rw [List.size_toArray,hlen]⟩,q⟩
inductive J_call_list_of (kK:PySem.W.Frag) (xs:List V) (H:Hp) (Q:VK):Prop
  | mk:∀ p ys,(xs = [.ref p])→((SqL kK H p ys∨SqT kK H p ys))→(∀ l,H l=none→Q (.ref l) (upd H l (.lst ys)))→J_call_list_of kK xs H Q
theorem call_list_of:CallR X (.type "list") (fun xs H Q=>J_call_list_of X.K xs H Q):=by
  intro pins s σ H xs us Q I r h
  obtain ⟨p,ys,rfl,hq,q⟩:=h
  obtain ⟨u,rfl,rx⟩:=vals1 r
  cases rx
  have fin:∀ (its:List Value),Vals ys its→ys.length≤sizeLine→∀ (h':Heap) (c':Nat),(∀ b o',s.heap.get? b=some o'→h'.get? b=some o') →
      h'.get? s.heap.objs.size=some { cls := .type "list",dict:=none,data := .seq its.toArray c',slots := #[] }→EP X pins σ Q (.ref s.heap.objs.size) { s with heap:=h' }:=fun its r' hz h' c' kp e =>
    ⟨.ref s.heap.objs.size,_,I.laid (t':=s.toks) kp (Nat.le_refl _) (show ObjOk X.prog X.w _ h' _ (.lst ys) from ⟨hz,its,c',r',e⟩),rfl,q _ (I.hok.fresh (Nat.le_refl _))⟩
  rcases hq with hq | hq
  · obtain ⟨its,r',pl,hz⟩:=I.list hq
    have hlen:=r'.length
    obtain ⟨o,ho,hc,n,hd⟩:=pl.isList
    exact call_list_seq p (.inl rfl) ho hc hd (fun h' c' kp e=>fin its r' hz h' c' kp e) (by simp only [List.size_toArray] <;> omega)
  · obtain ⟨its,r',pl,hz⟩:=I.tuple hq
    have hlen:=r'.length
    obtain ⟨o,ho,hc,n,hd⟩:=pl
    exact call_list_seq p (.inr rfl) ho hc hd (fun h' c' kp e=>fin its r' hz h' c' kp e) (by simp only [List.size_toArray] <;> omega)
inductive J_call_tuple_of (kK:PySem.W.Frag) (xs:List V) (H:Hp) (Q:VK):Prop
  | mk:∀ p ys,(xs = [.ref p])→(((SqL kK H p ys∧∀ l,H l=none→Q (.ref l) (upd H l (.tup ys)))∨(SqT kK H p ys∧Q (.ref p) H)))→J_call_tuple_of kK xs H Q
theorem call_tuple_of:CallR X (.type "tuple") (fun xs H Q=>J_call_tuple_of X.K xs H Q):=by
  intro pins s σ H xs us Q I r h
  obtain ⟨p,ys,rfl,h⟩:=h
  obtain ⟨u,rfl,rx⟩:=vals1 r
  cases rx
  rcases h with ⟨hq,q⟩ | ⟨hq,q⟩
  · obtain ⟨its,r',pl,hz⟩:=I.list hq
    have hlen:=r'.length
    refine call_tuple_list pl.isList (fun h' kp => ?_) (by simp only [List.size_toArray] <;> omega)
    have I1:Inv X pins σ H { s with heap:=h' }:=I.kept (t':=s.toks) kp
    have I2:Inv X pins σ (upd H h'.objs.size (.tup ys)) { s with heap:=h'.push { cls := .type "tuple",data := .seq its.toArray } } :=
      I1.laid (t':=s.toks) (fun b o e=>Heap.get?_push_of_some _ e) (Nat.le_refl _) (show ObjOk X.prog X.w _ _ _ (.tup ys) from ⟨hz,its,r',IsTupN.new _ _⟩)
    exact ⟨.ref h'.objs.size,_,I2,rfl,q _ (I1.hok.fresh (Nat.le_refl _))⟩
  · obtain ⟨its,r',pl,hz⟩:=I.tuple hq
    exact call_tuple_same pl ⟨.ref p,H,I,rfl,q⟩

noncomputable def tyV (K:PySem.W.Frag) (T:String) (x:V) (H:Hp):Prop:=match x with
  | .str _=>T = "str"
  | .int _=>T = "int"
  | .ref p=>(T = "list" ∧ ∃ xs,SqL K H p xs)∨(T = "tuple" ∧ ((∃ o,K.lookup p=some o∧o.cls = .type "tuple" ∧ o.dict=none)∨∃ xs,H p=some (.tup xs))) ∨
      (T = "dict" ∧ ((∃ kvs,H p=some (.dK kvs))∨∃ kvs,H p=some (.dT kvs)))∨(T = "set" ∧ ∃ S n,H p=some (.set S n))
  | _=>False
theorem tyV_is {pins:List (Addr × Obj)} {σ : St} {H:Hp} {s:Shared} {T:String} {x:V} {v:Value} (I:Inv X pins σ H s) (r:RelV x v) (ty:tyV X.K T x H) :
    s.TypeIs v T∧∀ a,v = .ref a→∃ ob,s.heap.get? a=some ob∧ob.dict=none:=by
  cases x with
  | str z =>
    obtain ⟨t,rfl⟩:=r
    cases (show T = "str" from ty)
    exact ⟨typeIs_str s z t,fun _ e=>nomatch e⟩
  | int i =>
    obtain ⟨t,rfl⟩:=r
    cases (show T = "int" from ty)
    exact ⟨typeIs_int s i t,fun _ e=>nomatch e⟩
  | ref p =>
    cases r
    rcases ty with ⟨rfl,xs,hq⟩ | ⟨rfl,⟨o,hk,hc,hd⟩ | ⟨xs,hk⟩⟩ | ⟨rfl,hk⟩ | ⟨rfl,S,n,hk⟩
    · obtain ⟨its,_,pl,_⟩:=I.list hq
      refine ⟨pl.isList.typeIs,fun a e => ?_⟩
      cases e
      obtain ⟨o,n,e,c,hd,_⟩:=pl
      exact ⟨o,e,hd⟩
    · refine ⟨⟨o,I.kIn p o hk,hc⟩,fun a e => ?_⟩
      cases e
      exact ⟨o,I.kIn _ o hk,hd⟩
    · obtain ⟨_,_,_,o,e,c,n,d,hd⟩:=I.hok p _ hk
      refine ⟨⟨o,e,c⟩,fun a e2 => ?_⟩
      cases e2
      exact ⟨o,e,hd⟩
    · have z:∃ o,s.heap.get? p=some o∧o.ExactDict:=by
        rcases hk with ⟨kvs,hk⟩ | ⟨kvs,hk⟩
        · obtain ⟨_,_,_,_,o,_,_,e,ex,_⟩:=I.hok p _ hk
          exact ⟨o,e,ex⟩
        · obtain ⟨_,_,_,_,o,_,_,e,ex,_⟩:=I.hok p _ hk
          exact ⟨o,e,ex⟩
      obtain ⟨o,e,ex⟩:=z
      refine ⟨⟨o,e,ex.1⟩,fun a e2 => ?_⟩
      cases e2
      exact ⟨o,e,ex.2.1⟩
    · obtain ⟨o,_,_,_,e,ex,_⟩:=I.hok p _ hk
      refine ⟨⟨o,e,ex.1⟩,fun a e2 => ?_⟩
      cases e2
      exact ⟨o,e,ex.2.1⟩
  | _=>exact False.elim ty
noncomputable def tBM (K:PySem.W.Frag) (T:String) (r:V→List V→Hp→VK→Prop) (to:TE) (t:TA):TE:=fun σ H Q=>to σ H fun x H1=>tyV K T x H1∧t σ H1 fun xs H2=>r x xs H2 Q
variable {o e:Expr} {es:List Expr} {to:TE} {t:TA} {name:Str} {apos cpos:Pos} {T id:String} {r:V→List V→Hp→VK→Prop}
theorem pe_bm (pa:PlainAttrs T) (slot:Slot T name id) (hty:typeOf (.builtin id)=pure (.type "method_descriptor")) (hm:MtR X id r) (ho:PE X o to) (ha:PA X (e :: es) t)
    (hbase:attributeBase o name X.env (eval o X.env)=eval o X.env:=by rfl)
    (hfew:((backTo cpos (starEach (e :: es) X.env)).all (fun x => !x.1) && (backToKw cpos (keywordEach [] X.env)).all (fun x=>x.1.isSome)
      && decide ((e :: es).length+([]:List Keyword).length+(if ([]:List Keyword).isEmpty then 0 else 1) < 30))=true:=by rfl)
    (hline:(apos.endLine == cpos.line)=true:=by rfl) (hs:starEach (e :: es) X.env=(false,eval e X.env) :: starEach es X.env:=by rfl) (hplain:(backTo cpos (starEach es X.env)).any (·.1)=false:=by rfl) :
    PE X (.Call (.Attribute o name apos) (e :: es) [] cpos) (tBM X.K T r to t):=by
  intro pins s σ H Q I h
  refine wpAny_Call_method_late hbase hfew hline rfl (thn (ho pins s σ H _ I h) fun v s1 ⟨x,H1,I1,r1,ty,q1⟩ => ?_)
  obtain ⟨h1,h2⟩:=tyV_is I1 r1 ty
  refine ⟨T,id,pa,slot,hty,h1,h2,?_⟩
  have hA:=ha cpos pins s1 σ H1 _ I1 q1
  rw [hs] at hA ⊢
  refine Calls.callWith_builtin (by show (false || (backTo cpos (starEach es X.env)).any (·.1))=false;rw [hplain] <;> rfl) (Calls.evalArgs_plain ?_)
  exact thn hA fun us s2 ⟨vs,H2,I2,r2,q2⟩=>hm pins s2 σ H2 x vs v us Q I2 r1 r2 q2
/- xs.append(e),list.index on a module's tuple .. are MtR facts of 06m -/
end
end L2

namespace L2
open PySem PySem.Spec PyProof.Rows

noncomputable def MtM (X:Cx) (id:String) (r:V→List V→Hp→VK→Prop):Prop :=
  ∀ (pins:List (Addr × Obj)) (s:Shared) (σ : St) (H:Hp) (x:V) (xs:List V) (v:Value) (us:List Value) (Q:VK),Inv X pins σ H s→RelV x v→Vals xs us→r x xs H Q →
    wpAny (model X.prog X.w) X.A (call (.builtin id) (v :: us)) (EP X pins σ Q) X.xe s

theorem Vals.one:∀ {x:V} {us:List Value},Vals [x] us→∃ u,us = [u]∧RelV x u
  | _,_,.cons r .nil=>⟨_,rfl,r⟩
theorem Vals.eraseIdx:∀ {xs:List V} {us:List Value} (i:Nat),Vals xs us→Vals (xs.eraseIdx i) (us.eraseIdx i)
  | _,_,_,.nil => .nil
  | _,_,0,.cons _ t=>t
  | _,_,i+1,.cons r t => .cons r (Vals.eraseIdx i t)
theorem Vals.rep {xs:List V} {us:List Value} (h:Vals xs us):∀ k:Nat,Vals (List.replicate k xs).flatten (List.replicate k us).flatten
  | 0 => .nil
  | k+1=>by
    rw [List.replicate_succ,List.replicate_succ,List.flatten_cons,List.flatten_cons]
    exact Vals.append h (Vals.rep h k)
theorem len_erase {α : Type}:∀ (l:List α) (i:Nat),(l.eraseIdx i).length≤l.length
  | [],_=>Nat.le_refl _
  | _ :: _,0=>Nat.le_succ _
  | _ :: r,i+1=>Nat.succ_le_succ (len_erase r i)
theorem foldl_rep (its:List Value):∀ (k:Nat) (acc:List Value),
    List.foldl (fun x1 x2=>x1 ++ x2) acc.toArray (List.replicate k its.toArray)=(acc ++ (List.replicate k its).flatten).toArray
  | 0,acc=>by simp
  | k+1,acc=>by
    have e:acc.toArray ++ its.toArray=(acc ++ its).toArray:=by simp
    have e2:(acc ++ its) ++ (List.replicate k its).flatten=acc ++ (List.replicate (k+1) its).flatten:=by
      rw [List.replicate_succ,List.flatten_cons,List.append_assoc]
    rw [← e2, ← foldl_rep its k (acc ++ its), ← e,List.replicate_succ,List.foldl_cons]

section
variable {X:Cx} {pins:List (Addr × Obj)} {σ : St} {H:Hp} {s:Shared} {l b:Addr} {xs ys zs:List V}

theorem Inv.lset {its its':List Value} {n:Nat} {f:Array Value→Array Value} {t':Nat} (I:Inv X pins σ H s) (hH:H l=some (.lst xs))
    (e:s.heap.get? l=some { cls := .type "list",data := .seq its.toArray n }) (hf:f its.toArray=its'.toArray) (hv:Vals ys its') (hz:ys.length≤sizeLine) :
    Inv X pins σ (upd H l (.lst ys)) { s with heap:=s.heap.update l (Obj.mapSeq f),toks:=t' }:=by
  have q:=PySem.IsL.update e f
  rw [hf] at q
  refine I.write (x:=l) (e:=l) (by rw [hH];exact trivial) (.inl rfl) (fun b' u hb hu=>(Heap.get?_update_other s.heap (Obj.mapSeq f) (Ne.symm hb)).trans hu) ⟨_,q⟩ ?_
  exact ⟨hz,its',_,hv,q⟩
theorem Inv.lnew {its:List Value} {t':Nat} (I:Inv X pins σ H s) (hv:Vals ys its) (hz:ys.length≤sizeLine) :
    Inv X pins σ (upd H s.heap.objs.size (.lst ys)) { s with heap:=s.heap.push { cls := .type "list",data := .seq its.toArray },toks:=t' } :=
  I.laid (fun _ _ q=>Heap.get?_push_of_some _ q) (Nat.le_refl _) ⟨hz,its,0,hv,Heap.get?_push_size _ rfl⟩
theorem Inv.fresh (I:Inv X pins σ H s):H s.heap.objs.size=none:=I.hok.fresh (Nat.le_refl _)
theorem Inv.lstM (I:Inv X pins σ H s) (hH:H l=some (.lst xs)):xs.length≤sizeLine∧∃ (its:List Value) (n:Nat),Vals xs its∧xs.length=its.length∧s.heap.get? l=some { cls := .type "list",data := .seq its.toArray n }:=by
  obtain ⟨z,its,n,r,e⟩:=I.hok l _ hH
  exact ⟨z,its,n,r,r.length,e⟩

theorem notLongL {n:Nat} (h:n≤sizeLine):Builtin.List.listTooLong n=false:=by
  unfold Builtin.List.listTooLong
  exact decide_eq_false (by omega)
end

section
variable {X:Cx}

inductive J_rAppend (x:V) (vs:List V) (H:Hp) (Q:VK):Prop
  | mk:∀ l xs y,(x = .ref l)→(vs = [y])→(H l=some (.lst xs))→(xs.length < sizeLine)→(Q .non (upd H l (.lst (xs ++ [y]))))→J_rAppend x vs H Q
noncomputable def rAppend:V→List V→Hp→VK→Prop:=fun x vs H Q=>J_rAppend x vs H Q
theorem mt_append:MtM X "list.append" rAppend:=by
  intro pins s σ H x vs v us Q I rx rv h
  obtain ⟨l,xs,y,rfl,rfl,hH,hz,q⟩:=h
  cases rx
  obtain ⟨u,rfl,ru⟩:=rv.one
  obtain ⟨z,its,n,r,hl,e⟩:=I.lstM hH
  refine call_meets F.slot_list_append ⟨_,e,rfl⟩ F.entry_list_append (F.args_list_append_2 _ _) (PySem.list_append l its.toArray n u (by rw [List.size_toArray];omega)) ⟨e,?_⟩
  refine ⟨.non,_,I.lset (its':=its ++ [u]) hH e (by simp) (r.append (.cons ru .nil)) ?_,rfl,q⟩
  rw [List.length_append,List.length_singleton]
  omega






inductive J_rRep (x:V) (y:V) (H:Hp) (Q:VK):Prop
  | mk:∀ l k xs,(x = .ref l)→(y = .int k)→(H l=some (.lst xs))→(-(2 ^ 63)≤k)→(k < 2 ^ 63)→(xs.length * k.toNat≤sizeLine)→(∀ p,H p=none→Q (.ref p) (upd H p (.lst (List.replicate k.toNat xs).flatten)))→J_rRep x y H Q
noncomputable def rRep:R2:=fun x y H Q=>J_rRep x y H Q
theorem len_rep {α : Type} (xs:List α) (k:Nat):(List.replicate k xs).flatten.length=k * xs.length:=by
  induction k with
  | zero=>simp
  | succ k ih=>rw [List.replicate_succ,List.flatten_cons,List.length_append,ih,Nat.succ_mul,Nat.add_comm]
theorem op_rep:OpR X (binaryOp .Mult) rRep:=by
  intro pins s σ H x y v u Q I rx ry h
  obtain ⟨l,k,xs,rfl,rfl,hH,h1,h2,hz,q⟩:=h
  cases rx
  obtain ⟨t,rfl⟩:=ry
  obtain ⟨z,its,n,r,hl,e⟩:=I.lstM hH
  have hlen:its.toArray.size * k.toNat≤sizeLine:=by rw [List.size_toArray, ← hl];exact hz
  have hcap:¬ its.toArray.size * k.toNat > (2 ^ 63 - 1) / 8:=by
    have:(sizeLine:Nat)≤(2 ^ 63 - 1) / 8:=by decide
    omega
  have hfit:¬ (!Builtin.List.listFitsIndex k)=true:=by
    rw [fitsIndex_both h1 h2]
    exact Bool.false_ne_true
  have hlong:¬ Builtin.List.listTooLong (its.toArray.size * k.toNat)=true:=by
    rw [notLongL hlen]
    exact Bool.false_ne_true
  have hnew:List.foldl (fun x1 x2=>x1 ++ x2) #[] (List.replicate (if its.toArray.isEmpty=true then 0 else k.toNat) its.toArray)=(List.replicate k.toNat its).flatten.toArray:=by
    have f0:∀ m:Nat,List.foldl (fun x1 x2=>x1 ++ x2) #[] (List.replicate m its.toArray)=(List.replicate m its).flatten.toArray:=fun m=>by
      have:=foldl_rep its m []
      rw [List.nil_append] at this
      exact this
    rw [f0]
    cases its with
    | nil=>simp
    | cons a r'=>rw [if_neg (by simp)]
  refine wpAny_binaryOp_repeat_ref (T := "list") (U := "int") (by decide) ⟨_,e,rfl⟩ (fun s'=>typeIs_int s' k t) noFill_list_mul F.fills_int_mul F.slot_int_rmul repeat_list F.slot_int_index.lookup
    (call_meets F.slot_int_rmul (typeIs_int s k t) F.entry_int_rmul (F.args_int_rmul_2 _ _) (int___rmul___int_list k t l its.toArray n)
      ⟨e,rfl,⟨_,e,rfl⟩,call_meets F.slot_list_mul ⟨_,e,rfl⟩ F.entry_list_mul (F.args_list_mul_2 _ _) (AutoListH.list___mul___list_int_3 l its.toArray n k t hfit hcap hlong) ⟨e,?_⟩⟩)
  rw [hnew]
  exact ⟨.ref _,_,I.lnew (t':=s.toks) (r.rep k.toNat) (by rw [len_rep,Nat.mul_comm];exact hz),rfl,q _ I.fresh⟩

end

section
variable {prog:Program} {w:World} {A:Around} {E:Value→Shared→Prop} {s:Shared}
end

section
variable {X:Cx}
end
end L2

namespace Att
open PySem PySem.W PySem.Calls PyProof.Rows

theorem ints_of_wellAll {P:Params} {h:Heap}:∀ (ns:List Int) (vs:List Value),WellAll P h vs (ns.map WData.int)→IntsAre vs ns:=by
  intro ns
  induction ns with
  | nil =>
    intro vs w
    rw [List.map_nil] at w
    cases w
    exact .nil
  | cons n ns ih =>
    intro vs w
    rw [List.map_cons] at w
    cases w with
    | cons a b =>
      cases a
      exact .cons _ _ (ih _ b)

theorem script_of {l:OpenLaw} {n:Nat} (hn:l.most=some n) {P:Params} {h:Heap} {args:List WData} {vals:List Value}
    (hpre:l.row.toRowW.claim.pre args=true) (hwl:WellAll P h vals args) :
    ∃ a vs ns,vals = [Value.ref a]∧args = [WData.list (ns.map WData.int)]∧h.get? a=some { cls := .type "list",data := .seq vs.toArray }∧IntsAre vs ns∧ns.length≤n:=by
  have hsh:WShape.hasAll [] args [.list .int]=true:=(pre_splitW hpre).1
  have hc:l.pre.holds [] { args:=args }=true:=(pre_splitW hpre).2
  obtain ⟨d,r,rfl,h1,h2⟩:=hasAllW_cons hsh
  obtain rfl:=hasAllW_nil h2
  obtain ⟨xs,rfl,h3⟩:=hasW_list h1
  obtain ⟨ns,rfl⟩:=items_int h3
  have hlen:ns.length≤n:=by
    unfold OpenLaw.pre at hc
    have h4:(WTm.not (.lt (.lit (.int (n:Int))) (.len (.arg 0)))).holds [] { args := [.list (ns.map .int)] }=true:=by
      have h4:=(holds_andW hc).1
      rw [hn] at h4
      exact h4
    have h5:=condW_of h4 (w_not (w_lt w_lit (w_len_list (w_arg rfl))))
    rw [List.length_map] at h5
    refine Nat.le_of_not_lt fun q => ?_
    have q':(n:Int) < ((ns.length:Nat):Int):=by omega
    first
      | (rw [decide_eq_true q'] at h5;exact absurd h5 (by decide))
      | (simp at h5;omega)
  cases hwl with
  | cons w1 w2 =>
    cases w2
    cases w1 with
    | list ho hall=>exact ⟨_,_,ns,rfl,rfl,ho,ints_of_wellAll ns _ hall,hlen⟩

theorem post_true (l:OpenLaw) (args:List WData):l.row.toRowW.claim.post args (.bool true) args=true :=
  postW_of (r:=l.row.toRowW) (X:=(true == true))
    (show WShape.has [] (.bool true) .bool=true by first | rfl | decide | simp [WShape.has,WShape.arms,WShape.armsAll])
    (show (WTm.eq .res (.lit (.bool true))).value [] { args:=args,res:=some (.bool true),after:=args }=some (.bool (true == true)) from w_eq_bool (w_res rfl) w_lit) rfl




section
variable {prog:Program} {w:World} {A:Around} {E:Value→Shared→Prop} {s:Shared} {K:Frag}






end
end Att

namespace L2
open PySem PySem.Spec PyProof.Rows

theorem vals_ints:∀ {vs:List Value} {ns:List Int},IntsAre vs ns→Vals (ns.map V.int) vs
  | _,_,.nil => .nil
  | _,_,.cons n t h => .cons ⟨t,rfl⟩ (vals_ints h)

noncomputable def Only (H:Hp):Prop := ∀ b,H b=none∨∃ o xs,H b=some (.frz o (.lst xs))

theorem law_call {P:Program} {w:World} {K:PySem.W.Frag} {mg mb:Str→Option Value} {CX:CXT} {k:Nat} {fa a:Addr} {fd:FuncData} {x:Str} {sp:Sp} {s₁ : Shared} {vs:List Value} {ns:List Int}
    (KX:K.In s₁.heap) (hns:s₁.heap.Ns mainGlobals mg) (hb:s₁.heap.Ns builtinsNs mb) (hbb:∀ x:Str,x ≠ "__name__" → mb x=bootBuiltins x) (hlim:s₁.heap.NoLimit) (hg:s₁.gens = #[])
    (ha:s₁.heap.get? a=some { cls := .type "list",data := .seq vs.toArray }) (hi:IntsAre vs ns) (hl:ns.length≤sizeLine) (hr:Room k callerA)
    (F:∀ base:Heap,K.In base→base.Ns mainGlobals mg→FnOk P w K mg base CX k fa fd [x] sp) (hbind:∀ (s:Shared) (u:Value),BindsTo s fd ⟨[u], []⟩ [(x,u)])
    (hsp:∀ H:Hp,Only H→SqL K H a (ns.map V.int)→sp [.ref a] H (fun v _=>v = .bl true) fun _ _ _=>False)
    (hCX:∀ H e s',CX [] H s₁ (fun _ _ _=>False) e s'→False) :
    codeAny (model P w) callerA (.call (.ref fa) ⟨[.ref a], []⟩) (fun r s'=>r = .ok (.ret (.bool true))∧OldK s₁.heap s'.heap∧s'.os=s₁.os∧AllBare s'.gens) s₁ := by
  have rv:=vals_ints hi
  have lenV:=hi.length
  -- from an abstract heap in which nothing but the script may be tracked
  have core:∀ H:Hp,Only H→SqL K H a (ns.map V.int)→HOk P w H s₁.heap→(∀ b,H b≠none→b=a)→(H a≠none→K.lookup a=none) →
      codeAny (model P w) callerA (.call (.ref fa) ⟨[.ref a], []⟩) (fun r s'=>r = .ok (.ret (.bool true))∧OldK s₁.heap s'.heap∧s'.os=s₁.os∧AllBare s'.gens) s₁ := by
    intro H hO hS hok hA hK
    have base_of:∀ {b:Addr} {o:Obj},s₁.heap.get? b=some o→H b=none→(hidT s₁.heap H).get? b=some o:=fun e n=>hidT_get e n
    have noA:∀ {b:Addr} {o:Obj} {es:Array DictEntry} {ep:Nat},s₁.heap.get? b=some o→o.data = .dict es ep→H b=none:=fun {b o es ep} e d=>by
      cases q:H b with
      | none=>rfl
      | some u =>
        have e':b=a:=hA b (by rw [q];simp)
        subst e'
        rw [ha] at e;cases e
        have d':Data.seq vs.toArray _=Data.dict es ep:=d
        cases d'
    have nsK:∀ {b:Addr} {m:Str→Option Value},s₁.heap.Ns b m→(hidT s₁.heap H).Ns b m:=fun {b m} ⟨o,es,ep,e,d,r⟩=>⟨o,es,ep,base_of e (noA e d),d,r⟩
    have hKb:K.In (hidT s₁.heap H):=fun b o e=>base_of (KX b o e) (by
      cases q:H b with
      | none=>rfl
      | some u =>
        have e':b=a:=hA b (by rw [q];simp)
        subst e'
        rw [hK (by rw [q];simp)] at e;cases e)
    have hM:Mod K mg (hidT s₁.heap H):=⟨hKb,nsK hns,⟨mb,nsK hb,hbb⟩,let ⟨mc,h1,h2⟩:=hlim; ⟨mc,nsK h1,h2⟩⟩
    have e0:Env0 P w K mg (hidT s₁.heap H) callerA [] s₁ H:=⟨rfl,hM,fun b o e=>of_hidT e,Nat.le_of_eq (hidT_size _ _),trivial,fun b hb=>absurd (show b∈([]:List Addr) from hb) (by simp),hok,.of_eq hg⟩
    refine codeAny_mono ((F _ hKb (nsK hns)).run callerA [] s₁ H ⟨[.ref a], []⟩ [.ref a] [.ref a] _ _ hr e0 (hbind s₁ (.ref a)) (.cons rfl .nil) (hsp H hO hS)) fun r s' h => ?_
    cases r with
    | error e=>exact (hCX H e s' h).elim
    | ok fl =>
      cases fl with
      | next=>exact False.elim h
      | brk=>exact False.elim h
      | cont=>exact False.elim h
      | ret u =>
        obtain ⟨v,H',os,bare,un,hok',r',q⟩:=h
        have q':v = .bl true:=q
        subst q'
        obtain rfl:u=Value.bool true:=r'
        refine ⟨rfl,OldK.of_keep fun b o e => ?_,os,bare⟩
        cases q:H b with
        | none=>exact un.keep b o e q (by intro z;exact absurd (show b∈([]:List Addr) from z) (by simp)) (by simp)
        | some u =>
          rcases hO b with z | ⟨ob,xs,z⟩
          · rw [q] at z;cases z
          · have z2:=un.frzs b ob _ z
            obtain ⟨e1,_⟩:=hok b _ z
            obtain ⟨e2,_⟩:=hok' b _ z2
            rw [e] at e1;cases e1
            exact e2
  cases hk:K.lookup a with
  | some o =>
    -- the script is one of the module's own objects
    have e:=KX a o hk
    rw [ha] at e
    cases e
    refine core (fun _=>none) (fun _ => .inl rfl) (.inr ⟨_,vs.toArray,_,hk,rfl,rfl,rfl,by rw [List.size_toArray,lenV];exact hl,by simpa using rv⟩) (fun b u z=>by have z':(none:Option HO)=some u:=z;cases z') (fun b z=>absurd rfl z) fun z=>absurd rfl z
  | none =>
    refine core (fun b=>if b=a then some (.frz { cls := .type "list",data := .seq vs.toArray } (.lst (ns.map V.int))) else none) (fun b => ?_) (.inl (.inr ⟨{ cls := .type "list",data := .seq vs.toArray },if_pos rfl⟩)) (fun b u z => ?_) (fun b z => ?_) fun _=>hk
    · by_cases hb:b=a
      · exact .inr ⟨_,_,if_pos hb⟩
      · exact .inl (if_neg hb)
    · by_cases hb:b=a
      · have z':=(if_pos hb).symm.trans z
        cases z'
        subst hb
        exact ⟨ha,by rw [List.length_map];exact hl,vs,_,rv,ha⟩
      · have z':=(if_neg hb).symm.trans z
        cases z'
    · by_cases hb:b=a
      · exact hb
      · exact absurd (if_neg hb) z
end L2

namespace L2
open PySem PySem.Spec PyProof.Rows


end L2



namespace L2
open PySem PySem.Spec PyProof.Rows

noncomputable def inClass (s:Stmt) (j:Nat):Stmt:=match s with
  | .ClassDef _ _ _ body _ _ _ _ _ _ _=>body.getD j (.Pass ⟨0,0,0,0⟩)
  | _ => .Pass ⟨0,0,0,0⟩
noncomputable def defArgs (s:Stmt):Arguments:=match s with
  | .FunctionDef _ a _ _ _ _ _ _ _ _=>a
  | _=>{ posonlyargs := [],args := [],vararg:=none,kwonlyargs := [],kw_defaults := [],kwarg:=none,defaults := [] }
noncomputable def defBody (s:Stmt):List Stmt:=match s with
  | .FunctionDef _ _ b _ _ _ _ _ _ _=>b
  | _ => []
noncomputable def defScope (s:Stmt):Scope:=match s with
  | .FunctionDef _ _ _ _ _ _ sc _ _ _=>sc
  | _=>{ kind := .function,names := [],isGenerator:=false,isCoroutine:=false }

noncomputable abbrev CX0:CXT:=fun _ _ _ _ _ _=>False
noncomputable abbrev E0:XK:=fun _ _ _=>False
theorem pass0 {X:Cx}:Passes CX0 X E0:=fun _ _ _ _ _ _ _ h=>h.elim

structure Fun (K:PySem.W.Frag) (x qual:Str) (st:Stmt) (f:Addr) (fd:FuncData):Prop where
  ex:∃ (oc:Value) (od:Option Addr) (kV doc pm:Value) (an:Option Addr) (cdv ct:Value) (osl:Array (Option Value)),
    fd=PySem.W.fnOf x qual (defArgs st) (defBody st) (defScope st) .none kV doc pm an cdv ct∧K.lookup f=some ⟨oc,od,.func fd,osl⟩∧PySem.W.codeIn K cdv qual=true
  kp:PySem.W.keepIn K (.ref f)=true
section
variable {P:Program} {w:World} {K:PySem.W.Frag} {mg:Str→Option Value} {base:Heap}
theorem Fun.ok {x qual:Str} {st:Stmt} {f:Addr} {fd:FuncData} {N ps:List Str} {k:Nat} {sp:Sp} (F:Fun K x qual st f fd) (S:FnScope N ps (defScope st)) (len:∀ vs H Q E,sp vs H Q E→vs.length=ps.length)
    (hbody:∀ (cdv:Value) (A:Around) (outer:List Env) (s:Shared) (H:Hp) (vs:List V) (Q:VK) (E:XK),Room k (A.deeper (envOfC qual (defScope st) s.heap.objs.size f cdv))→sp vs H Q E →
      ∃ t,PSs (cxOf CX0 P w K mg base N qual (defScope st) f cdv A outer s H E).nox (defBody st) t∧t { nx:=fun _ H'=>Q .non H',rt:=Q } (start N vs) H):FnOk P w K mg base CX0 (k+1) f fd ps sp:=by
  obtain ⟨oc,od,kV,doc,pm,an,cdv,ct,osl,rfl,lk,hcd⟩:=F.ex
  refine fn_of lk hcd S len fun A outer s H vs Q E hr hsp => ?_
  obtain ⟨t,h,q⟩:=hbody cdv A outer s H vs Q E hr hsp
  exact ⟨t,h.nox,q⟩
theorem Fun.binds {x qual:Str} {st:Stmt} {f:Addr} {fd:FuncData} {ps:List Str} (F:Fun K x qual st f fd)
    (h:∀ (kV doc pm:Value) (an:Option Addr) (cdv ct:Value) (us:List Value),us.length=ps.length→bindArgs (PySem.W.fnOf x qual (defArgs st) (defBody st) (defScope st) .none kV doc pm an cdv ct) ⟨us, []⟩=pure (ps.zip us)):Binds K fd ps []:=by
  obtain ⟨oc,od,kV,doc,pm,an,cdv,ct,osl,rfl,lk,hcd⟩:=F.ex
  exact .all (h kV doc pm an cdv ct)
theorem fun_mk {x qual:Str} {st:Stmt} {f:Addr} {oc:Value} {od an:Option Addr} {osl:Array (Option Value)} {kV doc pm cdv ct:Value} (l:K.lookup f=some ⟨oc,od,.func (PySem.W.fnOf x qual (defArgs st) (defBody st) (defScope st) .none kV doc pm an cdv ct),osl⟩)
    (c:PySem.W.codeIn K cdv qual=true) (k:PySem.W.keepIn K (.ref f)=true):Fun K x qual st f (PySem.W.fnOf x qual (defArgs st) (defBody st) (defScope st) .none kV doc pm an cdv ct):=⟨⟨oc,od,kV,doc,pm,an,cdv,ct,osl,rfl,l,c⟩,k⟩
end
theorem hu_of {A:Around} {k:Nat} (hr:Room k A):A.units+1 < cLine:=Nat.lt_of_le_of_lt (Nat.add_le_add_left (by decide:1≤64) _) hr.units
theorem small1000 {n:Nat} (h:n≤1000):n < sizeLine:=Nat.lt_of_le_of_lt h (by decide)

section
variable {X:Cx}
theorem pv (i:Nat) {x:Str} {pos:Pos} (hN:X.N[i]? = some x:=by rfl) (hv:Vis X.env.scope x:=by first | exact Or.inl rfl | exact Or.inr (Or.inl rfl) | exact Or.inr (Or.inr rfl)) (hd:(x == ("__debug__" : Str))=false:=by decide)
    (hcd:(x == ("__classdict__" : Str))=false:=by decide):PE X (.Name x pos) (tVar i):=pe_var hN hv hd hcd
end

theorem iteF {A B:Prop} (h:B):if false=true then A else B:=by
  rw [if_neg Bool.false_ne_true]
  exact h
theorem iteT {A B:Prop} (h:A):if true=true then A else B:=by
  rw [if_pos rfl]
  exact h

noncomputable def Same (H H':Hp):Prop := ∀ b o,H b=some o→H' b=some o
theorem Same.refl (H:Hp):Same H H:=fun _ _ h=>h
theorem Same.trans {H H1 H2:Hp} (a:Same H H1) (b:Same H1 H2):Same H H2:=fun c o h=>b c o (a c o h)
theorem Same.free {H H':Hp} (e:Same H H') {l:Addr} (h:H' l=Option.none):H l=Option.none:=by
  cases q:H l with
  | none=>rfl
  | some o =>
    rw [e l o q] at h
    cases h
theorem Same.seq {K:PySem.W.Frag} {H H':Hp} {a:Addr} {xs:List V} (e:Same H H') (h:SqL K H a xs):SqL K H' a xs:=by
  rcases h with (h | ⟨o,h⟩) | h
  · exact .inl (.inl (e _ _ h))
  · exact .inl (.inr ⟨o,e _ _ h⟩)
  · exact .inr h

end L2
namespace L2
open PySem PySem.Spec PyProof.Rows

section
variable {X:Cx} {pins:List (Addr × Obj)} {σ : St} {H:Hp} {s:Shared} {h':Heap}
theorem Inv.turnedLaid {ch:List Addr} {a:Addr} {o:HO} {t':Nat} (I:Inv X pins σ H s) (k:∀ b u,b ∉ ch→s.heap.get? b=some u→h'.get? b=some u)
    (hch:∀ b∈ch,FpOk X pins H b) (hp:s.heap.objs.size≤a) (new:ObjOk X.prog X.w (upd H a o) h' a o):Inv X pins σ (upd H a o) { s with heap:=h',toks:=t' }:=by
  have hfr:H a=none:=I.hok.fresh hp
  have old:∀ b ob,s.heap.get? b=some ob→b≠a:=fun b ob e z=>by subst z;exact absurd (Nat.lt_of_lt_of_le (Heap.lt_size e) hp) (Nat.lt_irrefl _)
  have tr:∀ b u,H b=some u→b≠a:=fun b u e z=>by rw [z,hfr] at e;cases e
  have trc:∀ b u,H b=some u→b ∉ ch:=fun b u e z=>by rw [(hch b z).1] at e;cases e
  refine I.step (g':=s.gens) (d':=s.drawn) (ch:=ch) (fun b hb => ?_) (fun b ob _ _ hc e _=>k b ob hc e) (fun b ob _ _ hc e _=>⟨ob.slots,k b ob hc e⟩) (fun b ob _ e n => ?_)
    (fun b ob hc e=>⟨ob,k b ob hc e⟩) (fun b xs e => ?_) (fun b ob u e => ?_) (fun b ps e=>⟨#[],?_⟩) (fun m hm => ?_) (fun b u e => ?_) I.bare
  · obtain ⟨_,f1,_,f3,f4,f5⟩:=hch b hb
    exact ⟨f3,f1,f4,f5⟩
  · rw [upd_ne (old b ob e)];exact n
  · rw [upd_ne (tr b _ e)];exact e
  · rw [upd_ne (tr b _ e)];exact e
  · rw [upd_ne (tr b _ e),e];simp
  · obtain ⟨ob,es,ep,ho,r⟩:=hm
    exact ⟨ob,es,ep,k _ ob (fun z=>(hch _ z).2.1 rfl) ho,r⟩
  · by_cases hb:b=a
    · subst hb
      rw [upd_same] at e;cases e
      exact new
    · rw [upd_ne hb] at e
      refine (I.hok b u e).stay (fun c v hc q=>k c v ?_ q) (fun c q=>by rw [upd_ne (tr c _ q)];exact q) fun c xs q=>by rw [upd_ne (tr c _ q)];exact q
      rcases hc with z | z
      · rw [z];exact trc b u e
      · exact trc c _ z
end

noncomputable def Ite (K:PySem.W.Frag) (a:Addr):It :=
  ⟨fun i H=>∃ xs x,SqL K H a xs∧xs[i]? = some x,
   fun i H x H'=>∃ p v,H p=none∧x = .ref p∧(∀ xs,SqL K H a xs→xs[i]? = some v)∧H'=upd H p (.tup [.int (i:Int),v]),
   fun i H=>∃ xs,SqL K H a xs∧xs.length=i⟩
theorem turn_enum {P:Program} {w:World} {K:PySem.W.Frag} {elts:List Expr} {k:Nat} {tp:Pos} (a e it:Addr) (hne:e≠it) :
    Turn P w K (.Tuple elts k tp) (Ite K a) [e,it] e (fun i h=>(∃ old,IsEnum h e it (i:Int) old)∧h.IsListIter it a i) where
  mem:=by simp
  obj:=fun i h st b hb=>by
    obtain ⟨⟨old,he⟩,hit⟩:=st
    rcases List.mem_cons.mp hb with rfl | hb
    · exact ⟨_,he,fun v z=>by
        have z':Data.fields _=Data.cell v:=z
        cases z'⟩
    · have e:b=it:=by simpa using hb
      subst e
      obtain ⟨o,e,c,d⟩:=hit
      exact ⟨o,e,fun v z=>by rw [d] at z;cases z⟩
  keep:=fun i h h' st k=>by
    obtain ⟨⟨old,he⟩,hit⟩:=st
    exact ⟨⟨old,k e (by simp) _ he⟩,hit.at fun o q=>k it (by simp) o q⟩
  item:=by
    intro X hP hw hK hc i pins s σ H E I hf st hg
    subst hP hw hK
    obtain ⟨⟨old,he⟩,hit⟩:=st
    obtain ⟨xs,x,hq,hx⟩:=hg
    obtain ⟨its,rv,p,hz⟩:=I.list hq
    obtain ⟨u,hu,ru⟩:=rv.get hx
    have hai:a≠it:=fun z=>by
      obtain ⟨o,n,e1,c1,_⟩:=p
      obtain ⟨o',e2,c2,_⟩:=hit
      rw [z,e2] at e1;cases e1
      rw [c1] at c2
      exact absurd (Value.type.inj c2) (by decide)
    have hae:a≠e:=fun z=>by
      obtain ⟨o,n,e1,c1,_⟩:=p
      rw [z,he] at e1;cases e1
      exact absurd (Value.type.inj c1) (by decide)
    have hlt:i < its.toArray.size:=by
      rw [List.size_toArray]
      exact (List.getElem?_eq_some_iff.mp hu).1
    have hel:e < s.heap.objs.size:=Heap.lt_size he
    have hil:it < s.heap.objs.size:=by obtain ⟨o,q,_⟩:=hit;exact Heap.lt_size q
    refine wpAny_pyNext_enum_itemD (Draws.list (A:=X.A.in1) (I.ok.hd hc) it a hai its.toArray) he ⟨hit,p.isList⟩ hlt hne (by
      intro z
      rcases List.mem_cons.mp z with z | z
      · exact hne z
      · exact hae (List.mem_singleton.mp z).symm) fun y h1 tk hy ho hs1 hT hsz hk => ?_
    have hyu:y=u:=by
      have e1:its[i]? = some y:=by simpa using hy
      rw [hu] at e1
      exact (Option.some.inj e1).symm
    subst hyu
    refine ⟨_,rfl,wpAny_letOwnedTupleGo_enum ho fun h2 he2 hs2 => ?_⟩
    have kk:∀ b o,b ∉ [e,it]→s.heap.get? b=some o→h2.get? b=some o:=fun b o hb q=>by
      have b1:b≠e:=fun z=>hb (by simp [z])
      have b2:b≠it:=fun z=>hb (by simp [z])
      exact (hs2.2 b b1).trans (hk b o b1 b2 q)
    have hTe:s.heap.objs.size≠e:=Nat.ne_of_gt hel
    refine ⟨.ref s.heap.objs.size,upd H s.heap.objs.size (.tup [.int (i:Int),x]),?_,rfl,⟨_,x,I.hok.fresh (Nat.le_refl _),rfl,fun ys hy=>by rw [I.list_inj hy hq];exact hx,rfl⟩,
      ⟨⟨_,by simpa using he2⟩,hs1.1.at fun o q=>(hs2.2 it (Ne.symm hne)).trans q⟩,fun b hb => ?_⟩
    · refine I.turnedLaid (ch := [e,it]) (t':=tk+1) kk hf (Nat.le_refl _) ⟨by show 2≤sizeLine;decide, [.int (i:Int) tk,y],.cons ⟨_,rfl⟩ (.cons ru .nil),?_⟩
      exact ⟨_,(hs2.2 _ hTe).trans hT,rfl,_,rfl,rfl⟩
    · have hb':=hf b hb
      have:b≠s.heap.objs.size:=by
        rcases List.mem_cons.mp hb with rfl | hb
        · exact Nat.ne_of_lt hel
        · rw [List.mem_singleton.mp hb];exact Nat.ne_of_lt hil
      rw [upd_ne this]
      exact hb'.1
  done:=by
    intro X hP hw hK hc i pins s σ H E I hf st hg
    subst hP hw hK
    obtain ⟨⟨old,he⟩,hit⟩:=st
    obtain ⟨xs,hq,hx⟩:=hg
    obtain ⟨its,rv,p,hz⟩:=I.list hq
    have hai:a≠it:=fun z=>by
      obtain ⟨o,n,e1,c1,_⟩:=p
      obtain ⟨o',e2,c2,_⟩:=hit
      rw [z,e2] at e1;cases e1
      rw [c1] at c2
      exact absurd (Value.type.inj c2) (by decide)
    have hl:=rv.length
    have hi:i=its.toArray.size:=by rw [List.size_toArray];omega
    subst hi
    obtain ⟨f0,f1,f2,f3,f4,f5⟩:=hf it (by simp)
    exact wpAny_pyNext_enum_endD (Draws.list (A:=X.A.in1) (I.ok.hd hc) it a hai its.toArray) he ⟨hit,p.isList⟩ fun h1 eb=>⟨rfl,I.turned (t':=s.toks) (fun b o hb q=>eb b o hb q) f0 f1 f3 f4 f5⟩
  self:=fun _ _ _ _ _ st h=>by
    obtain ⟨⟨old,he⟩,_⟩:=st
    exact wpAny_pyIter_enum he h
inductive J_iEnum (K:PySem.W.Frag) (R:It→Hp→Prop) (vs:List V) (H1:Hp):Prop
  | mk:∀ a,(vs = [.ref a])→((∃ xs,SqL K H1 a xs))→(R (Ite K a) H1)→J_iEnum K R vs H1
noncomputable def iEnum (K:PySem.W.Frag) (ta:TA):TI:=fun σ H R=>ta σ H fun vs H1=>J_iEnum K R vs H1
theorem boot_enum:bootBuiltins "enumerate" = some (.type "enumerate"):=by decide +kernel
section
variable {X:Cx}
theorem pi_enum {l:Expr} {ta:TA} {elts:List Expr} {k:Nat} {tp p pos:Pos} (hg:Gl X "enumerate") (hm:X.mg "enumerate" = none) (ha:PA X [l] ta) (hs:starEach [l] X.env = [(false,eval l X.env)]:=by rfl) :
    PI X (.Tuple elts k tp) (.Call (.Name "enumerate" p) [l] [] pos) (iEnum X.K ta):=by
  intro pins s σ H R I h
  refine Call_ (ld_blt I hg hm boot_enum (PyProof.Rows.callWith_type1 (thn (ha pos pins s σ H _ I h) fun us s1 ⟨vs,H1,I1,r1,q1⟩ => ?_) hs rfl))
  obtain ⟨a,e,⟨xs,hq⟩,q⟩:=q1
  subst e
  obtain ⟨u,rfl,ru⟩:=vals1 r1
  cases ru
  obtain ⟨its,rv,pl,hz⟩:=I1.list hq
  refine call_enumerate_list pl.isList fun h1 he hit hsz hk => ?_
  have I2:Inv X pins σ H1 { s1 with heap:=h1 }:=I1.kept (t':=s1.toks) hk
  have hne:s1.heap.objs.size+1≠s1.heap.objs.size:=Nat.succ_ne_self _
  refine wpAny_pyIter_enum (s := { s1 with heap:=h1 }) he ⟨_, [s1.heap.objs.size+1,s1.heap.objs.size],_,_,H1,rfl,I2,turn_enum a _ _ hne,⟨⟨_,he⟩,hit⟩,fun b hb => ?_,q⟩
  rcases List.mem_cons.mp hb with rfl | hb
  · exact I1.fpOk (Nat.le_succ _) (I1.hok.fresh (Nat.le_succ _))
  · rw [List.mem_singleton.mp hb]
    exact I1.fpOk (Nat.le_refl _) (I1.hok.fresh (Nat.le_refl _))

end

theorem for_enum {K:PySem.W.Frag} {a:Addr} {xs:List V} {g:TG} {tb:TS} {D:Ends} {σ : St} {H:Hp} (Pv:Nat→St→Hp→Prop) (h0:Pv 0 σ H) (hl:∀ i σ H,i≤xs.length→Pv i σ H→SqL K H a xs)
    (hs:∀ i x p σ H,xs[i]? = some x→Pv i σ H→H p=none→g (.ref p) σ (upd H p (.tup [.int (i:Int),x])) fun σ2 H2=>tb { D with nx:=Pv (i+1),ct:=Pv (i+1),bk:=D.nx } σ2 H2) (hd:∀ σ H,Pv xs.length σ H→D.nx σ H) :
    ∃ W:Nat→Nat→St→Hp→Prop,(∃ m,W 0 m σ H)∧∀ i m σ H,W i m σ H →
      ((Ite K a).stop i H∧D.nx σ H)∨((Ite K a).go i H∧∃ N:St→Hp→Prop,(∀ σ' H',N σ' H'→∃ m',m' < m∧W (i+1) m' σ' H')∧∀ x H',(Ite K a).yld i H x H'→g x σ H' fun σ2 H2=>tb { D with nx:=N,ct:=N,bk:=D.nx } σ2 H2):=by
  refine ⟨fun i m σ H=>m=xs.length - i∧i≤xs.length∧Pv i σ H,⟨xs.length,by simp,Nat.zero_le _,h0⟩,?_⟩
  rintro i m σ H ⟨rfl,hi,p⟩
  have q:=hl i σ H hi p
  by_cases hlt:i < xs.length
  · refine .inr ⟨⟨xs,xs[i],q,by simp [hlt]⟩,Pv (i+1),fun σ' H' p'=>⟨xs.length - (i+1),by omega,rfl,hlt,p'⟩,fun x H' y => ?_⟩
    obtain ⟨pa,v,hpa,rfl,hv,rfl⟩:=y
    exact hs i v pa σ H (hv xs q) p hpa
  · have e:i=xs.length:=by omega
    subst e
    exact .inl ⟨⟨xs,q,rfl⟩,hd σ H p⟩

section
variable {X:Cx}
theorem foldl_cps (a:Array Nat):∀ (k:Nat) (acc:Array Nat),((List.replicate k a).foldl (· ++ ·) acc).toList=acc.toList ++ (List.replicate k a.toList).flatten
  | 0,acc=>by simp
  | k+1,acc=>by
    rw [List.replicate_succ,List.foldl_cons,foldl_cps a k,List.replicate_succ,List.flatten_cons,Array.toList_append,List.append_assoc]
noncomputable def timesS (z:Str) (n:Nat):Str:=⟨(List.replicate n z.cps.toList).flatten.toArray⟩
theorem timesS_len (z:Str) (n:Nat):(timesS z n).length=n * z.length:=by
  unfold timesS Str.length
  simp [List.length_flatten]
inductive J_op_mul_str (x:V) (y:V) (H:Hp) (Q:VK):Prop
  | mk:∀ z n,(x = .str z)→(y = .int n)→(1≤n)→(n≤1000)→(z.length≤1000)→(Q (.str (timesS z n.toNat)) H)→J_op_mul_str x y H Q
theorem op_mul_str:OpR X (binaryOp .Mult) (fun x y H Q=>J_op_mul_str x y H Q):=by
  intro pins s σ H x y v u Q I rx ry h
  obtain ⟨z,n,rfl,rfl,h1,h2,h3,q⟩:=h
  obtain ⟨t,rfl⟩:=rx
  obtain ⟨t',rfl⟩:=ry
  have e0:(⟨(List.replicate n.toNat z.cps).foldl (· ++ ·) #[]⟩:Str)=timesS z n.toNat:=by
    unfold timesS
    congr 1
    apply Array.toList_inj.mp
    rw [foldl_cps]
    simp
  have hlen:(timesS z n.toNat).length≤sizeLine:=by
    rw [timesS_len]
    have:n.toNat≤1000:=by omega
    have:=Nat.mul_le_mul this h3
    exact Nat.le_trans this (by decide)
  have e1:(n == 1 || z.length == 0)=true→timesS z n.toNat=z:=fun hc=>by
    unfold timesS
    rcases Bool.or_eq_true_iff.mp hc with hc | hc
    · have:n=1:=by simpa using hc
      subst this
      simp
    · have hz:z.length=0:=by simpa using hc
      have hz':z.cps = #[]:=Array.eq_empty_of_size_eq_zero hz
      cases z with
      | mk c =>
        simp only at hz'
        subst hz'
        simp
  refine PySem.P.mul_str (by
      have h1':¬ n < -(2 ^ 63:Int):=by omega
      have h2':¬ n ≥ 2 ^ 63:=by omega
      rw [decide_eq_false h1',decide_eq_false h2'];rfl) (fun _ _ => ?_) (fun _ _ => ?_) ?_
  · have e:((2:Int) ^ 63 - 1)=9223372036854775807:=by decide
    rw [e]
    have h4:(1000:Int)≤(9223372036854775807:Int) / n:=by
      refine (Int.le_ediv_iff_mul_le (by omega)).mpr ?_
      omega
    omega
  · unfold Builtin.Str.tooLong
    rw [timesS_len] at hlen
    exact decide_eq_false (by rw [Nat.mul_comm];omega)
  · rw [if_neg (by omega)]
    by_cases hc:(n == 1 || z.length == 0)=true
    · rw [if_pos hc]
      exact ⟨.str z,H,I,⟨_,rfl⟩,by rw [e1 hc] at q;exact q⟩
    · rw [if_neg hc]
      exact ⟨by rw [e0];exact hlen,⟨.str _,H,I.tok _,⟨_,rfl⟩,by rw [e0];exact q⟩⟩
end
end L2
namespace L2
open PySem PySem.Spec PyProof.Rows

noncomputable def capsOf (cells:List (Str × Addr)):List (Str × NameKind)→List (Str × Addr)→List (Str × Addr)
  | [],acc=>acc
  | (n,k) :: r,acc=>if k == .free then (match cells.lookup n with | some c=>capsOf cells r ((n,c) :: acc) | none=>capsOf cells r acc) else capsOf cells r acc
theorem capsOf_cells {cells:List (Str × Addr)}:∀ {names:List (Str × NameKind)} {acc:List (Str × Addr)} {x:Str} {c:Addr},(∀ x c,acc.lookup x=some c→cells.lookup x=some c)→(capsOf cells names acc).lookup x=some c→cells.lookup x=some c
  | [],_,x,c,ha,h=>ha x c h
  | (n,k) :: r,acc,x,c,ha,h=>by
    unfold capsOf at h
    by_cases hk:(k == NameKind.free)=true
    · rw [if_pos hk] at h
      cases e:cells.lookup n with
      | none =>
        rw [e] at h
        exact capsOf_cells ha h
      | some d =>
        rw [e] at h
        refine capsOf_cells (fun y z hy => ?_) h
        rw [List.lookup_cons] at hy
        cases q:y == n with
        | true =>
          rw [q] at hy
          have:y=n:=by simpa using q
          rw [this,e];exact hy
        | false =>
          rw [q] at hy
          exact ha y z hy
    · rw [if_neg hk] at h
      exact capsOf_cells ha h
theorem capsOf_acc {cells:List (Str × Addr)}:∀ {names:List (Str × NameKind)} {acc:List (Str × Addr)} {x:Str},(acc.lookup x).isSome=true→((capsOf cells names acc).lookup x).isSome=true
  | [],_,_,h=>h
  | (n,k) :: r,acc,x,h=>by
    unfold capsOf
    by_cases hk:(k == NameKind.free)=true
    · rw [if_pos hk]
      cases e:cells.lookup n with
      | none=>exact capsOf_acc h
      | some d =>
        refine capsOf_acc ?_
        rw [List.lookup_cons]
        cases q:x == n with
        | true=>rfl
        | false=>exact h
    · rw [if_neg hk];exact capsOf_acc h
theorem capsOf_has {cells:List (Str × Addr)}:∀ {names:List (Str × NameKind)} {acc:List (Str × Addr)} {x:Str},(x,NameKind.free)∈names→(cells.lookup x).isSome=true→((capsOf cells names acc).lookup x).isSome=true
  | [],_,_,h,_=>nomatch h
  | (n,k) :: r,acc,x,h,hc=>by
    unfold capsOf
    rcases List.mem_cons.mp h with e | h
    · cases e
      rw [if_pos (show (NameKind.free == NameKind.free)=true from rfl)]
      cases e:cells.lookup n with
      | none=>rw [e] at hc;cases hc
      | some d =>
        refine capsOf_acc ?_
        rw [List.lookup_cons]
        simp
    · by_cases hk:(k == NameKind.free)=true
      · rw [if_pos hk]
        cases e:cells.lookup n with
        | none=>exact capsOf_has h hc
        | some d=>exact capsOf_has h hc
      · rw [if_neg hk];exact capsOf_has h hc
theorem caps_cells {cells:List (Str × Addr)} {names:List (Str × NameKind)} {x:Str} {c:Addr} (h:(capsOf cells names []).lookup x=some c):cells.lookup x=some c :=
  capsOf_cells (fun _ _ z=>by simp at z) h
theorem forIn_caps {env:Env}:∀ (names:List (Str × NameKind)) (acc:List (Str × Addr)),(∀ y∈names,y.2 = .free→∃ c,env.cells.lookup y.1=some c) →
    (forIn names acc fun x r=>match x with
      | (name,kind)=>if (kind == NameKind.free)=true then (do let c ← cellOf env name;pure (ForInStep.yield ((name,c) :: r))) else pure (ForInStep.yield r):Sem (List (Str × Addr)))=pure (capsOf env.cells names acc)
  | [],acc,_=>rfl
  | (n,k) :: r,acc,h=>by
    have hr:∀ y∈r,y.2 = .free→∃ c,env.cells.lookup y.1=some c:=fun y hy=>h y (List.mem_cons_of_mem _ hy)
    rw [List.forIn_cons]
    by_cases hk:(k == NameKind.free)=true
    · have ek:k = .free:=by simpa using hk
      obtain ⟨c,hc⟩:=h (n,k) List.mem_cons_self ek
      have e1:cellOf env n=pure c:=by
        have hc':env.cells.lookup n=some c:=hc
        unfold cellOf
        rw [hc']
      unfold capsOf
      rw [if_pos hk]
      have hc':env.cells.lookup n=some c:=hc
      rw [hc']
      simp only [hk,if_true,e1]
      exact forIn_caps r ((n,c) :: acc) hr
    · unfold capsOf
      rw [if_neg hk]
      simp only [hk]
      exact forIn_caps r acc hr
theorem closure_caps {scope:Scope} {env:Env} (h:∀ y∈scope.names,y.2 = .free→∃ c,env.cells.lookup y.1=some c):closureFor scope env=pure (capsOf env.cells scope.names []):=by
  have e:=forIn_caps scope.names [] h
  unfold closureFor
  show (Bind.bind (forIn scope.names [] fun x r=>match x with
      | (name,kind)=>if (kind == NameKind.free)=true then (do let c ← cellOf env name;pure (ForInStep.yield ((name,c) :: r))) else pure (ForInStep.yield r):Sem (List (Str × Addr))) fun r=>pure r)=_
  rw [e]
  rfl

theorem relabel_free {scope:Scope} {env:Env} {x:Str} (hc:∀ y∈scope.names,y.2 ≠ .cell) (h:(relabel scope env).names.lookup x=some .cell∨(relabel scope env).names.lookup x=some .free):(x,NameKind.free)∈scope.names:=by
  unfold relabel at h
  simp only at h
  generalize scope.names=names at h hc
  induction names with
  | nil=>rcases h with h | h <;> cases h
  | cons y r ih =>
    obtain ⟨n,k⟩:=y
    have hr:∀ y∈r,y.2≠NameKind.cell:=fun y hy=>hc y (List.mem_cons_of_mem _ hy)
    rw [List.map_cons] at h
    by_cases hk:(k == NameKind.free && env.scope.kind == .function && env.kindOf n == some .cell)=true
    · simp only [hk,if_true,List.lookup_cons] at h
      cases q:x == n with
      | true =>
        have e:x=n:=by simpa using q
        have ek:k = .free:=by
          have:=(Bool.and_eq_true_iff.mp (Bool.and_eq_true_iff.mp hk).1).1
          simpa using this
        rw [e,ek];exact List.mem_cons_self
      | false =>
        rw [q] at h
        exact List.mem_cons_of_mem _ (ih h hr)
    · simp only [hk,Bool.false_eq_true,if_false,List.lookup_cons] at h
      cases q:x == n with
      | true =>
        rw [q] at h
        have e:x=n:=by simpa using q
        have hk0:k ≠ .cell:=hc (n,k) List.mem_cons_self
        rcases h with h | h
        · exact absurd (Option.some.inj h) hk0
        · rw [e,Option.some.inj h];exact List.mem_cons_self
      | false =>
        rw [q] at h
        exact List.mem_cons_of_mem _ (ih h hr)

theorem relabel_of_free {scope:Scope} {env:Env} {x:Str} (h:scope.names.lookup x=some .free):(relabel scope env).names.lookup x=some .cell∨(relabel scope env).names.lookup x=some .free:=by
  unfold relabel
  simp only
  generalize scope.names=names at h
  induction names with
  | nil=>cases h
  | cons y r ih =>
    obtain ⟨n,k⟩:=y
    rw [List.map_cons]
    rw [List.lookup_cons] at h
    by_cases hk:(k == NameKind.free && env.scope.kind == .function && env.kindOf n == some .cell)=true
    · simp only [hk,if_true,List.lookup_cons]
      cases q:x == n with
      | true=>exact .inl rfl
      | false=>rw [q] at h;exact ih h
    · simp only [hk,Bool.false_eq_true,if_false,List.lookup_cons]
      cases q:x == n with
      | true=>rw [q] at h;exact .inr h
      | false=>rw [q] at h;exact ih h

noncomputable def cxComp (X:Cx) (scope:Scope) (N:List Str) (fp:List Addr) (s:Shared) (H:Hp):Cx :=
  { X with N:=N,s₀ := s,H₀ := H,env:=compEnvC scope (capsOf X.env.cells scope.names []) s.heap.objs.size X.env,outer:=X.stack,ex:=fp,fn:=fun _=>false,pn := [],xe:=fun _ _=>False }

structure CompScope (X:Cx) (scope:Scope) (own:List Str) (caps:List (Str × Nat)):Prop where
  kind:scope.kind = .function
  nocell:∀ y∈scope.names,y.2 ≠ .cell
  locs:∀ y∈scope.names,y.2 = .local→scope.names.lookup y.1=some .local
  frees:∀ y∈scope.names,y.2 = .free→X.env.kindOf y.1=some .cell
  own:∀ x∈own,scope.names.lookup x=some .local
  caps:∀ p∈caps,X.N[p.2]? = some p.1∧X.env.kindOf p.1=some .cell∧scope.names.lookup p.1=some .free

noncomputable def capt (σ : St) (caps:List (Str × Nat)):St:=caps.map fun p=>(σ[p.2]?).join
section
variable {X:Cx} {scope:Scope} {own:List Str} {caps:List (Str × Nat)} {pins:List (Addr × Obj)} {σ : St} {H:Hp} {s:Shared} {fp:List Addr}
theorem comp_ok (S:CompScope X scope own caps) (I:Inv X pins σ H s) (hf:∀ b∈fp,FpOk X pins H b) (hl:∀ b∈fp,b < s.heap.objs.size):(cxComp X scope (own ++ caps.map (·.1)) fp s H).Ok where
  mod:=I.ok.mod
  kind:=S.kind
  glob:=I.ok.glob
  blt:=I.ok.blt
  above:=Nat.le_refl _
  inj:=fun x y c h1 h2=>I.ok.inj x y c (caps_cells h1) (caps_cells h2)
  has:=fun x h=>by
    have hm:=relabel_free S.nocell h
    obtain ⟨c,hc⟩:=I.ok.has x (.inl (S.frees _ hm rfl))
    exact Option.isSome_iff_exists.mp (capsOf_has hm (by rw [hc];rfl))
  cab:=fun x c h _=>nomatch h
  hd:=I.ok.hd
  frames:=I.ok.frames
  stk := .inl rfl
  exf:=fun b hb=>⟨Nat.ne_of_lt (hl b hb),fun x c h=>(hf b hb).2.2.2.2.1 x c (caps_cells h)⟩
  bs:=I.bs
  bsz:=Nat.le_trans I.ok.bsz I.sz
  noex:=fun b o e hb=>by
    rcases (hf b hb).2.2.2.1 with z | z
    · exact I.ok.noex b o e z
    · exact absurd (Nat.lt_of_lt_of_le (Nat.lt_of_lt_of_le (Heap.lt_size e) I.ok.bsz) z) (Nat.lt_irrefl _)
  exfs:=fun b hb z=>by
    rcases List.mem_cons.mp (I.stkSub b z) with e | e
    · exact (hf b hb).2.1 e
    · exact (hf b hb).2.2.1 e
  funs:=I.stack
  frf:=I.stkFree
theorem comp_start (S:CompScope X scope own caps) (I:Inv X pins σ H s) (hf:∀ b∈fp,FpOk X pins H b) (hl:∀ b∈fp,b < s.heap.objs.size) {h1:Heap} {m:Str→Option Value} {t:Nat} (hn:h1.Ns s.heap.objs.size m)
    (hk:∀ b o,s.heap.get? b=some o→h1.get? b=some o):Inv (cxComp X scope (own ++ caps.map (·.1)) fp s H) [] (List.replicate own.length none ++ capt σ caps) H { s with heap:=h1,toks:=t }:=by
  refine ⟨comp_ok S I hf hl,rfl,I.bare,Un.kept hk,⟨m,hn,fun i y v e1 e2 e3 => ?_⟩,fun x c e => ?_,I.hok.fresh (Nat.le_refl _),fun x c e=>I.freeC x c (caps_cells e),(fun p hp=>by cases hp),I.hok.kept hk,?_⟩
  · have hi:own.length≤i:=by
      by_cases hi:i < own.length
      · rw [List.getElem?_append_left (by simpa using hi),List.getElem?_replicate,if_pos hi] at e2
        cases e2
      · omega
    rw [List.getElem?_append_right (by simpa using hi),List.length_replicate] at e2
    unfold capt at e2
    rw [List.getElem?_map] at e2
    have e1':(own ++ caps.map (·.1))[i]? = some y:=e1
    rw [List.getElem?_append_right hi,List.getElem?_map] at e1'
    cases q:caps[i - own.length]? with
    | none=>rw [q] at e2;cases e2
    | some p =>
      rw [q] at e1' e2
      have ey:p.1=y:=Option.some.inj e1'
      have ev:(σ[p.2]?).join=some v:=Option.some.inj e2
      have eσ : σ[p.2]? = some (some v):=by
        cases z : σ[p.2]? with
        | none=>rw [z] at ev;cases ev
        | some w'=>rw [z] at ev;rw [show w'=some v from ev]
      obtain ⟨hN,hkind,hfree⟩:=S.caps p (List.mem_of_getElem? q)
      rw [ey] at hN hkind hfree
      obtain ⟨mX,hnX,hlX⟩:=I.loc
      obtain ⟨u,ru,lk⟩:=hlX p.2 y v hN eσ (.inr (.inl hkind))
      refine ⟨u,ru,?_⟩
      rcases lk with ⟨k1,_⟩ | ⟨_,c,hc,hcell⟩
      · rw [hkind] at k1;cases k1
      · have hm:=relabel_free S.nocell (relabel_of_free (env:=X.env) hfree)
        obtain ⟨c',hc'⟩:=Option.isSome_iff_exists.mp (capsOf_has (acc := []) hm (by rw [hc];rfl))
        have:=caps_cells hc'
        rw [hc] at this;cases this
        obtain ⟨o,ho,hd⟩:=hcell
        exact .inr ⟨relabel_of_free (env:=X.env) hfree,c,hc',⟨o,hk _ _ ho,hd⟩⟩
  · obtain ⟨v,o,ho,hd⟩:=I.cell x c (caps_cells e)
    exact ⟨v,o,hk _ _ ho,hd⟩
  · show _=(own ++ caps.map (·.1)).length
    simp [capt]
theorem comp_back {N:List Str} {τ : St} {H':Hp} {s':Shared} (I:Inv X pins σ H s) (J:Inv (cxComp X scope N fp s H) [] τ H' s') (hf:∀ b∈fp,FpOk X pins H b):Inv X pins σ H' s' :=
  I.call' (ch:=fp) J.os J.base J.hok J.bare fun b hb=>by
    obtain ⟨_,f1,_,f3,f4,f5⟩:=hf b hb
    exact ⟨f3,f1,f4,f5⟩
theorem comp_go {prog:Program} {w:World} {A:Around} {R:Result→Shared→Prop} {elt target iter:Expr} {pos:Pos} {it acc:Value} {env:Env} (Iv:Nat→Shared→Prop)
    (turn:∀ n s,Iv n s→wpAny (model prog w) A (pyNext it) (fun r s₁ => match r with
      | none=>R (.ok .next) s₁
      | some v=>wpAny (model prog w) A (letOwnedTupleGo target it v) (fun _ s₂ => wpAny (model prog w) A (assign target env v) (fun _ s₃ => wpAny (model prog w) A (eval elt env) (fun x s₄ =>
              wpAny (model prog w) A (call (.builtin "list.append") [acc,x]) (fun _ s₅ => ∃ m,m < n∧Iv m s₅) (fun _ _=>False) s₄) (fun _ _=>False) s₃) (fun _ _=>False) s₂) (fun _ _=>False) s₁) (fun _ _=>False) s)
    (n:Nat) (h:Iv n s):codeAny (model prog w) A (.compLoop (.ListComp elt [⟨target,iter, [],0⟩] scope pos) 0 it acc env) R s:=by
  refine codeAny_loop rfl Iv (fun n s hI => ?_) n h
  show wpAny _ A ((compTurn (.ListComp elt [⟨target,iter, [],0⟩] scope pos) 0 it acc env).onRaise (fun x=>do noteFrame x env;theTreesLotGoes x)) _ _ s
  refine wpAny_noted ?_
  rw [compTurn_list]
  refine wpAny_bind (wpAny_standAt (wpAny_bind (wpAny_mono (turn n s hI) (fun r s₁ h₁ => ?_) fun _ _ z=>z.elim)))
  cases r with
  | none=>exact wpAny_pure h₁
  | some v =>
    refine wpAny_bind (wpAny_mono h₁ (fun _ s₂ h₂ => wpAny_bind (wpAny_mono h₂ (fun _ s₃ h₃ => wpAny_bind (wpAny_tests_nil ?_)) fun _ _ z=>z.elim)) fun _ _ z=>z.elim)
    exact wpAny_bind (wpAny_bind (wpAny_mono h₃ (fun x s₄ h₄ => wpAny_bind (wpAny_mono h₄ (fun _ s₅ h₅ => wpAny_pure (wpAny_pure ⟨rfl,h₅⟩)) fun _ _ z=>z.elim)) fun _ _ z=>z.elim))

noncomputable def CompBody (J:It) (g:TG) (te:TE) (τ0:St) (H1:Hp) (Q:VK):Prop := ∀ D,H1 D=none→∃ W:Nat→Nat→St→List V→Hp→Prop,
  (∃ m,W 0 m τ0 [] (upd H1 D (.lst []))) ∧
  ∀ i m τ ys H,W i m τ ys H→H D=some (.lst ys)∧((J.stop i H∧Q (.ref D) H)∨(J.go i H∧ys.length < sizeLine∧∀ x H',J.yld i H x H'→g x τ H' fun τ2 H2=>te τ2 H2 fun y H3 =>
    H3 D=some (.lst ys)∧∃ m',m' < m∧W (i+1) m' τ2 (ys ++ [y]) (upd H3 D (.lst (ys ++ [y])))))
noncomputable def tComp (wi:TI) (g:TG) (te:TE) (k:Nat) (caps:List (Str × Nat)):TE:=fun σ H Q=>wi σ H fun J H1=>CompBody J g te (List.replicate k none ++ capt σ caps) H1 Q

theorem comp_core {tg elt iter:Expr} {wi:TI} {g:TG} {te:TE} {pos p2:Pos} {use:Option (Value→Sem Unit)} {Q:VK} {Q':Value→Shared→Prop} (S:CompScope X scope own caps) (hi:PI X tg iter wi) (hc:X.calm=true)
    (hg:∀ fp s H,PG (cxComp X scope (own ++ caps.map (·.1)) fp s H) tg g) (he:∀ fp s H,PE (cxComp X scope (own ++ caps.map (·.1)) fp s H) elt te)
    (I:Inv X pins σ H s) (h:tComp wi g te own.length caps σ H Q)
    (fin:∀ D C H5 s5,Inv X pins σ H5 s5→Q (.ref D) H5→(∃ m,s5.heap.Ns C m)→H5 C=none→C≠X.env.locals→X.s₀.heap.objs.size≤C→(∀ x c,X.env.cells.lookup x=some c→c≠C)→(∀ p∈X.pn ++ pins,p.1≠C) →
      compPost (model X.prog X.w) X.A X.xe use Q' (.ref D) C (.ok .next) s5)
    (hs:∀ x,foldedSetIterable iter X.env x=pure x:=by intro _;rfl) :
    wpAny (model X.prog X.w) X.A (comprehension (.ListComp elt [⟨tg,iter, [],0⟩] scope pos) scope X.env p2 (newList []) false (eval iter X.env) use) Q' X.xe s:=by
  have hclos:closureFor scope X.env=pure (capsOf X.env.cells scope.names []):=closure_caps fun y hy hk=>I.ok.has y.1 (.inl (S.frees y hy hk))
  refine wpAny_comprehension_free (g:=⟨tg,iter, [],0⟩) (gs := []) rfl hs hclos S.kind S.locs (thn (hi pins s σ H _ I h) fun v s1 h1=>thn h1 fun itv s2 h2 => ?_)
  obtain ⟨it,fp,tn,J,H2,e,I2,T,st2,f2,R⟩:=h2
  subst e
  refine wpAny_newObj_type (wpAny_newFunctionEnv S.nocell (by intro y hy;simp at hy) (fun h₁ hns₁ hsb₁ => ?_) S.kind)
  have fr2:H2 s2.heap.objs.size=none:=I2.hok.fresh (Nat.le_refl _)
  obtain ⟨W,⟨m0,w0⟩,turn⟩:=R s2.heap.objs.size fr2
  have I3:Inv X pins σ (upd H2 s2.heap.objs.size (.lst [])) { s2 with heap:=s2.heap.push { cls := .type "list",dict:=none,data := .seq ([]:List Value).toArray } }:=I2.lnew (its := []) (t':=s2.toks) .nil (Nat.zero_le _)
  have lt2:∀ b∈fp,b < s2.heap.objs.size:=fun b hb=>by
    obtain ⟨o,ho,_⟩:=T.obj _ _ st2 b hb
    exact Heap.lt_size ho
  have f3:∀ b∈fp,FpOk X pins (upd H2 s2.heap.objs.size (.lst [])) b:=fun b hb=>⟨by rw [upd_ne (Nat.ne_of_lt (lt2 b hb))];exact (f2 b hb).1,(f2 b hb).2⟩
  generalize hs3:({ s2 with heap:=s2.heap.push { cls := .type "list",dict:=none,data := .seq ([]:List Value).toArray } }:Shared)=s3 at I3
  have hz3:s3.heap.objs.size=s2.heap.objs.size+1:=by rw [← hs3];exact Heap.size_push _ _
  have kp23:∀ b o,s2.heap.get? b=some o→s3.heap.get? b=some o:=fun b o e=>by rw [← hs3];exact Heap.get?_push_of_some _ e
  have lt3:∀ b∈fp,b < s3.heap.objs.size:=fun b hb=>by rw [hz3];exact Nat.lt_succ_of_lt (lt2 b hb)
  have hns₁':h₁.Ns s3.heap.objs.size (fun x=>([]:List (Str × Value)).reverse.lookup x):=by rw [← hs3];exact hns₁
  have kp31:∀ b o,s3.heap.get? b=some o→h₁.get? b=some o:=fun b o e=>by
    have hb:b≠s3.heap.objs.size:=Nat.ne_of_lt (Heap.lt_size e)
    rw [← hs3] at e hb
    exact hsb₁.extBut b o hb (Heap.get?_push_of_some _ e)
  have J1:=comp_start S I3 f3 lt3 (t:=s2.toks+([]:List (Str × Value)).length) hns₁' kp31
  have st1:tn 0 h₁ := T.keep _ _ _ st2 fun b hb o e=>kp31 b o (kp23 b o e)
  -- the loop
  have loop:∀ s₃ : Shared,s₃ = { s3 with heap:=h₁,toks:=s2.toks+([]:List (Str × Value)).length } →
      codeAny (model X.prog X.w) X.A (.compLoop (.ListComp elt [⟨tg,iter, [],0⟩] scope pos) 0 (.ref it) (.ref s2.heap.objs.size) (cxComp X scope (own ++ caps.map (·.1)) fp s3 (upd H2 s2.heap.objs.size (.lst []))).env)
        (compPost (model X.prog X.w) X.A X.xe use Q' (.ref s2.heap.objs.size) s3.heap.objs.size) s₃ := by
    rintro s₃ rfl
    refine comp_go (fun n s'=>∃ i τ ys H',Inv (cxComp X scope (own ++ caps.map (·.1)) fp s3 (upd H2 s2.heap.objs.size (.lst []))) [] τ H' s'∧tn i s'.heap∧(∀ b∈fp,H' b=none)∧W i n τ ys H') ?_ m0
      ⟨0,_, [],_,J1,st1,fun b hb=>(f3 b hb).1,w0⟩
    rintro n s' ⟨i, τ,ys,H',J',st',fr',w'⟩
    have fY:∀ {H'':Hp},(∀ b∈fp,H'' b=none)→∀ b∈fp,FpOk (cxComp X scope (own ++ caps.map (·.1)) fp s3 (upd H2 s2.heap.objs.size (.lst []))) [] H'' b:=fun hn b hb =>
      ⟨hn b hb,Nat.ne_of_lt (lt3 b hb),fun z=>by
          rcases List.mem_cons.mp (I3.stkSub b z) with e | e
          · exact (f3 b hb).2.1 e
          · exact (f3 b hb).2.2.1 e,.inl hb,fun x c e=>(f3 b hb).2.2.2.2.1 x c (caps_cells e),(fun p hp=>by cases hp)⟩
    obtain ⟨hD,tt⟩:=turn i n τ ys H' w'
    rcases tt with ⟨stop,qn⟩ | ⟨go,hlen,step⟩
    · refine thn (T.done (cxComp X scope (own ++ caps.map (·.1)) fp s3 (upd H2 s2.heap.objs.size (.lst []))) rfl rfl rfl hc i [] s' τ H' (fun _ _=>False) J' (fY fr') st' stop) fun r s4 ⟨hr,J4⟩ => ?_
      subst hr
      obtain ⟨m4,hn4,_⟩:=J4.loc
      have I5:=comp_back I3 J4 f3
      refine fin _ _ _ s4 I5 qn ⟨m4,hn4⟩ J4.free ?_ ?_ (fun x c e z => ?_) fun p hp z => ?_
      · exact Nat.ne_of_gt I3.lt
      · exact I3.sz
      · obtain ⟨v,q⟩:=I3.cell x c e
        rw [z] at q
        exact absurd q.lt (Nat.lt_irrefl _)
      · have q:=(I3.pin p hp).1
        rw [z] at q
        exact absurd (Heap.lt_size q) (Nat.lt_irrefl _)
    · refine thn (T.item (cxComp X scope (own ++ caps.map (·.1)) fp s3 (upd H2 s2.heap.objs.size (.lst []))) rfl rfl rfl hc i [] s' τ H' (fun _ _=>False) J' (fY fr') st' go) fun r s4 ⟨u,hr,h4⟩ => ?_
      subst hr
      refine thn h4 fun _ s5 ⟨x,H5,J5,r5,y5,st5,fr5⟩ => ?_
      have J5':=J5.pinned (fY fr5) (T.obj _ _ st5)
      refine thn (hg fp s3 _ _ s5 τ H5 x u _ J5' r5 (step x H5 y5)) fun _ s6 ⟨τ6,H6,J6,q6⟩ => ?_
      refine thn (he fp s3 _ _ s6 τ6 H6 _ J6 q6) fun yv s7 ⟨y,H7,J7,r7,hD7,m',hm',w7⟩ => ?_
      refine thn (mt_append (X:=cxComp X scope (own ++ caps.map (·.1)) fp s3 (upd H2 s2.heap.objs.size (.lst []))) _ s7 τ6 H7 (.ref s2.heap.objs.size) [y] _ [yv] (fun _ H8=>H8=upd H7 s2.heap.objs.size (.lst (ys ++ [y]))) J7 rfl (.cons r7 .nil) ⟨_,ys,y,rfl,rfl,hD7,hlen,rfl⟩) fun _ s8 ⟨_,H8,J8,_,e8⟩ => ?_
      subst e8
      refine ⟨m',hm',i+1, τ6,ys ++ [y],_,J8.unpinned,T.keep _ _ _ st5 fun b hb o e=>(J8.pin (b,o) (List.mem_append_right _ (List.mem_append_right _ (mem_pinsAt hb e)))).1,fun b hb => ?_,w7⟩
      obtain ⟨o,e,d⟩:=T.obj _ _ st5 b hb
      exact (J8.pin (b,o) (List.mem_append_right _ (List.mem_append_right _ (mem_pinsAt hb e)))).2.1
  have hloop:=loop _ rfl
  subst hs3
  exact codeAny_compStart_list hloop (T.self _ 0 _ _ _ st1 hloop)
theorem pe_comp {tg elt iter:Expr} {wi:TI} {g:TG} {te:TE} {pos:Pos} (S:CompScope X scope own caps) (hi:PI X tg iter wi) (hc:X.calm=true)
    (hg:∀ fp s H,PG (cxComp X scope (own ++ caps.map (·.1)) fp s H) tg g) (he:∀ fp s H,PE (cxComp X scope (own ++ caps.map (·.1)) fp s H) elt te)
    (hs:∀ x,foldedSetIterable iter X.env x=pure x:=by intro _;rfl):PE X (.ListComp elt [⟨tg,iter, [],0⟩] scope pos) (tComp wi g te own.length caps):=by
  intro pins s σ H Q I h
  rw [eval_ListComp]
  refine comp_core (use:=none) (Q:=Q) S hi hc hg he I h (fun D C H5 s5 I5 q ⟨m,hn⟩ hC hL hz hcell hpin => ?_) hs
  refine ⟨m,hn,fun h' hs' => ?_⟩
  exact ⟨.ref D,H5,I5.turned (t':=s5.toks) (fun b o hb e=>(hs'.2 b hb).trans e) hC hL (.inr hz) hcell hpin,rfl,q⟩
end
end L2
namespace L2
open PySem PySem.Spec PyProof.Rows

structure Has (P:Program) (w:World) (K:PySem.W.Frag) (mg:Str→Option Value) (base:Heap) (k:Nat) (x:Str) (ps:List Str) (sp:Sp):Prop where
  ex:∃ f fd,FnOk P w K mg base CX0 k f fd ps sp∧mg x=some (.ref f)∧PySem.W.keepIn K (.ref f)=true∧Binds K fd ps []
section
variable {X:Cx} {k k':Nat} {x:Str} {ps:List Str} {sp:Sp} {p pos:Pos} {e:Expr} {es:List Expr} {t:TA}
theorem pe_callH (h:Has X.prog X.w X.K X.mg X.base k x ps sp) (hr:Room k' X.A) (hk:k≤k') (hg:Gl X x) (ha:PA X (e :: es) t) (hdb:(x == ("__debug__" : Str))=false:=by decide)
    (he:starEach (e :: es) X.env=(false,eval e X.env) :: starEach es X.env:=by rfl) (hpl:(backTo pos (starEach es X.env)).any (·.1)=false:=by rfl) :
    PE X (.Call (.Name x p) (e :: es) [] pos) (tCall sp [] E0 t):=by
  obtain ⟨f,fd,F,hm,hkp,hb⟩:=h.ex
  exact pe_call F (hr.mono hk) hg hm hkp hb .nil pass0 ha hdb he hpl
end
structure Def (K:PySem.W.Frag) (mg:Str→Option Value) (x:Str) (st:Stmt) (ps:List Str):Prop where
  ex:∃ f fd,Fun K x x st f fd∧mg x=some (.ref f)∧Binds K fd ps []
theorem Def.has {P:Program} {w:World} {K:PySem.W.Frag} {mg:Str→Option Value} {base:Heap} {x:Str} {st:Stmt} {N ps:List Str} {k:Nat} {sp:Sp} (D:Def K mg x st ps) (S:FnScope N ps (defScope st)) (len:∀ vs H Q E,sp vs H Q E→vs.length=ps.length)
    (hbody:∀ (f:Addr) (cdv:Value) (A:Around) (outer:List Env) (s:Shared) (H:Hp) (vs:List V) (Q:VK) (E:XK),Room k (A.deeper (envOfC x (defScope st) s.heap.objs.size f cdv))→sp vs H Q E →
      ∃ t,PSs (cxOf CX0 P w K mg base N x (defScope st) f cdv A outer s H E).nox (defBody st) t∧t { nx:=fun _ H'=>Q .non H',rt:=Q } (start N vs) H):Has P w K mg base (k+1) x ps sp:=by
  obtain ⟨f,fd,F,hm,hb⟩:=D.ex
  exact ⟨f,fd,F.ok S len (hbody f),hm,F.kp,hb⟩

theorem same_new {H:Hp} {p:Addr} (h:H p=none) (o:HO):Same H (upd H p o):=fun b u q=>by rw [upd_ne (ne_of_none q h)];exact q
theorem Same.tup {K:PySem.W.Frag} {H H':Hp} {a:Addr} {xs:List V} (e:Same H H') (h:SqT K H a xs):SqT K H' a xs:=by
  rcases h with (h | ⟨o,h⟩) | h
  · exact .inl (.inl (e _ _ h))
  · exact .inl (.inr ⟨o,e _ _ h⟩)
  · exact .inr h
theorem Same.put {H0 H:Hp} {p:Addr} {o:HO} (e:Same H0 H) (h:H0 p=none):Same H0 (upd H p o):=fun b u q=>by rw [upd_ne (ne_of_none q h)];exact e b u q

theorem comp_list {K:PySem.W.Frag} {a:Addr} {xs:List V} {te:TE} {σ : St} {caps:List (Str × Nat)} {H:Hp} {Q:VK} (f:V→V) (hS:SqL K H a xs) (hz:xs.length≤1000)
    (hel:∀ x∈xs,∀ H',Same H H'→∀ Q':VK,Q' (f x) H'→te (some x :: capt σ caps) H' Q') (hq:∀ D,H D=none→Q (.ref D) (upd H D (.lst (xs.map f)))) :
    CompBody (Itl K a) (gName 0) te (List.replicate 1 none ++ capt σ caps) H Q:=by
  intro D hD
  refine ⟨fun i m τ ys H'=>m=xs.length - i∧i≤xs.length∧(∃ o, τ = o :: capt σ caps)∧ys=(xs.take i).map f∧H'=upd H D (.lst ys),⟨xs.length,by simp,Nat.zero_le _,⟨none,rfl⟩,by simp,rfl⟩,?_⟩
  rintro i m τ ys H' ⟨rfl,hi,⟨o,rfl⟩,rfl,rfl⟩
  have sm:Same H (upd H D (.lst ((xs.take i).map f))):=same_new hD _
  refine ⟨upd_same,?_⟩
  by_cases hlt:i < xs.length
  · refine .inr ⟨⟨xs,xs[i],sm.seq hS,by simp [hlt]⟩,?_,fun x H'' y => ?_⟩
    · rw [List.length_map,List.length_take]
      exact small1000 (by omega)
    obtain ⟨e,y⟩:=y
    subst e
    have hx:=y xs (sm.seq hS)
    show te (some x :: capt σ caps) _ _
    refine hel x (List.mem_of_getElem? hx) _ sm _ ?_
    refine ⟨upd_same,xs.length - (i+1),by omega,rfl,hlt,⟨_,rfl⟩,?_,?_⟩
    · rw [List.take_add_one,hx,List.map_append];rfl
    · rw [upd_upd]
  · have e:i=xs.length:=by omega
    subst e
    refine .inl ⟨⟨xs,sm.seq hS,Nat.le_refl _⟩,?_⟩
    rw [List.take_length]
    exact hq D hD
noncomputable def checkComp (xsc:Scope) (xN:List Str) (scope:Scope) (own:List Str) (caps:List (Str × Nat)):Bool :=
  scope.names.all (fun y=>y.2 != .cell) && scope.names.all (fun y=>y.2 != .local || scope.names.lookup y.1 == some .local) && scope.names.all (fun y=>y.2 != .free || xsc.names.lookup y.1 == some .cell)
    && own.all (fun x=>scope.names.lookup x == some .local) && caps.all (fun p=>xN[p.2]? == some p.1 && xsc.names.lookup p.1 == some .cell && scope.names.lookup p.1 == some .free)
theorem comp_scope {X:Cx} {scope:Scope} {own:List Str} {caps:List (Str × Nat)} (xsc:Scope) (xN:List Str) (hx:X.env.scope=xsc) (hN:X.N=xN) (hk:scope.kind = .function) (c:checkComp xsc xN scope own caps=true):CompScope X scope own caps:=by
  unfold checkComp at c
  simp only [Bool.and_eq_true,List.all_eq_true,Bool.or_eq_true,bne_iff_ne,beq_iff_eq,ne_eq] at c
  obtain ⟨⟨⟨⟨c1,c2⟩,c3⟩,c4⟩,c5⟩:=c
  refine ⟨hk,c1,fun y hy e => ?_,fun y hy e => ?_,c4,fun p hp => ?_⟩
  · rcases c2 y hy with z | z
    · exact absurd e z
    · exact z
  · rcases c3 y hy with z | z
    · exact absurd e z
    · show X.env.scope.names.lookup y.1=_
      rw [hx];exact z
  · obtain ⟨⟨z1,z2⟩,z3⟩:=c5 p hp
    refine ⟨by rw [hN];exact z1,?_,z3⟩
    show X.env.scope.names.lookup p.1=_
    rw [hx];exact z2
structure Blt (mg:Str→Option Value):Prop where
  len_:mg "len" = none
  min_:mg "min" = none
  max_:mg "max" = none
  sum_:mg "sum" = none
  range_:mg "range" = none
  enumerate_:mg "enumerate" = none
  isinstance_:mg "isinstance" = none
  tuple_:mg "tuple" = none
  int_:mg "int" = none
  bool_:mg "bool" = none
  str_:mg "str" = none
  list_:mg "list" = none
theorem boot_min_:bootBuiltins "min" = some (.builtin "min"):=by decide +kernel
theorem boot_max_:bootBuiltins "max" = some (.builtin "max"):=by decide +kernel
theorem boot_tuple_:bootBuiltins "tuple" = some (.type "tuple"):=by decide +kernel
theorem boot_int_:bootBuiltins "int" = some (.type "int"):=by decide +kernel
theorem boot_list_:bootBuiltins "list" = some (.type "list"):=by decide +kernel
theorem Paired.at {α β : Type} {F : α → β → Prop}:∀ {l₁ : List α} {l₂ : List β} {i:Nat} {a : α},Paired F l₁ l₂ → l₁[i]? = some a→∃ b,l₂[i]? = some b∧F a b
  | _,_,_,_,.nil,e=>by simp at e
  | _,_,0,_,.cons h _,e=>by simp at e;subst e;exact ⟨_,rfl,h⟩
  | _,_,i+1,a,.cons _ t,e=>by
    obtain ⟨b,h1,h2⟩:=Paired.at (i:=i) (a:=a) t (by simpa using e)
    exact ⟨b,by simpa using h1,h2⟩
theorem pos' {j:Int} (h:decide (0 < j)=true:=by decide):0 < j:=of_decide_eq_true h
theorem div' {i j:Int} (h:(decide (0 < j) && decide (j < 1073741824))=true:=by decide):CDiv i j :=
  ⟨of_decide_eq_true (Bool.and_eq_true_iff.mp h).1,of_decide_eq_true (Bool.and_eq_true_iff.mp h).2⟩
theorem iteD {c A B:Prop} [Decidable c] (h1:c→A) (h2:¬ c→B):if decide c=true then A else B:=by
  by_cases h:c
  · rw [decide_eq_true h];exact iteT (h1 h)
  · rw [decide_eq_false h];exact iteF (h2 h)
theorem iteDN {c A B:Prop} [Decidable c] (h1:¬ c→A) (h2:c→B):if (!decide c)=true then A else B:=by
  by_cases h:c
  · rw [decide_eq_true h];exact iteF (h2 h)
  · rw [decide_eq_false h];exact iteT (h1 h)
end L2
namespace L2
open PySem PySem.Spec PyProof.Rows

noncomputable def F2 (h:Heap) (e:Addr) (x:Value):Prop := ∃ o vs,h.get? e=some o∧o.data = .fields vs∧vs[2]? = some x
noncomputable def Ctx0 (h:Heap) (e:Addr):Prop:=F2 h e .none
theorem F2.other {h:Heap} {e b:Addr} {x:Value} {f:Obj→Obj} (c:F2 h e x) (n:b≠e):F2 (h.update b f) e x:=by
  obtain ⟨o,vs,a,d,i⟩:=c
  exact ⟨o,vs,(Heap.get?_update_other _ _ n).trans a,d,i⟩
section
variable {M:Model} {A:Around} {E:Value→Shared→Prop} {s:Shared}
inductive Entered (l:List Env) (e:Addr) (oe:Obj) (L:Addr) (h h':Heap):Prop
  | mk (T:Addr) (oT:Obj) (ts:Array Value) (old:∀ b o,b≠e→b ∉ l.filterMap (·.frame)→h.get? b=some o→h'.get? b=some o) (slots:∀ b o,b≠e→h.get? b=some o→∃ sl,h'.get? b=some { o with slots:=sl })
    (own:h'.get? e=some (oe.mapFields (·.setIfInBounds 1 (.ref T)))) (new:h.get? T=none) (ne:T≠e) (size:h.objs.size≤T) (there:h'.get? T=some oT) (data:oT.data = .fields ts) (fl:ts[3]? = some (rawInt L)):Entered l e oe L h h'
theorem entry_on {base:Heap} {env:Env} {outer:List Env} {L e:Addr} {oe:Obj} {vs:Array Value} {hd:Value} {nx:Bool} {Q:Unit→Shared→Prop}
    (af:A.frames=some (env :: outer)) (ff:s.heap.FunFrames base (env :: outer)) (fL:env.frame=some L) (ge:s.heap.get? e=some oe) (gd:oe.data = .fields vs) (gz:1 < vs.size)
    (k:∀ h',Entered (env :: outer) e oe L s.heap h'→Q () { s with heap:=h' }) :
    wpAny M A (do let a ← frameOf env;let pl ← entryPlaceOf L nx;let b ← EntryCells.newEntry hd a .none (rawInt L) .none pl;setField (.ref e) 1 b) Q E s:=by
  have hne:e ∉ (env :: outer).filterMap (·.frame):=fun m=>by
    obtain ⟨_,o,q,nf⟩:=ff.mem m
    rw [ge] at q
    cases q
    exact nf vs gd
  refine wpAny_bind (wpAny_frameOf_fun af ff fL fun h1 sl => ?_)
  refine wpAny_bind (wpAny_entryPlaceOf fun pl hp => ?_)
  unfold EntryCells.newEntry newFields
  refine wpAny_bind (wpAny_newObj_type ?_ (hp.sizeOk5 _ _ _ _ _))
  have g1:h1.get? e=some oe:=(sl.2.1 e hne).trans ge
  generalize hO:({ cls := .type "traceback",dict:=none,data := .fields ([hd,.ref L,.none,rawInt L,.none] ++ (if pl.isEmpty then List.replicate 6 Value.none else pl)).toArray }:Obj)=oT
  have g2:=Heap.get?_push_of_some (h:=h1) oT g1
  refine wpAny_setField g2 gd gz (k _ ?_)
  have nT:h1.objs.size≠e:=Nat.ne_of_gt (Heap.lt_size g1)
  have dd:=Obj.data_mapFields gd (·.setIfInBounds 1 (Value.ref h1.objs.size))
  have up:∀ b o,b≠e→h1.get? b=some o→((h1.push oT).update e (Obj.mapFields (·.setIfInBounds 1 (Value.ref h1.objs.size)))).get? b=some o:=fun b o n q=>by
    rw [Heap.get?_update_other _ _ (Ne.symm n)]
    exact Heap.get?_push_of_some _ q
  refine ⟨h1.objs.size,oT,_,fun b o n m q=>up b o n ((sl.2.1 b m).trans q),fun b o n q => ?_,Heap.get?_update_self _ g2 (Obj.isFreed_of_fields dd),Heap.get?_none_of_le (Nat.le_of_eq sl.1.symm),nT,Nat.le_of_eq sl.1.symm,?_,(by rw [← hO]),?_⟩
  · obtain ⟨x,q'⟩:=sl.2.2 b o q
    exact ⟨x,up b _ n q'⟩
  · rw [Heap.get?_update_other _ _ (Ne.symm nT)]
    exact Heap.get?_push_size h1 (by rw [← hO];rfl)
  · first
      | (simp;done)
      | (rcases hp with rfl | ⟨_,_,_,_,_,_,_,rfl⟩ <;> simp)
theorem Entered.noted {base:Heap} {l:List Env} {e L:Addr} {oe:Obj} {vs:Array Value} {a0:Value} {h h':Heap} (x:Entered l e oe L h h') (kb:base.StaysIn h) (be:base.get? e=none) (ff:h.FunFrames base l) (gd:oe.data = .fields vs) (gz:1 < vs.size) (g0:vs[0]? = some a0) (ge:h.get? e=some oe) :
    Heap.NotedW base l e oe.cls a0 (rawInt L) h h':=by
  obtain ⟨T,oT,ts,old,slots,own,new,ne,size,there,data,fl⟩:=x
  have nr:∀ b o,h.get? b=some o→(∀ ws,o.data ≠ .fields ws)→b≠e:=fun b o q nf z=>by
    rw [z,ge] at q
    cases q
    exact nf vs gd
  refine ⟨fun b o q=>old b o (fun z=>by rw [z,be] at q;cases q) (fun m=>by rw [(ff.mem m).1] at q;cases q) (kb b o q),ff.of_keeps fun b o q nf => ?_,?_,fun b o q nf=>slots b o (nr b o q nf) q⟩
  · obtain ⟨sl,q'⟩:=slots b o (nr b o q nf) q
    exact ⟨_,q',rfl⟩
  · refine ⟨_,_,T,oT,ts,own,⟨Obj.cls_mapFields _ _,?_⟩,Obj.data_mapFields gd _,by simp [gz],?_,ne,there,data,fl⟩
    · rw [Array.getElem?_setIfInBounds_ne (by decide)];exact g0
    · cases q:base.get? T with
      | none=>rfl
      | some o=>have:=kb _ _ q;rw [new] at this;cases this
theorem Entered.ctx {l:List Env} {e L:Addr} {oe:Obj} {vs:Array Value} {h h':Heap} {y:Value} (x:Entered l e oe L h h') (gd:oe.data = .fields vs) (ge:h.get? e=some oe) (c:F2 h e y):F2 h' e y:=by
  obtain ⟨T,oT,ts,old,slots,own,new,ne,size,there,data,fl⟩:=x
  obtain ⟨o,ws,q1,q2,q3⟩:=c
  rw [ge] at q1
  cases q1
  rw [gd] at q2
  cases q2
  exact ⟨_,_,own,Obj.data_mapFields gd _,by rw [Array.getElem?_setIfInBounds_ne (by decide)];exact q3⟩
theorem note_on {base:Heap} {env:Env} {outer:List Env} {L e:Addr} {cls a0:Value} {Q:Unit→Shared→Prop} (af:A.frames=some (env :: outer)) (fL:env.frame=some L) (fl:Heap.FlyingW base (env :: outer) e cls a0 s.heap)
    (k:∀ h',Heap.HeldW base (env :: outer) e cls a0 L h'→s.heap.UpToSlots h'→(∀ y,F2 s.heap e y→F2 h' e y)→Q () { s with heap:=h' }):wpAny M A (noteFrame (.ref e) env) Q E s:=by
  obtain ⟨kb,be,ff,oe,vs,Tr,oT,ts,ge,⟨gc,g0⟩,gd,g1,bT,nTe,gT,dT,g3⟩:=fl
  subst gc
  have gz:=(Array.getElem?_eq_some_iff.mp g1).1
  unfold noteFrame
  simp only [fL]
  refine wpAny_bind (wpAny_field ge gd g1 ?_)
  rw [if_pos (show (Value.ref Tr != Value.none)=true by simp)]
  refine wpAny_bind (wpAny_field gT dT g3 ?_)
  rw [if_neg (show ¬ ((Value.none == rawInt L)=true) by simp [rawInt])]
  refine wpAny_bind (wpAny_setField gT dT (Array.getElem?_eq_some_iff.mp g3).1 ?_)
  have ot:∀ b,b≠Tr→(s.heap.update Tr (Obj.mapFields (·.setIfInBounds 3 Value.none))).get? b=s.heap.get? b:=fun b n=>Heap.get?_update_other _ _ (Ne.symm n)
  have nr:∀ b o,s.heap.get? b=some o→(∀ ws,o.data ≠ .fields ws)→b≠Tr:=fun b o q nf z=>by
    rw [z,gT] at q
    cases q
    exact nf ts dT
  have ff1:=ff.of_keeps (h':=s.heap.update Tr (Obj.mapFields (·.setIfInBounds 3 Value.none))) fun b o q nf=>⟨o,(ot b (nr b o q nf)).trans q,rfl⟩
  have kb1:base.StaysIn (s.heap.update Tr (Obj.mapFields (·.setIfInBounds 3 Value.none))):=fun b o q=>(ot b fun z=>by rw [z,bT] at q;cases q).trans (kb b o q)
  have ge1:=(ot e (Ne.symm nTe)).trans ge
  refine entry_on (s := { s with heap:=_ }) af ff1 fL ge1 gd gz fun h' x => ?_
  obtain ⟨n1,n2,n3,n4⟩:=x.noted kb1 be ff1 gd gz g0 ge1
  exact k h' ⟨n1,be,n2,n3⟩ (fun b o q nf=>n4 b o ((ot b (nr b o q nf)).trans q) nf) fun y c=>x.ctx gd ge1 (c.other nTe)
theorem flight_off {base:Heap} {l:List Env} {e:Addr} {cls a0 m:Value} {Q:Unit→Shared→Prop} (kb:base.StaysIn s.heap) (be:base.get? e=none) (ff:s.heap.FunFrames base l) (tr:s.heap.TracedAtW base e cls a0 m)
    (k:∀ h',Heap.FlyingW base l e cls a0 h'→s.heap.UpToSlots h'→(∀ y,F2 s.heap e y→F2 h' e y)→Q () { s with heap:=h' }):wpAny M A (setFlight (.ref e) none) Q E s:=by
  obtain ⟨oe,vs,Tr,oT,ts,ge,gc,gd,g1,bT,nTe,gT,dT,g3⟩:=tr
  have z3:=(Array.getElem?_eq_some_iff.mp g3).1
  have ot:∀ b,b≠Tr→(s.heap.update Tr (Obj.mapFields (·.setIfInBounds 3 ((none:Option Addr).elim Value.none fun f=>rawInt f)))).get? b=s.heap.get? b:=fun b n=>Heap.get?_update_other _ _ (Ne.symm n)
  have nr:∀ b o,s.heap.get? b=some o→(∀ ws,o.data ≠ .fields ws)→b≠Tr:=fun b o q nf z=>by
    rw [z,gT] at q
    cases q
    exact nf ts dT
  unfold setFlight
  refine wpAny_bind (wpAny_field ge gd g1 ?_)
  rw [if_pos (show (Value.ref Tr != Value.none)=true by simp)]
  refine wpAny_setField gT dT z3 (k _ ⟨fun b o q=>(ot b fun z=>by rw [z,bT] at q;cases q).trans (kb b o q),be,ff.of_keeps fun b o q nf=>⟨o,(ot b (nr b o q nf)).trans q,rfl⟩,?_⟩ (fun b o q nf=>⟨o.slots,(ot b (nr b o q nf)).trans q⟩) fun y c=>c.other nTe)
  exact ⟨oe,vs,Tr,_,_,(ot e (Ne.symm nTe)).trans ge,gc,gd,g1,bT,nTe,Heap.get?_update_self _ gT (Obj.isFreed_of_fields (Obj.data_mapFields dT _)),Obj.data_mapFields dT _,by simp [z3]⟩
theorem leave_on {base:Heap} {env:Env} {outer:List Env} {L e:Addr} {cls a0:Value} {Q:Unit→Shared→Prop} (af:A.frames=some (env :: outer)) (fL:env.frame=some L) (fl:Heap.FlyingW base (env :: outer) e cls a0 s.heap)
    (k:∀ h',Heap.FlyingW base outer e cls a0 h'→s.heap.UpToSlots h'→(∀ y,F2 s.heap e y→F2 h' e y)→Q () { s with heap:=h' }):wpAny M A (leaving env (.ref e)) Q E s:=by
  unfold leaving
  refine wpAny_bind (note_on af fL fl fun h1 hh sl c1 => ?_)
  obtain ⟨n1,n2,n3,n4⟩:=hh
  refine flight_off (s := { s with heap:=h1 }) n1 n2 n3 n4 fun h2 f2 sl2 c2 => ?_
  obtain ⟨m1,m2,⟨_,_,m3⟩,m4⟩:=f2
  exact k h2 ⟨m1,m2,m3,m4⟩ (sl.trans sl2) fun y c=>c2 y (c1 y c)
end
end L2
namespace L2
open PySem PySem.Spec PyProof.Rows

section
variable {P:Program} {w:World} {H H':Hp} {h h':Heap} {a:Addr} {o:HO}
end
theorem Un.fly {fs:List Addr} {L:Addr} {H₀ H H':Hp} {h0 h h1 h2 B:Heap} (U1:Un fs [] H₀ H h0 h) (U2:Un (L :: fs) [] H H' h h1) (hL:h0.get? L=none)
    (cov:∀ b o,h.get? b=some o→b ∉ L :: fs→∃ o',B.get? b=some o') (k1:∀ b o,B.get? b=some o→h1.get? b=some o) (k2:∀ b o,B.get? b=some o→h2.get? b=some o)
    (sl:h1.UpToSlots h2) (nf:∀ b∈fs,∃ o,h1.get? b=some o∧∀ vs,o.data ≠ .fields vs):Un fs [] H₀ H' h0 h2:=by
  have nL:∀ b o,h0.get? b=some o→b ∉ fs→b ∉ L :: fs:=fun b o q hb z=>by
    rcases List.mem_cons.mp z with z | z
    · rw [z,hL] at q;cases q
    · exact hb z
  refine ⟨fun b o q n hb hx => ?_,fun b o q n hb hx => ?_,fun b o q n hx => ?_,fun b o q hx => ?_,fun b xs q=>U2.tups _ _ (U1.tups _ _ q),fun b o u q=>U2.frzs _ _ _ (U1.frzs _ _ _ q),fun b ps q => ?_⟩
  · have q1:=U1.keep b o q n hb hx
    have q2:=U2.keep b o q1 (U1.free b o q n hx) (nL b o q hb) hx
    obtain ⟨o',e⟩:=cov b o q1 (nL b o q hb)
    have e1:=k1 _ _ e
    rw [q2] at e1
    cases e1
    exact k2 _ _ e
  · obtain ⟨s1,q1⟩:=U1.slot b o q n hb hx
    obtain ⟨s2,q2⟩:=U2.slot b _ q1 (U1.free b o q n hx) (List.mem_cons_of_mem _ hb) hx
    obtain ⟨ob,q3,d⟩:=nf b hb
    rw [q2] at q3
    cases q3
    obtain ⟨s4,q4⟩:=sl b _ q2 d
    exact ⟨s4,q4⟩
  · obtain ⟨o1,q1⟩:=U1.there b o q hx
    exact U2.free b o1 q1 (U1.free b o q n hx) hx
  · by_cases hb:b∈fs
    · obtain ⟨ob,q3,d⟩:=nf b hb
      obtain ⟨s4,q4⟩:=sl b _ q3 d
      exact ⟨_,q4⟩
    · obtain ⟨o1,q1⟩:=U1.there b o q hx
      obtain ⟨o',e⟩:=cov b o1 q1 (nL b o q hb)
      exact ⟨_,k2 _ _ e⟩
  · obtain ⟨m1,e1⟩:=U1.tbls b ps q
    obtain ⟨m2,e2⟩:=U2.tbls b _ e1
    exact ⟨m1 ++ m2,by rw [e2,Array.append_assoc]⟩

noncomputable def CXE (P:Program) (w:World):CXT:=fun outer H s E e s'=>∃ (ea C:Addr) (a0:Value) (B:Heap) (H':Hp),e = .ref ea∧Heap.FlyingW B outer ea (.ref C) a0 s'.heap∧s'.os=s.os∧AllBare s'.gens ∧
  HOk P w H' B∧Un (frs outer) [] H H' s.heap s'.heap∧(∀ b o,s.heap.get? b=some o→b ∉ frs outer→∃ o',B.get? b=some o')∧∃ m:Option Addr,(m=none→Ctx0 s'.heap ea)∧E (.ref C) m H'

section
variable {P:Program} {w:World} {K:PySem.W.Frag} {mg:Str→Option Value} {base:Heap} {N:List Str} {qual:Str} {scope:Scope} {f:Addr} {cdv:Value} {A:Around} {outer:List Env} {s0 s:Shared} {H0 H:Hp} {E E':XK}
  {pins:List (Addr × Obj)} {σ : St} {CX:CXT}
theorem stack_frs {e:Env} {L:Addr} {l:List Env} (h:e.frame=some L):frs (e :: l)=L :: frs l:=by
  unfold frs
  rw [List.filterMap_cons,h]
theorem passE (hE:∀ c m H',E' c m H'→E c m H'):Passes (CXE P w) (cxOf (CXE P w) P w K mg base N qual scope f cdv A outer s0 H0 E) E':=by
  intro pins σ H s e s' I h
  obtain ⟨ea,C,a0,B,H',rfl,fl,os,bare,hok,un,cov,m,hm,q⟩:=h
  have es:frs (envOfC qual scope s0.heap.objs.size f cdv :: outer)=s0.heap.objs.size :: frs outer:=stack_frs rfl
  have Ib:Un (frs outer) [] H0 H s0.heap s.heap:=I.base
  have un':Un (s0.heap.objs.size :: frs outer) [] H H' s.heap s'.heap:=by rw [← es];exact un
  have cov':∀ b o,s.heap.get? b=some o→b ∉ s0.heap.objs.size :: frs outer→∃ o',B.get? b=some o':=fun b o z hb=>cov b o z (by show b ∉ frs (envOfC qual scope s0.heap.objs.size f cdv :: outer);rw [es];exact hb)
  show wpAny _ _ (leaving _ _) _ _ _
  refine leave_on I.ok.frames rfl fl fun h'' x1 x2 x3 => ?_
  refine ⟨ea,C,a0,B,H',rfl,x1,os.trans I.os,bare,hok,?_,?_,m,fun z=>x3 _ (hm z),hE _ _ _ q⟩
  · refine Un.fly Ib un' (Heap.get?_none_of_le (Nat.le_refl _)) cov' fl.1 x1.1 x2 fun b hb => ?_
    obtain ⟨_,o,z,d⟩:=fl.2.2.1.mem (b:=b) (by show b∈frs (envOfC qual scope s0.heap.objs.size f cdv :: outer);rw [es];exact List.mem_cons_of_mem _ hb)
    exact ⟨o,z,d⟩
  · intro b o z hb
    obtain ⟨o1,z1⟩:=Ib.there b o z (by simp)
    refine cov' b o1 z1 fun hm => ?_
    rcases List.mem_cons.mp hm with y | y
    · rw [y,Heap.get?_none_of_le (Nat.le_refl _)] at z;cases z
    · exact hb y
end

end L2
namespace L2
open PySem PySem.Spec PyProof.Rows PySem.W

section
variable {prog:Program} {w:World} {A:Around} {E:Value→Shared→Prop} {h:Heap} {g:Array GenState} {d:Drawn} {t:Nat} {os:OsState} {a:Addr} {o:Obj}
  {nm q:Str} {C N:Addr} {bs bm:List Value} {hdct:Bool} {sn:List Str} {sub:List Value} {ab:Bool} {col:Option Bool} {dd:Option Addr} {k0 k1 k2 k3 k5:Option Value} {newId:String}





end
end L2
namespace L2
open PySem PySem.Spec PyProof.Rows

section
variable {X:Cx} {pins:List (Addr × Obj)} {σ : St} {H:Hp} {s:Shared} {xe:Value→Shared→Prop} {A:Around}
end
section
variable {X:Cx} {pins:List (Addr × Obj)} {σ : St} {H0 H':Hp} {s0 s':Shared} {ea C:Addr} {a0:Value} {B h5:Heap} {env:Env} {outer:List Env}
end

section
variable {X:Cx} {k:Nat} {f:Addr} {fd:FuncData} {ps:List Str} {sp:Sp} {dvs:List V} {ds:List Value} {x:Str} {p pos:Pos} {e:Expr} {es:List Expr} {t:TA}
end


end L2
namespace L2
open PySem PySem.Spec PyProof.Rows

section
variable {X:Cx}
theorem pe_globI {x:Str} {i:Int} {pos:Pos} (h:∃ t,X.mg x=some (.int i t)) (hg:Gl X x) (hd:(x == ("__debug__" : Str))=false:=by decide):PE X (.Name x pos) (tC (.int i)) :=
  let ⟨t,e⟩:=h;pe_glob hg e ⟨t,rfl⟩ hd
end

theorem Fun.okE {P:Program} {w:World} {K:PySem.W.Frag} {mg:Str→Option Value} {base:Heap} {x qual:Str} {st:Stmt} {f:Addr} {fd:FuncData} {N ps:List Str} {k:Nat} {sp:Sp} (F:Fun K x qual st f fd) (S:FnScope N ps (defScope st)) (len:∀ vs H Q E,sp vs H Q E→vs.length=ps.length)
    (hbody:∀ (cdv:Value) (A:Around) (outer:List Env) (s:Shared) (H:Hp) (vs:List V) (Q:VK) (E:XK),Room k (A.deeper (envOfC qual (defScope st) s.heap.objs.size f cdv))→sp vs H Q E →
      ∃ t,PSs (cxOf (CXE P w) P w K mg base N qual (defScope st) f cdv A outer s H E) (defBody st) t∧t { nx:=fun _ H'=>Q .non H',rt:=Q } (start N vs) H):FnOk P w K mg base (CXE P w) (k+1) f fd ps sp:=by
  obtain ⟨oc,od,kV,doc,pm,an,cdv,ct,osl,rfl,lk,hcd⟩:=F.ex
  exact fn_of lk hcd S len fun A outer s H vs Q E hr hsp=>hbody cdv A outer s H vs Q E hr hsp
structure HasM (P:Program) (w:World) (K:PySem.W.Frag) (mg:Str→Option Value) (base:Heap) (k:Nat) (C:Addr) (m:Str) (ps:List Str) (sp:Sp):Prop where
  ex:∃ f fd,FnOk P w K mg base (CXE P w) k f fd ps sp∧Meth K C m f∧Binds K fd ps []
structure HasC (P:Program) (w:World) (K:PySem.W.Frag) (mg:Str→Option Value) (base:Heap) (k:Nat) (x:Str) (C:Addr) (ps:List Str) (sp:Sp):Prop where
  ex:∃ f fd,FnOk P w K mg base (CXE P w) k f fd ps sp∧mg x=some (.ref C)∧Mk K C f∧Binds K fd ps []
structure DefM (K:PySem.W.Frag) (C:Addr) (m qual:Str) (st:Stmt) (ps:List Str):Prop where
  ex:∃ f fd,Fun K m qual st f fd∧Meth K C m f∧Binds K fd ps []
structure DefC (K:PySem.W.Frag) (mg:Str→Option Value) (x:Str) (C:Addr) (qual:Str) (st:Stmt) (ps:List Str):Prop where
  ex:∃ f fd,Fun K "__init__" qual st f fd∧mg x=some (.ref C)∧Mk K C f∧Binds K fd ps []
section
variable {P:Program} {w:World} {K:PySem.W.Frag} {mg:Str→Option Value} {base:Heap} {x m qual:Str} {C:Addr} {st:Stmt} {N ps:List Str} {k:Nat} {sp:Sp}
theorem DefM.has (D:DefM K C m qual st ps) (S:FnScope N ps (defScope st)) (len:∀ vs H Q E,sp vs H Q E→vs.length=ps.length)
    (hbody:∀ (f:Addr) (cdv:Value) (A:Around) (outer:List Env) (s:Shared) (H:Hp) (vs:List V) (Q:VK) (E:XK),Room k (A.deeper (envOfC qual (defScope st) s.heap.objs.size f cdv))→sp vs H Q E →
      ∃ t,PSs (cxOf (CXE P w) P w K mg base N qual (defScope st) f cdv A outer s H E) (defBody st) t∧t { nx:=fun _ H'=>Q .non H',rt:=Q } (start N vs) H):HasM P w K mg base (k+1) C m ps sp:=by
  obtain ⟨f,fd,F,hm,hb⟩:=D.ex
  exact ⟨f,fd,F.okE S len (hbody f),hm,hb⟩
theorem DefC.has (D:DefC K mg x C qual st ps) (S:FnScope N ps (defScope st)) (len:∀ vs H Q E,sp vs H Q E→vs.length=ps.length)
    (hbody:∀ (f:Addr) (cdv:Value) (A:Around) (outer:List Env) (s:Shared) (H:Hp) (vs:List V) (Q:VK) (E:XK),Room k (A.deeper (envOfC qual (defScope st) s.heap.objs.size f cdv))→sp vs H Q E →
      ∃ t,PSs (cxOf (CXE P w) P w K mg base N qual (defScope st) f cdv A outer s H E) (defBody st) t∧t { nx:=fun _ H'=>Q .non H',rt:=Q } (start N vs) H):HasC P w K mg base (k+1) x C ps sp:=by
  obtain ⟨f,fd,F,hm,hb⟩:=D.ex
  exact ⟨f,fd,F.okE S len (hbody f),hm,hb⟩
end
section
variable {X:Cx} {k k':Nat} {x m:Str} {C:Addr} {ps:List Str} {sp:Sp} {p pos apos:Pos} {e o:Expr} {es:List Expr} {ta:TE} {t:TA} {E:XK}
theorem pe_mE {pl:Sem Bool} (h:HasM X.prog X.w X.K X.mg X.base k C m ps sp) (c:Cls X.K C) (hr:Room k' X.A) (hk:k≤k') (hx:Passes (CXE X.prog X.w) X E) (he:PE X o ta) (ha:PA X (e :: es) t)
    (hst:starEach (e :: es) X.env=(false,eval e X.env) :: starEach es X.env:=by rfl) (hpl:(backTo pos (starEach es X.env)).any (·.1)=false:=by rfl)
    (ht:eval (.Call (.Attribute o m apos) (e :: es) [] pos) X.env=(do
      let ov ← eval o X.env
      standAt apos.atName
      let (f,first) ← holding [ov] (getMethod ov m pl)
      callWith pos f first (backTo pos (starEach (e :: es) X.env)) (backToKw pos (keywordEach [] X.env))):=by rfl) :
    PE X (.Call (.Attribute o m apos) (e :: es) [] pos) (tMeth C m sp [] E ta t):=by
  obtain ⟨f,fd,F,hm,hb⟩:=h.ex
  exact pe_meth he c hm F (hr.mono hk) hb .nil hx ha hst hpl ht
theorem pe_mE0 {pl:Sem Bool} (h:HasM X.prog X.w X.K X.mg X.base k C m ps sp) (c:Cls X.K C) (hr:Room k' X.A) (hk:k≤k') (hx:Passes (CXE X.prog X.w) X E) (he:PE X o ta)
    (ht:eval (.Call (.Attribute o m apos) [] [] pos) X.env=(do
      let ov ← eval o X.env
      standAt apos.atName
      let (f,first) ← holding [ov] (getMethod ov m pl)
      callWith pos f first (backTo pos (starEach [] X.env)) (backToKw pos (keywordEach [] X.env))):=by rfl) :
    PE X (.Call (.Attribute o m apos) [] [] pos) (tMeth C m sp [] E ta tNil):=by
  obtain ⟨f,fd,F,hm,hb⟩:=h.ex
  exact pe_meth0 he c hm F (hr.mono hk) hb .nil hx ht
theorem pe_makeE (h:HasC X.prog X.w X.K X.mg X.base k x C ps sp) (hr:Room k' X.A) (hk:k+1≤k') (hx:Passes (CXE X.prog X.w) X E) (hg:Gl X x) (ha:PA X (e :: es) t) (hdb:(x == ("__debug__" : Str))=false:=by decide)
    (he:starEach (e :: es) X.env=(false,eval e X.env) :: starEach es X.env:=by rfl) (hpl:(backTo pos (starEach es X.env)).any (·.1)=false:=by rfl) :
    PE X (.Call (.Name x p) (e :: es) [] pos) (tMake C sp [] E t):=by
  obtain ⟨f,fd,F,hm,M,hb⟩:=h.ex
  exact pe_make M F (hr.mono hk) hg hm hb .nil hx ha hdb he hpl
end
end L2
namespace L2
open PySem PySem.Spec PyProof.Rows
end L2
namespace L2
open PySem PySem.Spec PyProof.Rows
section
variable {X:Cx}
inductive J_call_intB (xs:List V) (H:Hp) (Q:VK):Prop
  | mk:∀ b,(xs = [.bl b])→(Q (.int (if b then 1 else 0)) H)→J_call_intB xs H Q
theorem call_intB:CallR X (.type "int") (fun xs H Q=>J_call_intB xs H Q):=by
  intro pins s σ H xs us Q I r h
  obtain ⟨b,rfl,q⟩:=h
  obtain ⟨u,rfl,rx⟩:=Vals.one r
  cases (show u=Value.bool b from rx)
  exact call_int_bool ⟨.int _,H,I.tok _,⟨_,rfl⟩,q⟩
end
theorem comp_tupS {K:PySem.W.Frag} {a:Addr} {xs ys:List V} {te:TE} {σ : St} {caps:List (Str × Nat)} {H:Hp} {Q:VK} (hS:SqT K H a xs) (hz:xs.length≤1000) (hy:ys.length=xs.length)
    (hel:∀ (i:Nat) (x y:V),xs[i]? = some x→ys[i]? = some y→∀ H',Same H H'→∀ Q':VK,(∀ H'',Same H' H''→Q' y H'')→te (some x :: capt σ caps) H' Q') (hq:∀ D H',H D=none→Same H H'→H' D=some (.lst ys)→Q (.ref D) H') :
    CompBody (Itt K a) (gName 0) te (List.replicate 1 none ++ capt σ caps) H Q:=by
  intro D hD
  refine ⟨fun i m τ zs H'=>m=xs.length - i∧i≤xs.length∧(∃ o, τ = o :: capt σ caps)∧zs=ys.take i∧Same H H'∧H' D=some (.lst zs),⟨xs.length,by simp,Nat.zero_le _,⟨none,rfl⟩,by simp,same_new hD _,upd_same⟩,?_⟩
  rintro i m τ zs H' ⟨rfl,hi,⟨o,rfl⟩,rfl,sm,hDl⟩
  refine ⟨hDl,?_⟩
  by_cases hlt:i < xs.length
  · refine .inr ⟨⟨xs,xs[i],sm.tup hS,by simp [hlt]⟩,?_,fun x H'' y => ?_⟩
    · rw [List.length_take]
      exact small1000 (by omega)
    obtain ⟨e,y⟩:=y
    subst e
    have hx:=y xs (sm.tup hS)
    have hyi:ys[i]? = some ys[i]:=List.getElem?_eq_getElem (by omega)
    show te (some x :: capt σ caps) _ _
    refine hel i x ys[i] hx hyi _ sm _ (fun H2 s2 => ?_)
    refine ⟨s2 _ _ hDl,xs.length - (i+1),by omega,rfl,hlt,⟨_,rfl⟩,?_,(sm.trans s2).put hD,?_⟩
    · rw [List.take_add_one,hyi];rfl
    · rw [upd_same]
  · have e:i=xs.length:=by omega
    subst e
    refine .inl ⟨⟨xs,sm.tup hS,Nat.le_refl _⟩,?_⟩
    rw [← hy,List.take_length] at hDl
    exact hq D H' hD sm hDl
end L2
namespace L2
open PySem PySem.Spec PyProof.Rows
inductive StrsC:List Expr→List Str→Prop where
  | nil:StrsC [] []
  | cons {x:Str} {j:Nat} {p:Pos} {es:List Expr} {L:List Str} (h:StrsC es L):StrsC (.Constant (.str x) j p :: es) (x :: L)
noncomputable def tStrs (L:List Str):TA:=fun _ H Q=>Q (L.map V.str) H
theorem pa_strs {X:Cx} {es:List Expr} {L:List Str} (h:StrsC es L):PA X es (tStrs L):=by
  induction h with
  | nil=>exact pa_nil
  | cons h ih=>exact pa_cons pe_str ih
end L2
namespace L2
open PySem PySem.Spec PyProof.Rows

inductive D where
  | non | int (i:Int) | str (x:Str) | tup (ds:List D) | lst (ds:List D)
noncomputable instance:DecidableEq D:=fun _ _=>Classical.propDecidable _
mutual
noncomputable def D.deep:D→Nat
  | .tup ds=>D.deeps ds+1
  | .lst ds=>D.deeps ds+1
  | .non=>0
  | .int _=>0
  | .str _=>0
noncomputable def D.deeps:List D→Nat
  | []=>0
  | d :: ds=>max d.deep (D.deeps ds)
end
theorem deeps_le:∀ {ds:List D} {d:D},d∈ds→d.deep≤D.deeps ds
  | e :: ds,d,h=>by
    rw [D.deeps]
    rcases List.mem_cons.mp h with rfl | h
    · omega
    · have:=deeps_le h;omega
mutual
noncomputable def DenR (h:Heap):D→Value→Prop
  | .non,u=>u=Value.none
  | .int i,u=>(∃ t,u=Value.int i t)∨∃ b,u=Value.bool b∧i=(if b then 1 else 0)
  | .str x,u=>∃ t,u=Value.str x t
  | .tup ds,u=>∃ a us,u=Value.ref a∧h.IsTuple a us.toArray∧DenRs h ds us
  | .lst ds,u=>∃ a us,u=Value.ref a∧h.IsList a us.toArray∧DenRs h ds us
noncomputable def DenRs (h:Heap):List D→List Value→Prop
  | [],us=>us = []
  | d :: ds,us=>∃ u us',us=u :: us'∧DenR h d u∧DenRs h ds us'
end
mutual
noncomputable def Den (H:Hp):D→V→Prop
  | .non,v=>v = .non
  | .int i,v=>v = .int i∨∃ b,v = .bl b∧i=(if b then 1 else 0)
  | .str x,v=>v = .str x
  | .tup ds,v=>∃ a vs,v = .ref a∧H a=some (.tup vs)∧Dens H ds vs
  | .lst ds,v=>∃ a vs,v = .ref a∧H a=some (.lst vs)∧Dens H ds vs
noncomputable def Dens (H:Hp):List D→List V→Prop
  | [],vs=>vs = []
  | d :: ds,vs=>∃ v vs',vs=v :: vs'∧Den H d v∧Dens H ds vs'
end
theorem denRs_len {h:Heap}:∀ {ds:List D} {us:List Value},DenRs h ds us→us.length=ds.length
  | [],us,r=>by rw [DenRs] at r;subst r;rfl
  | d :: ds,us,r=>by
    rw [DenRs] at r
    obtain ⟨u,us',rfl,_,r⟩:=r
    rw [List.length_cons,List.length_cons,denRs_len r]
theorem denRs_at {h:Heap}:∀ {ds:List D} {us:List Value} {j:Nat} {d:D},DenRs h ds us→ds[j]? = some d→∃ u,us[j]? = some u∧DenR h d u
  | [],us,j,d,r,e=>by simp at e
  | c :: ds,us,0,d,r,e=>by
    rw [DenRs] at r
    obtain ⟨u,us',rfl,r1,_⟩:=r
    simp at e;subst e
    exact ⟨u,rfl,r1⟩
  | c :: ds,us,j+1,d,r,e=>by
    rw [DenRs] at r
    obtain ⟨u,us',rfl,_,r⟩:=r
    obtain ⟨u',e',r'⟩:=denRs_at (j:=j) (d:=d) r (by simpa using e)
    exact ⟨u',by simpa using e',r'⟩
theorem dens_cons {H:Hp} {d:D} {v:V} {ds:List D} {vs:List V} (r:Den H d v) (q:Dens H ds vs):Dens H (d :: ds) (v :: vs):=by
  rw [Dens];exact ⟨v,vs,rfl,r,q⟩
theorem dens_nil {H:Hp}:Dens H [] []:=by rw [Dens]
mutual
theorem den_raw {P:Program} {w:World} {H:Hp} {h:Heap} (ok:HOk P w H h):∀ {d:D} {v:V} {u:Value},Den H d v→RelV v u→DenR h d u
  | .non,v,u,r,q=>by rw [Den] at r;subst r;rw [DenR];exact q
  | .int i,v,u,r,q=>by
    rw [Den] at r
    rw [DenR]
    rcases r with rfl | ⟨b,rfl,e⟩
    · exact .inl q
    · exact .inr ⟨b,q,e⟩
  | .str x,v,u,r,q=>by rw [Den] at r;subst r;rw [DenR];exact q
  | .tup ds,v,u,r,q=>by
    rw [Den] at r
    obtain ⟨a,vs,rfl,e,r⟩:=r
    rw [DenR]
    obtain ⟨_,its,rv,p⟩:=(show ObjOk P w H h a (.tup vs) from ok a _ e)
    exact ⟨a,its,q,p.tup,dens_raw ok r rv⟩
  | .lst ds,v,u,r,q=>by
    rw [Den] at r
    obtain ⟨a,vs,rfl,e,r⟩:=r
    rw [DenR]
    obtain ⟨_,its,n,rv,p⟩:=(show ObjOk P w H h a (.lst vs) from ok a _ e)
    exact ⟨a,its,q,⟨_,p,rfl,n,rfl⟩,dens_raw ok r rv⟩
theorem dens_raw {P:Program} {w:World} {H:Hp} {h:Heap} (ok:HOk P w H h):∀ {ds:List D} {vs:List V} {us:List Value},Dens H ds vs→Vals vs us→DenRs h ds us
  | [],vs,us,r,q=>by rw [Dens] at r;subst r;cases q;rw [DenRs]
  | d :: ds,vs,us,r,q=>by
    rw [Dens] at r
    obtain ⟨v,vs',rfl,r1,r⟩:=r
    cases q with
    | cons q1 q2 =>
      rw [DenRs]
      exact ⟨_,_,rfl,den_raw ok r1 q1,dens_raw ok r q2⟩
end
theorem tup_seq {h:Heap} {a:Addr} {x y:Array Value} (p:h.IsTuple a x) (q:h.IsTuple a y):x=y:=by
  obtain ⟨o,e,_,n,d⟩:=p
  obtain ⟨o',e',_,n',d'⟩:=q
  rw [e] at e';cases e'
  rw [d] at d'
  injection d'
theorem lst_seq {h:Heap} {a:Addr} {x y:Array Value} (p:h.IsList a x) (q:h.IsList a y):x=y:=by
  obtain ⟨o,e,_,n,d⟩:=p
  obtain ⟨o',e',_,n',d'⟩:=q
  rw [e] at e';cases e'
  rw [d] at d'
  injection d'
theorem lst_tup {h:Heap} {a:Addr} {x y:Array Value} (p:h.IsList a x) (q:h.IsTuple a y):False:=by
  obtain ⟨o,e,c,n,d⟩:=p
  obtain ⟨o',e',c',n',d'⟩:=q
  rw [e] at e';cases e'
  rw [c] at c'
  exact absurd (Value.type.inj c') (by decide)
mutual
theorem denR_inj {h:Heap}:∀ {d e:D} {u:Value},DenR h d u→DenR h e u→d=e
  | .non,e,u,r,q=>by
    rw [DenR] at r;subst r
    cases e with
    | non=>rfl
    | int i=>rw [DenR] at q;rcases q with ⟨t,z⟩ | ⟨b,z,_⟩ <;> cases z
    | str x=>rw [DenR] at q;obtain ⟨t,z⟩:=q;cases z
    | tup es=>rw [DenR] at q;obtain ⟨a,us,z,_⟩:=q;cases z
    | lst es=>rw [DenR] at q;obtain ⟨a,us,z,_⟩:=q;cases z
  | .int i,e,u,r,q=>by
    rw [DenR] at r
    cases e with
    | non=>rw [DenR] at q;subst q;rcases r with ⟨t,z⟩ | ⟨b,z,_⟩ <;> cases z
    | int j =>
      rw [DenR] at q
      rcases r with ⟨t,rfl⟩ | ⟨b,rfl,hb⟩ <;> rcases q with ⟨t',z⟩ | ⟨b',z,hb'⟩ <;> cases z
      · rfl
      · rw [hb,hb']
    | str x=>rw [DenR] at q;obtain ⟨t,rfl⟩:=q;rcases r with ⟨t,z⟩ | ⟨b,z,_⟩ <;> cases z
    | tup es=>rw [DenR] at q;obtain ⟨a,us,rfl,_⟩:=q;rcases r with ⟨t,z⟩ | ⟨b,z,_⟩ <;> cases z
    | lst es=>rw [DenR] at q;obtain ⟨a,us,rfl,_⟩:=q;rcases r with ⟨t,z⟩ | ⟨b,z,_⟩ <;> cases z
  | .str x,e,u,r,q=>by
    rw [DenR] at r
    obtain ⟨t,rfl⟩:=r
    cases e with
    | non=>rw [DenR] at q;cases q
    | int i=>rw [DenR] at q;rcases q with ⟨t,z⟩ | ⟨b,z,_⟩ <;> cases z
    | str x=>rw [DenR] at q;obtain ⟨t,z⟩:=q;cases z;rfl
    | tup es=>rw [DenR] at q;obtain ⟨a,us,z,_⟩:=q;cases z
    | lst es=>rw [DenR] at q;obtain ⟨a,us,z,_⟩:=q;cases z
  | .tup ds,e,u,r,q=>by
    rw [DenR] at r
    obtain ⟨a,us,rfl,p,r⟩:=r
    cases e with
    | non=>rw [DenR] at q;cases q
    | int i=>rw [DenR] at q;rcases q with ⟨t,z⟩ | ⟨b,z,_⟩ <;> cases z
    | str x=>rw [DenR] at q;obtain ⟨t,z⟩:=q;cases z
    | tup es =>
      rw [DenR] at q;obtain ⟨a',us',z,p',q⟩:=q;cases z
      have e:us=us':=by have:=tup_seq p p';simpa using this
      subst e
      rw [denRs_inj r q]
    | lst es=>rw [DenR] at q;obtain ⟨a',us',z,p',_⟩:=q;cases z;exact absurd p (fun p=>lst_tup p' p)
  | .lst ds,e,u,r,q=>by
    rw [DenR] at r
    obtain ⟨a,us,rfl,p,r⟩:=r
    cases e with
    | non=>rw [DenR] at q;cases q
    | int i=>rw [DenR] at q;rcases q with ⟨t,z⟩ | ⟨b,z,_⟩ <;> cases z
    | str x=>rw [DenR] at q;obtain ⟨t,z⟩:=q;cases z
    | tup es=>rw [DenR] at q;obtain ⟨a',us',z,p',_⟩:=q;cases z;exact absurd p (fun p=>lst_tup p p')
    | lst es =>
      rw [DenR] at q;obtain ⟨a',us',z,p',q⟩:=q;cases z
      have e:us=us':=by have:=lst_seq p p';simpa using this
      subst e
      rw [denRs_inj r q]
theorem denRs_inj {h:Heap}:∀ {ds es:List D} {us:List Value},DenRs h ds us→DenRs h es us→ds=es
  | [],es,us,r,q=>by
    rw [DenRs] at r;subst r
    cases es with
    | nil=>rfl
    | cons e es=>rw [DenRs] at q;obtain ⟨u,us',z,_⟩:=q;cases z
  | d :: ds,es,us,r,q=>by
    rw [DenRs] at r
    obtain ⟨u,us',rfl,r1,r⟩:=r
    cases es with
    | nil=>rw [DenRs] at q;cases q
    | cons e es =>
      rw [DenRs] at q;obtain ⟨u',us'',z,q1,q⟩:=q
      cases z
      rw [denR_inj r1 q1,denRs_inj r q]
end
theorem dec_true {p:Prop} [Decidable p] {b:Bool} (h:p↔b=true):b=decide p:=by
  cases b with
  | true=>exact (decide_eq_true (h.mpr rfl)).symm
  | false=>exact (decide_eq_false fun z=>Bool.false_ne_true (h.mp z)).symm
theorem all_eq (ds es:List D):((List.range (min ds.length es.length)).all (fun j=>decide (ds[j]? = es[j]?)) && ds.length == es.length)=decide (ds=es):=by
  refine dec_true ⟨fun h=>by subst h;simp,fun h => ?_⟩
  rw [Bool.and_eq_true,List.all_eq_true] at h
  have hl:ds.length=es.length:=eq_of_beq h.2
  refine List.ext_getElem? fun j => ?_
  by_cases hj:j < ds.length
  · exact of_decide_eq_true (h.1 j (List.mem_range.mpr (by omega)))
  · rw [List.getElem?_eq_none (by omega),List.getElem?_eq_none (by omega)]
theorem all_eq' (ds es:List D) (hl:ds.length=es.length):(List.range ds.length).all (fun j=>decide (ds[j]? = es[j]?))=decide (ds=es):=by
  have:=all_eq ds es
  rw [← hl,Nat.min_self] at this
  simpa using this
section
open SeqAt
variable {A:Around} {s:Shared}
theorem eqAt_cast {u v:Value} {b c:Bool} (h:EqAt A s u v b) (e:b=c):EqAt A s u v c:=e ▸ h
theorem eqAt_D:∀ (n:Nat) {d e:D} {A:Around} {u v:Value},d.deep≤n→DenR s.heap d u→DenR s.heap e v→A.units+n < cLine→EqAt A s u v (decide (d=e)):=by
  intro n
  induction n with
  | zero => ?_
  | succ n ih => ?_
  all_goals intro d e A u v hn r q hu
  all_goals have hu0:A.units < cLine:=by omega
  all_goals cases d with
    | non =>
      rw [DenR] at r;subst r
      cases e with
      | non=>rw [DenR] at q;subst q;exact eqAt_cast (EqAt.same _) (decide_eq_true rfl).symm
      | int j =>
        rw [DenR] at q
        rcases q with ⟨t,rfl⟩ | ⟨b,rfl,_⟩
        · exact eqAt_cast (EqAt.none_int j t) (decide_eq_false (fun z=>nomatch z)).symm
        · exact eqAt_cast (EqAt.none_bool b) (decide_eq_false (fun z=>nomatch z)).symm
      | str y=>rw [DenR] at q;obtain ⟨t,rfl⟩:=q;exact eqAt_cast (EqAt.none_str y t) (decide_eq_false (fun z=>nomatch z)).symm
      | tup es=>rw [DenR] at q;obtain ⟨a,us,rfl,p,_⟩:=q;exact eqAt_cast (EqAt.none_tuple p hu0) (decide_eq_false (fun z=>nomatch z)).symm
      | lst es=>rw [DenR] at q;obtain ⟨a,us,rfl,p,_⟩:=q;exact eqAt_cast (EqAt.none_list p hu0) (decide_eq_false (fun z=>nomatch z)).symm
    | int i =>
      rw [DenR] at r
      cases e with
      | non =>
        rw [DenR] at q;subst q
        rcases r with ⟨t,rfl⟩ | ⟨b,rfl,_⟩
        · exact eqAt_cast (EqAt.int_none i t) (decide_eq_false (fun z=>nomatch z)).symm
        · exact eqAt_cast (EqAt.bool_none b) (decide_eq_false (fun z=>nomatch z)).symm
      | int j =>
        rw [DenR] at q
        have key:∀ x y:Int,(x == y)=decide (D.int x=D.int y):=fun x y=>dec_true ⟨fun z=>by cases z;simp,fun z=>by rw [eq_of_beq z]⟩
        rcases r with ⟨t,rfl⟩ | ⟨b,rfl,hb⟩ <;> rcases q with ⟨t',rfl⟩ | ⟨b',rfl,hb'⟩
        · exact eqAt_cast (EqAt.int_int i t j t') (key i j)
        · rw [hb'];exact eqAt_cast (EqAt.int_bool i t b') (key _ _)
        · rw [hb];exact eqAt_cast (EqAt.bool_int b j t') (key _ _)
        · rw [hb,hb'];exact eqAt_cast (EqAt.bool_bool b b') (by rw [← key];cases b <;> cases b' <;> rfl)
      | str y =>
        rw [DenR] at q;obtain ⟨t,rfl⟩:=q
        rcases r with ⟨t',rfl⟩ | ⟨b,rfl,_⟩
        · exact eqAt_cast (EqAt.int_str i t' y t) (decide_eq_false (fun z=>nomatch z)).symm
        · exact eqAt_cast (EqAt.bool_str b y t) (decide_eq_false (fun z=>nomatch z)).symm
      | tup es =>
        rw [DenR] at q;obtain ⟨a,us,rfl,p,_⟩:=q
        rcases r with ⟨t',rfl⟩ | ⟨b,rfl,_⟩
        · exact eqAt_cast (EqAt.int_tuple i t' p hu0) (decide_eq_false (fun z=>nomatch z)).symm
        · exact eqAt_cast (EqAt.bool_tuple b p hu0) (decide_eq_false (fun z=>nomatch z)).symm
      | lst es =>
        rw [DenR] at q;obtain ⟨a,us,rfl,p,_⟩:=q
        rcases r with ⟨t',rfl⟩ | ⟨b,rfl,_⟩
        · exact eqAt_cast (EqAt.int_list i t' p hu0) (decide_eq_false (fun z=>nomatch z)).symm
        · exact eqAt_cast (EqAt.bool_list b p hu0) (decide_eq_false (fun z=>nomatch z)).symm
    | str x =>
      rw [DenR] at r;obtain ⟨t',rfl⟩:=r
      cases e with
      | non=>rw [DenR] at q;subst q;exact eqAt_cast (EqAt.str_none x t') (decide_eq_false (fun z=>nomatch z)).symm
      | int j =>
        rw [DenR] at q
        rcases q with ⟨t,rfl⟩ | ⟨b,rfl,_⟩
        · exact eqAt_cast (EqAt.str_int x t' j t) (decide_eq_false (fun z=>nomatch z)).symm
        · exact eqAt_cast (EqAt.str_bool x t' b) (decide_eq_false (fun z=>nomatch z)).symm
      | str y =>
        rw [DenR] at q;obtain ⟨t,rfl⟩:=q
        exact eqAt_cast (EqAt.str_str x t' y t) (dec_true ⟨fun z=>by cases z;simp,fun z=>by rw [eq_of_beq z]⟩)
      | tup es=>rw [DenR] at q;obtain ⟨a,us,rfl,p,_⟩:=q;exact eqAt_cast (EqAt.str_tuple x t' p hu0) (decide_eq_false (fun z=>nomatch z)).symm
      | lst es=>rw [DenR] at q;obtain ⟨a,us,rfl,p,_⟩:=q;exact eqAt_cast (EqAt.str_list x t' p hu0) (decide_eq_false (fun z=>nomatch z)).symm
    | tup ds => ?_
    | lst ds => ?_
  · rw [D.deep] at hn;omega
  · rw [D.deep] at hn;omega
  · rw [D.deep] at hn
    have r0:=r
    rw [DenR] at r
    obtain ⟨a,us,rfl,p,r⟩:=r
    cases e with
    | non=>rw [DenR] at q;subst q;exact eqAt_cast (EqAt.tuple_none p hu0) (decide_eq_false (fun z=>nomatch z)).symm
    | int j =>
      rw [DenR] at q
      rcases q with ⟨t,rfl⟩ | ⟨b,rfl,_⟩
      · exact eqAt_cast (EqAt.tuple_int j t p hu0) (decide_eq_false (fun z=>nomatch z)).symm
      · exact eqAt_cast (EqAt.tuple_bool b p hu0) (decide_eq_false (fun z=>nomatch z)).symm
    | str y=>rw [DenR] at q;obtain ⟨t,rfl⟩:=q;exact eqAt_cast (EqAt.tuple_str y t p hu0) (decide_eq_false (fun z=>nomatch z)).symm
    | tup es =>
      have q0:=q
      rw [DenR] at q
      obtain ⟨b,us',rfl,p',q⟩:=q
      by_cases hab:a=b
      · subst hab
        rw [denR_inj r0 q0]
        exact eqAt_cast (EqAt.same _) (decide_eq_true rfl).symm
      · refine eqAt_cast (EqAt.of_refs hab (RcAt.tuples (e:=fun j=>decide (ds[j]? = es[j]?)) p p' hu0 fun j h1 h2 => ?_)) ?_
        · have l1:=denRs_len r
          have l2:=denRs_len q
          have h1':j < us.length:=by simpa using h1
          have h2':j < us'.length:=by simpa using h2
          have e1:=List.getElem?_eq_getElem (l:=ds) (i:=j) (by omega)
          have e2:=List.getElem?_eq_getElem (l:=es) (i:=j) (by omega)
          obtain ⟨u,f1,g1⟩:=denRs_at r e1
          obtain ⟨v,f2,g2⟩:=denRs_at q e2
          have z1:us.toArray[j]=u:=by rw [List.getElem?_eq_getElem h1'] at f1;simpa using f1
          have z2:us'.toArray[j]=v:=by rw [List.getElem?_eq_getElem h2'] at f2;simpa using f2
          rw [z1,z2]
          have:=ih (d:=ds[j]) (e:=es[j]) (A:=A.in1) (by have:=deeps_le (List.getElem_mem (l:=ds) (n:=j) (by omega));omega) g1 g2 (by show A.units+1+n < cLine;omega)
          refine eqAt_cast this ?_
          rw [e1,e2]
          exact decide_eq_decide.mpr ⟨fun z=>by rw [z],fun z=>Option.some.inj z⟩
        · have:=all_eq ds es
          simp only [List.size_toArray,denRs_len r,denRs_len q]
          rw [this]
          exact decide_eq_decide.mpr ⟨fun z=>by rw [z],fun z=>by injection z⟩
    | lst es=>rw [DenR] at q;obtain ⟨b,us',rfl,p',_⟩:=q;exact eqAt_cast (EqAt.tuple_list p p' hu0) (decide_eq_false (fun z=>nomatch z)).symm
  · rw [D.deep] at hn
    have r0:=r
    rw [DenR] at r
    obtain ⟨a,us,rfl,p,r⟩:=r
    cases e with
    | non=>rw [DenR] at q;subst q;exact eqAt_cast (EqAt.list_none p hu0) (decide_eq_false (fun z=>nomatch z)).symm
    | int j =>
      rw [DenR] at q
      rcases q with ⟨t,rfl⟩ | ⟨b,rfl,_⟩
      · exact eqAt_cast (EqAt.list_int j t p hu0) (decide_eq_false (fun z=>nomatch z)).symm
      · exact eqAt_cast (EqAt.list_bool b p hu0) (decide_eq_false (fun z=>nomatch z)).symm
    | str y=>rw [DenR] at q;obtain ⟨t,rfl⟩:=q;exact eqAt_cast (EqAt.list_str y t p hu0) (decide_eq_false (fun z=>nomatch z)).symm
    | tup es=>rw [DenR] at q;obtain ⟨b,us',rfl,p',_⟩:=q;exact eqAt_cast (EqAt.list_tuple p p' hu0) (decide_eq_false (fun z=>nomatch z)).symm
    | lst es =>
      have q0:=q
      rw [DenR] at q
      obtain ⟨b,us',rfl,p',q⟩:=q
      have l1:=denRs_len r
      have l2:=denRs_len q
      by_cases hab:a=b
      · subst hab
        rw [denR_inj r0 q0]
        exact eqAt_cast (EqAt.same _) (decide_eq_true rfl).symm
      by_cases hl:ds.length=es.length
      · refine eqAt_cast (EqAt.of_refs hab (RcAt.lists (e:=fun j=>decide (ds[j]? = es[j]?)) p p' (by simp only [List.size_toArray];omega) hu0 fun j h1 h2 => ?_)) ?_
        · have h1':j < us.length:=by simpa using h1
          have h2':j < us'.length:=by simpa using h2
          have e1:=List.getElem?_eq_getElem (l:=ds) (i:=j) (by omega)
          have e2:=List.getElem?_eq_getElem (l:=es) (i:=j) (by omega)
          obtain ⟨u,f1,g1⟩:=denRs_at r e1
          obtain ⟨v,f2,g2⟩:=denRs_at q e2
          have z1:us.toArray[j]=u:=by rw [List.getElem?_eq_getElem h1'] at f1;simpa using f1
          have z2:us'.toArray[j]=v:=by rw [List.getElem?_eq_getElem h2'] at f2;simpa using f2
          rw [z1,z2]
          have:=ih (d:=ds[j]) (e:=es[j]) (A:=A.in1) (by have:=deeps_le (List.getElem_mem (l:=ds) (n:=j) (by omega));omega) g1 g2 (by show A.units+1+n < cLine;omega)
          refine eqAt_cast this ?_
          rw [e1,e2]
          exact decide_eq_decide.mpr ⟨fun z=>by rw [z],fun z=>Option.some.inj z⟩
        · have:=all_eq' ds es hl
          simp only [List.size_toArray,l1]
          rw [this]
          exact decide_eq_decide.mpr ⟨fun z=>by rw [z],fun z=>by injection z⟩
      · refine eqAt_cast (EqAt.of_refs hab (RcAt.lists_lengths p p' (by simp only [List.size_toArray];simp;omega) hu0)) ?_
        exact (decide_eq_false (fun z=>hl (by injection z with z;rw [z]))).symm
end
section
variable {X:Cx}
inductive J_rEqD (x:V) (y:V) (H:Hp) (Q:VK):Prop
  | mk:∀ ds es,(((Den H (.tup ds) x∧Den H (.tup es) y)∨(Den H (.lst ds) x∧Den H (.lst es) y)))→(D.deeps ds≤150)→(Q (.bl (decide (ds=es))) H)→J_rEqD x y H Q
noncomputable def rEqD:R2:=fun x y H Q=>J_rEqD x y H Q
inductive J_rNeD (x:V) (y:V) (H:Hp) (Q:VK):Prop
  | mk:∀ ds es,(((Den H (.tup ds) x∧Den H (.tup es) y)∨(Den H (.lst ds) x∧Den H (.lst es) y)))→(D.deeps ds≤150)→(Q (.bl (!decide (ds=es))) H)→J_rNeD x y H Q
noncomputable def rNeD:R2:=fun x y H Q=>J_rNeD x y H Q
theorem deep_items {A:Around} {s:Shared} {ds es:List D} {us us':List Value} (hu:A.units+151 < cLine) (hd:D.deeps ds≤150) (r:DenRs s.heap ds us) (q:DenRs s.heap es us') (j:Nat) (h1:j < us.toArray.size) (h2:j < us'.toArray.size) :
    SeqAt.EqAt A.in1 s us.toArray[j] us'.toArray[j] (decide (ds[j]? = es[j]?)):=by
  have l1:=denRs_len r
  have l2:=denRs_len q
  have h1':j < us.length:=by simpa using h1
  have h2':j < us'.length:=by simpa using h2
  have e1:=List.getElem?_eq_getElem (l:=ds) (i:=j) (by omega)
  have e2:=List.getElem?_eq_getElem (l:=es) (i:=j) (by omega)
  obtain ⟨u,f1,g1⟩:=denRs_at r e1
  obtain ⟨v,f2,g2⟩:=denRs_at q e2
  have z1:us.toArray[j]=u:=by rw [List.getElem?_eq_getElem h1'] at f1;simpa using f1
  have z2:us'.toArray[j]=v:=by rw [List.getElem?_eq_getElem h2'] at f2;simpa using f2
  rw [z1,z2]
  refine eqAt_cast (eqAt_D 150 (by have:=deeps_le (List.getElem_mem (l:=ds) (n:=j) (by omega));omega) g1 g2 (by show A.units+1+150 < cLine;omega)) ?_
  rw [e1,e2]
  exact decide_eq_decide.mpr ⟨fun z=>by rw [z],fun z=>Option.some.inj z⟩
theorem op_eqD (hu:X.A.units+151 < cLine):OpR X (compareOp .Eq) rEqD:=by
  intro pins s σ H x y v u Q I rx ry h
  obtain ⟨ds,es,hh,hd,q⟩:=h
  have hu0:X.A.units < cLine:=by omega
  rcases hh with ⟨h1,h2⟩ | ⟨h1,h2⟩
  · have g1:=den_raw I.hok h1 rx
    have g2:=den_raw I.hok h2 ry
    rw [DenR] at g1 g2
    obtain ⟨a,us,rfl,p,r⟩:=g1
    obtain ⟨b,us',rfl,p',r'⟩:=g2
    refine SeqAt.eq_tupleAt (e:=fun j=>decide (ds[j]? = es[j]?)) p p' hu0 (deep_items hu hd r r') ?_
    refine ⟨.bl (decide (ds=es)),H,I,?_,q⟩
    have:=all_eq ds es
    simp only [List.size_toArray,denRs_len r,denRs_len r']
    rw [this]
    rfl
  · have g1:=den_raw I.hok h1 rx
    have g2:=den_raw I.hok h2 ry
    rw [DenR] at g1 g2
    obtain ⟨a,us,rfl,p,r⟩:=g1
    obtain ⟨b,us',rfl,p',r'⟩:=g2
    have l1:=denRs_len r
    have l2:=denRs_len r'
    by_cases hl:ds.length=es.length
    · refine SeqAt.eq_listAt (e:=fun j=>decide (ds[j]? = es[j]?)) p p' (by simp only [List.size_toArray];omega) hu0 (deep_items hu hd r r') ?_
      refine ⟨.bl (decide (ds=es)),H,I,?_,q⟩
      have:=all_eq' ds es hl
      simp only [List.size_toArray,l1]
      rw [this]
      rfl
    · refine SeqAt.eq_list_lengthsAt p p' (by simp only [List.size_toArray];simp;omega) hu0 ⟨.bl (decide (ds=es)),H,I,?_,q⟩
      rw [decide_eq_false (fun z=>hl (by rw [z]))]
      rfl
theorem op_neD (hu:X.A.units+151 < cLine):OpR X (compareOp .NotEq) rNeD:=by
  intro pins s σ H x y v u Q I rx ry h
  obtain ⟨ds,es,hh,hd,q⟩:=h
  have hu0:X.A.units < cLine:=by omega
  rcases hh with ⟨h1,h2⟩ | ⟨h1,h2⟩
  · have g1:=den_raw I.hok h1 rx
    have g2:=den_raw I.hok h2 ry
    rw [DenR] at g1 g2
    obtain ⟨a,us,rfl,p,r⟩:=g1
    obtain ⟨b,us',rfl,p',r'⟩:=g2
    refine SeqAt.RcNeAt.tuples (e:=fun j=>decide (ds[j]? = es[j]?)) p p' hu0 (deep_items hu hd r r') _ _ _ _ ?_
    refine ⟨.bl (!decide (ds=es)),H,I,?_,q⟩
    have:=all_eq ds es
    simp only [List.size_toArray,denRs_len r,denRs_len r']
    rw [this]
    rfl
  · have g1:=den_raw I.hok h1 rx
    have g2:=den_raw I.hok h2 ry
    rw [DenR] at g1 g2
    obtain ⟨a,us,rfl,p,r⟩:=g1
    obtain ⟨b,us',rfl,p',r'⟩:=g2
    have l1:=denRs_len r
    have l2:=denRs_len r'
    by_cases hl:ds.length=es.length
    · refine SeqAt.RcNeAt.lists (e:=fun j=>decide (ds[j]? = es[j]?)) p p' (by simp only [List.size_toArray];omega) hu0 (deep_items hu hd r r') _ _ _ _ ?_
      refine ⟨.bl (!decide (ds=es)),H,I,?_,q⟩
      have:=all_eq' ds es hl
      simp only [List.size_toArray,l1]
      rw [this]
      rfl
    · refine SeqAt.RcNeAt.lists_lengths p p' (by simp only [List.size_toArray];simp;omega) hu0 _ _ _ _ ⟨.bl (!decide (ds=es)),H,I,?_,q⟩
      rw [decide_eq_false (fun z=>hl (by rw [z]))]
      rfl
inductive J_rInD (neg:Bool) (x:V) (y:V) (H:Hp) (Q:VK):Prop
  | mk:∀ d ds,(Den H d x)→((Den H (.lst ds) y∨Den H (.tup ds) y))→(D.deeps ds≤150)→(Q (.bl (if neg then !decide (d∈ds) else decide (d∈ds))) H)→J_rInD neg x y H Q
noncomputable def rInD (neg:Bool):R2:=fun x y H Q=>J_rInD neg x y H Q
noncomputable def eqR (h:Heap) (d:D) (y:Value):Bool := @decide (DenR h d y) (Classical.propDecidable _)
theorem eqR_eq {h:Heap} {d e:D} {y:Value} (r:DenR h e y):eqR h d y=decide (e=d):=by
  unfold eqR
  by_cases z:e=d
  · subst z;rw [decide_eq_true rfl];exact @decide_eq_true _ (Classical.propDecidable _) r
  · rw [decide_eq_false z];exact @decide_eq_false _ (Classical.propDecidable _) fun q=>z (denR_inj r q)
theorem denRs_mem {h:Heap}:∀ {ds:List D} {us:List Value} {u:Value},DenRs h ds us→u∈us→∃ d∈ds,DenR h d u
  | [],us,u,r,m=>by rw [DenRs] at r;subst r;cases m
  | d :: ds,us,u,r,m=>by
    rw [DenRs] at r
    obtain ⟨v,us',rfl,r1,r⟩:=r
    rcases List.mem_cons.mp m with rfl | m
    · exact ⟨d,List.mem_cons_self,r1⟩
    · obtain ⟨e,he,q⟩:=denRs_mem r m
      exact ⟨e,List.mem_cons_of_mem _ he,q⟩
theorem any_eqR {h:Heap} {d:D}:∀ {ds:List D} {us:List Value},DenRs h ds us→us.any (eqR h d)=decide (d∈ds)
  | [],us,r=>by rw [DenRs] at r;subst r;simp
  | e :: ds,us,r=>by
    rw [DenRs] at r
    obtain ⟨v,us',rfl,r1,r⟩:=r
    rw [List.any_cons,any_eqR r,eqR_eq r1]
    refine dec_true ⟨fun z => ?_,fun z => ?_⟩
    · rcases List.mem_cons.mp z with rfl | z
      · simp
      · rw [decide_eq_true z];simp
    · rw [Bool.or_eq_true] at z
      rcases z with z | z
      · rw [of_decide_eq_true z];exact List.mem_cons_self
      · exact List.mem_cons_of_mem _ (of_decide_eq_true z)
theorem op_notInD (hu:X.A.units+151 < cLine):OpR X (compareOp .NotIn) (rInD true):=by
  intro pins s σ H x y v u Q I rx ry h
  obtain ⟨d,ds,h1,h2,hd,q⟩:=h
  have g1:=den_raw I.hok h1 rx
  have el:∀ us:List Value,DenRs s.heap ds us→∀ y,y∈us.toArray→SeqAt.EqAt X.A.in1 s y v (eqR s.heap d y):=fun us r y hy=>by
    obtain ⟨e,he,r1⟩:=denRs_mem r (by simpa using hy)
    refine eqAt_cast (eqAt_D 150 (by have:=deeps_le he;omega) r1 g1 (by show X.A.units+1+150 < cLine;omega)) (eqR_eq r1).symm
  rcases h2 with h2 | h2
  · have g2:=den_raw I.hok h2 ry
    rw [DenR] at g2
    obtain ⟨b,us',rfl,p',r'⟩:=g2
    refine SeqAt.notIn_listAt (eqR s.heap d) p' (el us' r') ⟨.bl (!decide (d∈ds)),H,I,?_,q⟩
    rw [← any_eqR r']
    show Value.bool _=Value.bool _
    rw [List.any_toArray]
  · have g2:=den_raw I.hok h2 ry
    rw [DenR] at g2
    obtain ⟨b,us',rfl,p',r'⟩:=g2
    refine SeqAt.notIn_tupleAt (eqR s.heap d) p' (el us' r') ⟨.bl (!decide (d∈ds)),H,I,?_,q⟩
    rw [← any_eqR r']
    show Value.bool _=Value.bool _
    rw [List.any_toArray]
end
end L2
namespace L2
open PySem PySem.Spec PyProof.Rows

section
variable {κ : Type} [DecidableEq κ]
noncomputable def valV (kvs:List (κ × V)) (k : κ):Option V:=(kvs.find? fun kv=>decide (kv.1=k)).map (·.2)
noncomputable def putK (kvs:List (κ × V)) (k : κ) (v:V):List (κ × V) :=
  if (kvs.any fun kv=>decide (kv.1=k))=true then kvs.map (fun kv=>if kv.1=k then (kv.1,v) else kv) else kvs ++ [(k,v)]

theorem valV_nil {k : κ}:valV ([]:List (κ × V)) k=none:=rfl
theorem valV_pos {p : κ × V} {r:List (κ × V)} {k : κ} (e:p.1=k):valV (p :: r) k=some p.2:=by simp [valV,List.find?_cons,e]
theorem valV_neg {p : κ × V} {r:List (κ × V)} {k : κ} (e:¬ p.1=k):valV (p :: r) k=valV r k:=by simp [valV,List.find?_cons,e]
theorem valV_any (k : κ):∀ kvs:List (κ × V),(kvs.any fun kv=>decide (kv.1=k))=(valV kvs k).isSome
  | []=>rfl
  | p :: r=>by
    rw [List.any_cons]
    by_cases e:p.1=k
    · simp only [valV_pos e,decide_eq_true e,Bool.true_or,Option.isSome_some]
    · rw [valV_neg e,decide_eq_false e,Bool.false_or];exact valV_any k r
theorem valV_map (k j : κ) (y:V):∀ kvs:List (κ × V),valV (kvs.map fun kv=>if kv.1=k then (kv.1,y) else kv) j=(valV kvs j).map fun x=>if j=k then y else x
  | []=>rfl
  | p :: r=>by
    have ih:=valV_map k j y r
    rw [List.map_cons]
    by_cases h:p.1=k
    · rw [if_pos h]
      by_cases e:p.1=j
      · rw [valV_pos (p:=(p.1,y)) e,valV_pos e,Option.map_some,if_pos (e.symm.trans h)]
      · rw [valV_neg (p:=(p.1,y)) e,valV_neg e,ih]
    · rw [if_neg h]
      by_cases e:p.1=j
      · rw [valV_pos (p:=p) e,valV_pos e,Option.map_some,if_neg (fun z=>h (e.trans z))]
      · rw [valV_neg (p:=p) e,valV_neg e,ih]
theorem valV_snoc (k j : κ) (y:V):∀ kvs:List (κ × V),valV kvs k=none→valV (kvs ++ [(k,y)]) j=if j=k then some y else valV kvs j
  | [],_=>by
    by_cases e:k=j
    · rw [if_pos e.symm];exact valV_pos (p:=(k,y)) e
    · rw [if_neg (fun z=>e z.symm)];exact valV_neg (p:=(k,y)) e
  | p :: r,hn=>by
    rw [List.cons_append]
    have hk:¬ p.1=k:=fun z=>by rw [valV_pos z] at hn;cases hn
    rw [valV_neg hk] at hn
    have ih:=valV_snoc k j y r hn
    by_cases e:p.1=j
    · rw [valV_pos e,valV_pos e,if_neg (fun z=>hk (e.trans z))]
    · rw [valV_neg e,valV_neg e,ih]
theorem valV_put (kvs:List (κ × V)) (k j : κ) (y:V):valV (putK kvs k y) j=if j=k then some y else valV kvs j:=by
  unfold putK
  by_cases a:(kvs.any fun kv=>decide (kv.1=k))=true
  · rw [if_pos a,valV_map]
    rw [valV_any] at a
    by_cases e:j=k
    · obtain ⟨x,hx⟩:=Option.isSome_iff_exists.mp a
      rw [if_pos e,e,hx,Option.map_some,if_pos rfl]
    · rw [if_neg e]
      cases valV kvs j with
      | none=>rfl
      | some x=>rw [Option.map_some,if_neg e]
  · rw [if_neg a]
    refine valV_snoc k j y kvs ?_
    rw [valV_any] at a
    cases q:valV kvs k with
    | none=>rfl
    | some x=>rw [q] at a;exact (a rfl).elim
theorem length_putK (kvs:List (κ × V)) (k : κ) (v:V):(putK kvs k v).length≤kvs.length+1:=by
  unfold putK
  split
  · rw [List.length_map];omega
  · rw [List.length_append,List.length_cons,List.length_nil];omega

theorem RelO.isSome_eq {o:Option V} {u:Option Value} (r:RelO o u):o.isSome=u.isSome:=by
  cases o with
  | none=>cases u with
    | none=>rfl
    | some _=>exact (show False from r).elim
  | some _=>cases u with
    | none=>exact (show False from r).elim
    | some _=>rfl
theorem RelO.getD {o:Option V} {u:Option Value} {d:V} {d':Value} (r:RelO o u) (rd:RelV d d'):RelV (o.getD d) (u.getD d'):=by
  cases o with
  | none=>cases u with
    | none=>exact rd
    | some _=>exact (show False from r).elim
  | some _=>cases u with
    | none=>exact (show False from r).elim
    | some _=>exact r

theorem KV.val {kvs:List (κ × V)} {vs:List (κ × Value)} (r:KV kvs vs) (k : κ):RelO (valV kvs k) (valueAt vs k):=by
  unfold KV at r
  induction r with
  | nil=>exact True.intro
  | @cons p q ps qs h t ih =>
    obtain ⟨h1,h2⟩:=h
    by_cases e:p.1=k
    · have e':q.1=k:=h1.symm.trans e
      have b:valueAt (q :: qs) k=some q.2:=by simp [valueAt,List.find?_cons,e']
      rw [valV_pos e,b];exact h2
    · have e':¬ q.1=k:=fun z=>e (h1.trans z)
      have b:valueAt (q :: qs) k=valueAt qs k:=by simp [valueAt,List.find?_cons,e']
      rw [valV_neg e,b];exact ih
theorem KV.any {kvs:List (κ × V)} {vs:List (κ × Value)} (r:KV kvs vs) (k : κ):(kvs.any fun kv=>decide (kv.1=k))=vs.any fun kv=>decide (kv.1=k):=by
  unfold KV at r
  induction r with
  | nil=>rfl
  | cons h t ih=>rw [List.any_cons,List.any_cons,ih,h.1]
theorem KV.repl {kvs:List (κ × V)} {vs:List (κ × Value)} (r:KV kvs vs) (k : κ) {y:V} {u:Value} (ry:RelV y u) :
    KV (kvs.map fun kv=>if kv.1=k then (kv.1,y) else kv) (vs.map fun kv=>if kv.1=k then (kv.1,u) else kv):=by
  unfold KV at r ⊢
  induction r with
  | nil=>exact .nil
  | @cons p q ps qs h t ih =>
    rw [List.map_cons,List.map_cons]
    refine .cons ?_ ih
    obtain ⟨h1,h2⟩:=h
    by_cases e:p.1=k
    · rw [if_pos e,if_pos (h1.symm.trans e)];exact ⟨h1,ry⟩
    · rw [if_neg e,if_neg (fun z=>e (h1.trans z))];exact ⟨h1,h2⟩
theorem KV.put {kvs:List (κ × V)} {vs:List (κ × Value)} (r:KV kvs vs) (k : κ) {y:V} {u:Value} (ry:RelV y u):KV (putK kvs k y) (stored vs k u):=by
  unfold putK stored
  rw [r.any k]
  by_cases e:(vs.any fun kv=>decide (kv.1=k))=true
  · rw [if_pos e,if_pos e];exact r.repl k ry
  · rw [if_neg e,if_neg e];exact Paired.snoc r ⟨rfl,ry⟩
theorem KV.length {kvs:List (κ × V)} {vs:List (κ × Value)} (r:KV kvs vs):kvs.length=vs.length:=Paired.length r
end


theorem kV_is {P:Program} {w:World} {k:Key} {u:Value} (r:RelV (kV k) u):(mixKind P w).is k u=true:=by
  cases k with
  | inl i=>obtain ⟨t,e⟩:=(show ∃ t,u=Value.int i t from r);subst e;exact mixKind_int P w i t
  | inr x=>obtain ⟨t,e⟩:=(show ∃ t,u=Value.str x t from r);subst e;exact mixKind_str P w x t
theorem items_are {P:Program} {w:World}:∀ {ks:List Key} {us:List Value},Vals (ks.map kV) us→ItemsAre (mixKind P w) ks us
  | [],_,r=>by rw [List.map_nil] at r;cases r;exact .nil
  | k :: ks,_,r=>by
    rw [List.map_cons] at r
    cases r with
    | cons h t=>exact .cons (kV_is h) (items_are t)

noncomputable abbrev KT (H:Hp):List (List Key × V)→List (List Key × Addr × Value)→Prop:=Paired fun p q=>p.1=q.1∧H q.2.1=some (.tup (p.1.map kV))∧RelV p.2 q.2.2
theorem KT.val {H:Hp} {kvs:List (List Key × V)} {xs:List (List Key × Addr × Value)} (r:KT H kvs xs) (k:List Key):RelO (valV kvs k) ((atKey xs k).map (·.2)):=by
  induction r with
  | nil=>exact True.intro
  | @cons p q ps qs h t ih =>
    obtain ⟨h1,_,h2⟩:=h
    by_cases e:p.1=k
    · have e':q.1=k:=h1.symm.trans e
      have b:atKey (q :: qs) k=some q.2:=by simp [atKey,List.find?_cons,e']
      rw [valV_pos e,b];exact h2
    · have e':¬ q.1=k:=fun z=>e (h1.trans z)
      have b:atKey (q :: qs) k=atKey qs k:=by simp [atKey,List.find?_cons,e']
      rw [valV_neg e,b];exact ih
theorem KT.repl {H:Hp} {kvs:List (List Key × V)} {xs:List (List Key × Addr × Value)} (r:KT H kvs xs) (k:List Key) {y:V} {u:Value} (ry:RelV y u) :
    KT H (kvs.map fun kv=>if kv.1=k then (kv.1,y) else kv) (xs.map (putAt k u)):=by
  induction r with
  | nil=>exact .nil
  | @cons p q ps qs h t ih =>
    rw [List.map_cons,List.map_cons]
    refine .cons ?_ ih
    obtain ⟨h1,h2,h3⟩:=h
    unfold putAt
    by_cases e:p.1=k
    · rw [if_pos e,if_pos (h1.symm.trans e)];exact ⟨h1,h2,ry⟩
    · rw [if_neg e,if_neg (fun z=>e (h1.trans z))];exact ⟨h1,h2,h3⟩
theorem KT.put {H:Hp} {kvs:List (List Key × V)} {xs:List (List Key × Addr × Value)} (r:KT H kvs xs) (k:List Key) {b:Addr} {y:V} {u:Value} (hb:H b=some (.tup (k.map kV))) (ry:RelV y u) :
    KT H (putK kvs k y) (storedH xs k b u):=by
  have e:(kvs.any fun kv=>decide (kv.1=k))=(atKey xs k).isSome:=by
    rw [valV_any,(r.val k).isSome_eq,Option.isSome_map]
  unfold putK storedH
  rw [e]
  by_cases q:(atKey xs k).isSome=true
  · rw [if_pos q,if_pos q];exact r.repl k ry
  · rw [if_neg q,if_neg q];exact Paired.snoc r ⟨rfl,hb,ry⟩
theorem KT.keeps {H H':Hp} {kvs:List (List Key × V)} {xs:List (List Key × Addr × Value)} (r:KT H kvs xs) (ht:∀ b ys,H b=some (.tup ys)→H' b=some (.tup ys)):KT H' kvs xs :=
  Paired.mapP r fun _ _ z=>⟨z.1,ht _ _ z.2.1,z.2.2⟩

section
variable {P:Program} {w:World} {H:Hp} {h:Heap} {a:Addr}
theorem rd_of {u:HO} (ok:HOk P w H h) (e:Rd H a u):ObjOk P w H h a u:=e.ok ok
theorem dk_rd {kvs:List (Key × V)} (ok:HOk P w H h) (e:Rd H a (.dK kvs)):kvs.length≤sizeLine∧(a == sysModules)=false∧∃ vs,KV kvs vs∧h.DictOf (mixKind P w) a vs :=
  show ObjOk P w H h a (.dK kvs) from rd_of ok e
theorem dk_of {kvs:List (Key × V)} (ok:HOk P w H h) (e:H a=some (.dK kvs)):kvs.length≤sizeLine∧(a == sysModules)=false∧∃ vs,KV kvs vs∧h.DictOf (mixKind P w) a vs:=dk_rd ok (.inl e)
theorem key_of {ks:List Key} (ok:HOk P w H h) (e:H a=some (.tup (ks.map kV))):(tupleKind (mixKind P w)).is h ks a:=by
  obtain ⟨_,its,r,o,h1,h2,n,h3,_⟩:=(show ObjOk P w H h a (.tup (ks.map kV)) from ok a _ e)
  exact ⟨o,its.toArray,n,h1,h2,h3,by simpa using items_are r⟩
theorem dt_rd {kvs:List (List Key × V)} (ok:HOk P w H h) (e:Rd H a (.dT kvs)):kvs.length≤sizeLine∧(a == sysModules)=false ∧
    ∃ xs,KT H kvs xs∧h.DictOfH (tupleKind (mixKind P w)) a xs:=by
  obtain ⟨z,y,xs,r,o,es,ep,h1,h2,h3,h4,h5⟩:=(show ObjOk P w H h a (.dT kvs) from rd_of ok e)
  refine ⟨z,y,xs,r,o,es,ep,h1,h2,h3,h4,fun x hx => ?_,h5⟩
  have all:∀ {l:List (List Key × V)} {m:List (List Key × Addr × Value)},KT H l m→∀ x∈m,(tupleKind (mixKind P w)).is h x.1 x.2.1:=by
    intro l m q
    induction q with
    | nil=>intro x hx;exact nomatch hx
    | @cons p q ps qs hq t ih =>
      intro x hx
      rcases List.mem_cons.mp hx with e | hx
      · subst e
        exact key_of ok (by rw [← hq.1];exact hq.2.1)
      · exact ih x hx
  exact all r x hx
theorem dt_of {kvs:List (List Key × V)} (ok:HOk P w H h) (e:H a=some (.dT kvs)):kvs.length≤sizeLine∧(a == sysModules)=false ∧
    ∃ xs,KT H kvs xs∧h.DictOfH (tupleKind (mixKind P w)) a xs:=dt_rd ok (.inl e)
end

noncomputable def DGet (H:Hp) (a:Addr) (y:V) (r:Option V):Prop :=
  (∃ kvs k,Rd H a (.dK kvs)∧y=kV k∧r=valV kvs k)∨∃ kvs k b,Rd H a (.dT kvs)∧y = .ref b∧H b=some (.tup (k.map kV))∧r=valV kvs k
noncomputable def DPut (H:Hp) (a:Addr) (y v:V) (H':Hp):Prop :=
  (∃ kvs k,H a=some (.dK kvs)∧y=kV k∧kvs.length < sizeLine∧H'=upd H a (.dK (putK kvs k v))) ∨
  ∃ kvs k b,H a=some (.dT kvs)∧y = .ref b∧H b=some (.tup (k.map kV))∧kvs.length < sizeLine∧H'=upd H a (.dT (putK kvs k v))
theorem DGet.k {H:Hp} {a:Addr} {kvs:List (Key × V)} {k:Key} (e:H a=some (.dK kvs)):DGet H a (kV k) (valV kvs k) := .inl ⟨kvs,k,.inl e,rfl,rfl⟩
theorem DPut.k {H:Hp} {a:Addr} {kvs:List (Key × V)} {k:Key} {v:V} (e:H a=some (.dK kvs)) (hl:kvs.length < sizeLine):DPut H a (kV k) v (upd H a (.dK (putK kvs k v))) := .inl ⟨kvs,k,e,rfl,hl,rfl⟩


section
variable {X:Cx} {pins:List (Addr × Obj)} {σ : St} {H:Hp} {s:Shared} {a:Addr} {y v:V} {u r:Value} {o:Option V} {A:Around} {E:Value→Shared→Prop}

theorem Inv.big (I:Inv X pins σ H s):sysModules < s.heap.objs.size:=by
  have h:mainGlobals < s.heap.objs.size:=(I.mod.glob.keeps I.bk).lt
  exact Nat.lt_trans (by decide) h

theorem d_getItem {Q:Value→Shared→Prop} (hu:A.units+1 < cLine) (I:Inv X pins σ H s) (g:DGet H a y (some v)) (ry:RelV y u) (h:∀ w' s',Inv X pins σ H s'→RelV v w'→Q w' s') :
    wpAny (model X.prog X.w) A (getItem (.ref a) u) Q E s:=by
  rcases g with ⟨kvs,k,e,ey,l⟩ | ⟨kvs,k,b,e,ey,eb,l⟩
  · subst ey
    obtain ⟨z,hd,vs,rel,dd⟩:=dk_rd I.hok e
    obtain ⟨w',hw,rw'⟩:=RelO.some_of (v:=v) (o:=valueAt vs k) (by rw [l];exact rel.val k)
    exact wpAny_getItem_of (kV_is ry) dd.mapOf hw (h w' _ (I.tok _) rw')
  · subst ey
    cases (show u=Value.ref b from ry)
    obtain ⟨z,hd,xs,rel,dd⟩:=dt_rd I.hok e
    obtain ⟨w',hw,rw'⟩:=RelO.some_of (v:=v) (o:=(atKey xs k).map (·.2)) (by rw [l];exact rel.val k)
    obtain ⟨p,hp,hp2⟩:=Option.map_eq_some_iff.mp hw
    refine wpAny_getItem_heap (tupleKind_room_in1 hu) (key_of I.hok eb) dd hp ?_
    rw [hp2]
    exact h w' _ (I.tok _) rw'
theorem d_notIn {Q:Value→Shared→Prop} (hu:A.units+1 < cLine) (I:Inv X pins σ H s) (g:DGet H a y o) (ry:RelV y u) (h:∀ s',Inv X pins σ H s'→Q (.bool (!o.isSome)) s') :
    wpAny (model X.prog X.w) A (compareOp .NotIn u (.ref a)) Q E s:=by
  rcases g with ⟨kvs,k,e,ey,l⟩ | ⟨kvs,k,b,e,ey,eb,l⟩
  · subst ey
    obtain ⟨z,hd,vs,rel,dd⟩:=dk_rd I.hok e
    refine wpAny_notIn_of (kV_is ry) hd dd.mapOf ?_
    rw [← (rel.val k).isSome_eq, ← l]
    exact h _ (I.tok _)
  · subst ey
    cases (show u=Value.ref b from ry)
    obtain ⟨z,hd,xs,rel,dd⟩:=dt_rd I.hok e
    refine wpAny_notIn_heap (tupleKind_room_in1 hu) (key_of I.hok eb) hd dd ?_
    have q:=(rel.val k).isSome_eq
    rw [Option.isSome_map] at q
    rw [← q, ← l]
    exact h _ (I.tok _)
theorem d_write {h':Heap} {t':Nat} {ob:HO} (I:Inv X pins σ H s) (mu:Mut (H a)) (hs:Heap.SameBut a s.heap h') (he:∃ q,h'.get? a=some q) (new:ObjOk X.prog X.w (upd H a ob) h' a ob) :
    Inv X pins σ (upd H a ob) { s with heap:=h',toks:=t' } :=
  I.write (x:=a) (e:=a) mu (.inl rfl) (fun b q hb z=>(hs.2 b hb).trans z) he new
theorem dk_new {P:Program} {w:World} {H':Hp} {h':Heap} {kvs:List (Key × V)} {vs:List (Key × Value)} (z:kvs.length≤sizeLine) (hd:(a == sysModules)=false) (rel:KV kvs vs) (dd:h'.DictOf (mixKind P w) a vs) :
    ObjOk P w H' h' a (.dK kvs):=⟨z,hd,vs,rel,dd⟩
theorem d_setItem {H':Hp} {Q:Unit→Shared→Prop} (hu:A.units+1 < cLine) (I:Inv X pins σ H s) (g:DPut H a y v H') (ry:RelV y u) (rv:RelV v r) (h:∀ s',Inv X pins σ H' s'→Q () s') :
    wpAny (model X.prog X.w) A (setItem (.ref a) u r) Q E s:=by
  rcases g with ⟨kvs,k,e,ey,l,eH⟩ | ⟨kvs,k,b,e,ey,eb,l,eH⟩
  · subst ey eH
    obtain ⟨z,hd,vs,rel,dd⟩:=dk_of I.hok e
    have hz:vs.length≤sizeLine:=by rw [← rel.length];exact z
    have hl:(putK kvs k v).length≤sizeLine:=by have:=length_putK kvs k v;omega
    refine wpAny_setItem_pairs (hsz:=hz) (kV_is ry) dd fun h' dd' hs=>h _ ?_
    have he:∃ q,h'.get? a=some q:=let ⟨q,_,_,hq,_⟩:=dd'; ⟨q,hq⟩
    exact d_write I (by rw [e];exact True.intro) hs he (dk_new hl hd (rel.put k rv) dd')
  · subst ey eH
    cases (show u=Value.ref b from ry)
    obtain ⟨z,hd,xs,rel,dd⟩:=dt_of I.hok e
    have hz:xs.length≤sizeLine:=by rw [← Paired.length rel];exact z
    have hl:(putK kvs k v).length≤sizeLine:=by have:=length_putK kvs k v;omega
    refine wpAny_setItem_heap (hsz:=hz) (tupleKind_room_in1 hu) (key_of I.hok eb) dd fun h' dd' hs=>h _ ?_
    obtain ⟨q,es,ep,hq,h2,h3,h4,_,h5⟩:=dd'
    refine d_write I (by rw [e];exact True.intro) hs ⟨q,hq⟩ ⟨hl,hd,_,(rel.put k eb rv).keeps fun c ys ec => ?_,q,es,ep,hq,h2,h3,h4,h5⟩
    rw [upd_ne (ne_of ec e (fun z=>nomatch z))]
    exact ec
end

section
variable {X:Cx} {pins:List (Addr × Obj)} {σ : St} {H:Hp} {s:Shared} {a:Addr} {kvs:List (Key × V)} {k:Key} {u:Value} {A:Around} {E:Value→Shared→Prop}
end


noncomputable def NoSl (i:Expr):Prop := ∀ ov iv,subscripted i false ov iv=operate [ov,iv] (getItem ov iv)
theorem subD_of {prog:Program} {w:World} {A:Around} {E:Value→Shared→Prop} {s:Shared} {env:Env} {value slice:Expr} {pos:Pos} {T id:String} {Q:Value→Shared→Prop}
    (hl:typeLookup (.type T) "__getitem__" = pure (some (.builtin id))) (hs:NoSl slice)
    (h:wpAny (model prog w) A (eval value env) (fun o s₁ => wpAny (model prog w) A (eval slice env) (fun i s₂ => s₂.TypeIs o T∧wpAny (model prog w) A (getItem o i) Q E s₂) E s₁) E s) :
    wpAny (model prog w) A (eval (.Subscript value slice pos) env) Q E s:=by
  refine Subscript_ (wpAny_mono h (fun o s₁ h₁ => wpAny_mono h₁ (fun i s₂ h₂ => ?_) fun _ _ x=>x) fun _ _ x=>x)
  obtain ⟨hT,h₂⟩:=h₂
  unfold subscriptTail
  refine wpAny_bind ?_
  rw [getitemInPython_of_ne hT.not_modules]
  refine wpAny_bind (wpAny_specialOf hT hl ?_)
  have fin:wpAny (model prog w) A (subscripted slice false o i) (fun r s₃ => wpAny (model prog w) A (letTemporaryGo value o r >>= fun _=>pure r) Q E s₃) E s₂ := by
    rw [hs o i]
    exact wpAny_operating (wpAny_mono h₂ (fun r s₃ h₃ => wpAny_bind (wpAny_letTemporaryGo (wpAny_pure h₃))) fun _ _ x=>x)
  first
    | exact wpAny_pure (wpAny_bind fin)
    | exact wpAny_bind (wpAny_pure (wpAny_bind fin))
    | exact wpAny_bind fin

theorem dict_typeIs {X:Cx} {pins:List (Addr × Obj)} {σ : St} {H:Hp} {s:Shared} {a:Addr} {y:V} {o:Option V} (I:Inv X pins σ H s) (g:DGet H a y o):s.TypeIs (.ref a) "dict" := by
  rcases g with ⟨kvs,k,e,_,_⟩ | ⟨kvs,k,b,e,_,_,_⟩
  · obtain ⟨_,_,vs,_,dd⟩:=dk_rd I.hok e
    exact dd.typeIs
  · obtain ⟨_,_,xs,_,dd⟩:=dt_rd I.hok e
    exact dd.typeIs

inductive J_tDGet (Q:VK) (x:V) (y:V) (H2:Hp):Prop
  | mk:∀ a v,(x = .ref a)→(DGet H2 a y (some v))→(Q v H2)→J_tDGet Q x y H2
noncomputable def tDGet (td ty:TE):TE:=fun σ H Q=>td σ H fun x H1=>ty σ H1 fun y H2=>J_tDGet Q x y H2
inductive J_tDNotIn (Q:VK) (y:V) (x:V) (H2:Hp):Prop
  | mk:∀ a o,(x = .ref a)→(DGet H2 a y o)→(Q (.bl (!o.isSome)) H2)→J_tDNotIn Q y x H2
noncomputable def tDNotIn (ty td:TE):TE:=fun σ H Q=>ty σ H fun y H1=>td σ H1 fun x H2=>J_tDNotIn Q y x H2
inductive J_sDPut (D:Ends) (σ : St) (v:V) (x:V) (y:V) (H3:Hp):Prop
  | mk:∀ a H4,(x = .ref a)→(DPut H3 a y v H4)→(D.nx σ H4)→J_sDPut D σ v x y H3
noncomputable def sDPut (td ty tv:TE):TS:=fun D σ H=>tv σ H fun v H1=>td σ H1 fun x H2=>ty σ H2 fun y H3=>J_sDPut D σ v x y H3

section
variable {X:Cx} {o i e value:Expr} {pos pos' tpos:Pos} {td ty tv:TE}
theorem pe_dget (hu:X.A.units+1 < cLine) (ho:PE X o td) (hi:PE X i ty) (hs:NoSl i):PE X (.Subscript o i pos) (tDGet td ty):=by
  intro pins s σ H Q I h
  refine subD_of PySem.F.slot_dict_getitem.lookup hs (thn (ho pins s σ H _ I h) fun u s1 ⟨x,H1,I1,rx,q1⟩=>thn (hi pins s1 σ H1 _ I1 q1) fun iv s2 ⟨y,H2,I2,ry,a,v,ex,g,q2⟩ => ?_)
  subst ex
  obtain rfl:u=Value.ref a:=rx
  exact ⟨dict_typeIs I2 g,d_getItem hu I2 g ry fun w' s3 I3 rw'=>⟨v,H2,I3,rw',q2⟩⟩
theorem pc_dnotin (hu:X.A.units+1 < cLine) (hi:PE X i ty) (ho:PE X o td):PC X .NotIn i o (tDNotIn ty td):=by
  intro pins s σ H Q I h
  refine thn (hi pins s σ H _ I h) fun iv s1 ⟨y,H1,I1,ry,q1⟩=>thn (ho pins s1 σ H1 _ I1 q1) fun u s2 ⟨x,H2,I2,rx,a,ov,ex,g,q2⟩ => ?_
  subst ex
  obtain rfl:u=Value.ref a:=rx
  exact d_notIn hu I2 g ry fun s3 I3=>⟨.bl (!ov.isSome),H2,I3,rfl,q2⟩
theorem ps_dput (hu:X.A.units+1 < cLine) (ho:PE X o td) (hi:PE X i ty) (hv:PE X value tv) (hs:swapsWith value (some (.Subscript o i pos')) pos.line X.env=pure false) :
    PS X (.Assign [.Subscript o i pos'] value pos) (sDPut td ty tv):=by
  intro pins s σ H D I h
  refine wpAny_Assign_Subscript (thn (hv pins s σ H _ I h) fun r s1 ⟨v,H1,I1,rv,q1⟩=>thn (ho pins s1 σ H1 _ I1 q1) fun u s2 ⟨x,H2,I2,rx,q2⟩=>thn (hi pins s2 σ H2 _ I2 q2) fun iv s3 ⟨y,H3,I3,ry,a,H4,ex,g,q3⟩ => ?_) hs
  subst ex
  obtain rfl:u=Value.ref a:=rx
  exact d_setItem hu I3 g ry rv fun s4 I4=>⟨σ,H4,I4,q3⟩
end


theorem dk_empty {P:Program} {w:World} {H:Hp} (h:Heap) (hb:sysModules < h.objs.size):ObjOk P w H (h.push { cls := .type "dict",data := .dict #[] }) h.objs.size (.dK []) :=
  ⟨Nat.zero_le _,beq_eq_false_iff_ne.mpr (Ne.symm (Nat.ne_of_lt hb)), [],.nil,Heap.DictOf.new h⟩
noncomputable def tDNewK:TE:=fun _ H Q=>∀ p,H p=none→Q (.ref p) (upd H p (.dK []))
section
variable {X:Cx} {pos:Pos}
theorem pe_dnewK:PE X (.Dict [] [] pos) tDNewK:=fun pins s σ H Q I h =>
  wpAny_Dict_empty ⟨.ref s.heap.objs.size,_,I.laid (a:=s.heap.objs.size) (o := .dK []) (t':=s.toks) (fun _ _ q=>Heap.get?_push_of_some _ q) (Nat.le_refl _) (dk_empty s.heap I.big),rfl,h _ (I.hok.fresh (Nat.le_refl _))⟩
end




structure M2 (X:Cx) (o:Expr) (m:Str) (apos:Pos) (e f:Expr) (cpos:Pos):Prop where
  base:attributeBase o m X.env (eval o X.env)=eval o X.env
  few:((backTo cpos (starEach [e,f] X.env)).all (fun x => !x.1) && (backToKw cpos (keywordEach [] X.env)).all (fun x=>x.1.isSome)
    && decide (([e,f]:List Expr).length+([]:List Keyword).length+(if ([]:List Keyword).isEmpty then 0 else 1) < 30))=true
  line:(apos.endLine == cpos.line)=true
  trees:backTo cpos (starEach [e,f] X.env) = [(false,eval e X.env),(false,eval f X.env)]

noncomputable def IsD (H:Hp) (a:Addr):Prop:=(∃ kvs,Rd H a (.dK kvs))∨∃ kvs,Rd H a (.dT kvs)
theorem isD_at {X:Cx} {pins:List (Addr × Obj)} {σ : St} {H:Hp} {s:Shared} {a:Addr} (I:Inv X pins σ H s) (d:IsD H a) :
    s.TypeIs (.ref a) "dict" ∧ (∀ b,Value.ref a = .ref b→∃ ob,s.heap.get? b=some ob∧ob.dict=none)∧(a == sysModules)=false:=by
  rcases d with ⟨kvs,e⟩ | ⟨kvs,e⟩
  · obtain ⟨_,hd,vs,_,dd⟩:=dk_rd I.hok e
    refine ⟨dd.typeIs,fun b q => ?_,hd⟩
    cases q
    obtain ⟨ob,_,_,h1,h2,_⟩:=dd
    exact ⟨ob,h1,h2.2.1⟩
  · obtain ⟨_,hd,xs,_,dd⟩:=dt_rd I.hok e
    refine ⟨dd.typeIs,fun b q => ?_,hd⟩
    cases q
    obtain ⟨ob,_,_,h1,h2,_⟩:=dd
    exact ⟨ob,h1,h2.2.1⟩

section
variable {X:Cx} {pins:List (Addr × Obj)} {σ : St} {H:Hp} {s:Shared} {a:Addr} {y d:V} {u r:Value} {o:Option V} {A:Around} {E:Value→Shared→Prop}
theorem d_get2 {Q:Value→Shared→Prop} (hu:A.units+1 < cLine) (I:Inv X pins σ H s) (g:DGet H a y o) (ry:RelV y u) (rd:RelV d r) (h:∀ w' s',Inv X pins σ H s'→RelV (o.getD d) w'→Q w' s') :
    wpAny (model X.prog X.w) A (call (.builtin "dict.get") [.ref a,u,r]) Q E s:=by
  rcases g with ⟨kvs,k,e,ey,l⟩ | ⟨kvs,k,b,e,ey,eb,l⟩
  · subst ey
    obtain ⟨z,hd,vs,rel,dd⟩:=dk_rd I.hok e
    refine call_meetsIn PySem.F.slot_dict_get dd.typeIs PySem.F.entry_dict_get (PySem.F.args_dict_get_3 _ _ _) (meets_dict_get_default (mixKind X.prog X.w) a (kV_is ry) hd r) ⟨_,dd.mapOf,h _ _ (I.tok _) ?_⟩
    rw [l]
    exact (rel.val k).getD rd
  · subst ey
    cases (show u=Value.ref b from ry)
    obtain ⟨z,hd,xs,rel,dd⟩:=dt_rd I.hok e
    refine call_meetsIn PySem.F.slot_dict_get dd.typeIs PySem.F.entry_dict_get (PySem.F.args_dict_get_3 _ _ _) (meetsH_dict_get_default (tupleKind (mixKind X.prog X.w)) a b hd r) ⟨tupleKind_room_in1 hu,k,xs,key_of I.hok eb,dd,h _ _ (I.tok _) ?_⟩
    rw [l]
    exact (rel.val k).getD rd
end

inductive J_tDGet2 (ty:TE) (tx:TE) (σ : St) (Q:VK) (x:V) (H1:Hp):Prop
  | mk:∀ a,(x = .ref a)→(IsD H1 a)→(ty σ H1 fun y H2=>tx σ H2 fun z H3=>∃ o,DGet H3 a y o∧Q (o.getD z) H3)→J_tDGet2 ty tx σ Q x H1
noncomputable def tDGet2 (td ty tx:TE):TE:=fun σ H Q=>td σ H fun x H1=>J_tDGet2 ty tx σ Q x H1
section
variable {X:Cx} {o e f:Expr} {apos cpos:Pos} {td ty tx:TE}
theorem pe_dget2 (hu:X.A.units+1 < cLine) (ho:PE X o td) (he:PE X e ty) (hf:PE X f tx) (m:M2 X o "get" apos e f cpos):PE X (.Call (.Attribute o "get" apos) [e,f] [] cpos) (tDGet2 td ty tx):=by
  intro pins s σ H Q I h
  refine wpAny_Call_method m.base m.few m.line PySem.F.plainAttrs_dict PySem.F.slot_dict_get PySem.F.type_dict_get (thn (ho pins s σ H _ I h) fun u s1 ⟨x,H1,I1,rx,a,ex,d,q1⟩ => ?_)
  subst ex
  obtain rfl:u=Value.ref a:=rx
  obtain ⟨t1,t2,_⟩:=isD_at I1 d
  refine ⟨t1,t2,?_⟩
  rw [m.trees]
  refine Calls.callWith_builtin rfl (Calls.evalArgs_plain (Calls.spliced_cons (thn (he pins s1 σ H1 _ I1 q1) fun iv s2 ⟨y,H2,I2,ry,q2⟩ =>
    Calls.spliced_cons (thn (hf pins s2 σ H2 _ I2 q2) fun fv s3 ⟨z,H3,I3,rz,ov,g,q3⟩=>Calls.spliced_nil ?_))))
  exact d_get2 hu I3 g ry rz fun w' s4 I4 rw'=>⟨_,H3,I4,rw',q3⟩
end

section
variable {X:Cx} {pins:List (Addr × Obj)} {σ : St} {H:Hp} {s:Shared} {a:Addr} {kvs:List (Key × V)} {A:Around} {E:Value→Shared→Prop}
end


section
variable {X:Cx} {pins:List (Addr × Obj)} {σ : St} {H:Hp} {s:Shared} {a:Addr} {y:V} {u:Value} {A:Around} {E:Value→Shared→Prop}
end
end L2
namespace L2
open PySem PySem.Spec PyProof.Rows

noncomputable abbrev NK:=List (Sum Key (List Key))
noncomputable def kD:Key→D
  | .inl i => .int i
  | .inr x => .str x
noncomputable def iD:Sum Key (List Key)→D
  | .inl k=>kD k
  | .inr l => .tup (l.map kD)
noncomputable def nkD (k:NK):D := .tup (k.map iD)
theorem kD_inj {a b:Key} (e:kD a=kD b):a=b:=by
  cases a with
  | inl i=>cases b with
    | inl j=>have e':D.int i=D.int j:=e;injection e' with e';rw [e']
    | inr y=>exact nomatch (show D.int i=D.str y from e)
  | inr x=>cases b with
    | inl j=>exact nomatch (show D.str x=D.int j from e)
    | inr y=>have e':D.str x=D.str y:=e;injection e' with e';rw [e']
theorem map_inj_of {α β : Type} {f : α → β} (hf:∀ a b,f a=f b→a=b):∀ {x y:List α},x.map f=y.map f→x=y
  | [], [],_=>rfl
  | [],_ :: _,e=>by simp at e
  | _ :: _, [],e=>by simp at e
  | a :: xs,b :: ys,e=>by
    rw [List.map_cons,List.map_cons] at e
    injection e with e1 e2
    rw [hf _ _ e1,map_inj_of hf e2]
theorem iD_inj {a b:Sum Key (List Key)} (e:iD a=iD b):a=b:=by
  cases a with
  | inl i=>cases b with
    | inl j=>rw [kD_inj e]
    | inr y=>cases i <;> exact nomatch e
  | inr x=>cases b with
    | inl j=>cases j <;> exact nomatch e
    | inr y =>
      have e':D.tup (x.map kD)=D.tup (y.map kD):=e
      injection e' with e'
      rw [map_inj_of (fun _ _=>kD_inj) e']
theorem nkD_inj {a b:NK} (e:nkD a=nkD b):a=b:=by
  have e':D.tup (a.map iD)=D.tup (b.map iD):=e
  injection e' with e'
  exact map_inj_of (fun _ _=>iD_inj) e'
section
variable (P:Program) (w:World)
noncomputable def NIt (h:Heap):NK→List Value→Prop
  | [],us=>us = []
  | .inl k :: ks,us=>∃ u us',us=u :: us'∧(mixKind P w).is k u=true∧NIt h ks us'
  | .inr l :: ks,us=>∃ b us',us=Value.ref b :: us'∧IsTupleKey (mixKind P w) h l b∧NIt h ks us'
noncomputable def IsNK (h:Heap) (k:NK) (a:Addr):Prop := ∃ us:List Value,IsTup h a us.toArray∧NIt P w h k us
noncomputable def iHash:Sum Key (List Key)→Int
  | .inl k=>(mixKind P w).hash k
  | .inr l=>tupleKeyHash (mixKind P w) l
noncomputable def iDraws:Sum Key (List Key)→Nat
  | .inl _=>1
  | .inr l=>l.length+1
noncomputable def nkHash (k:NK):Int:=reduceHash (Builtin.Tuple.tupleHashOf (k.map (iHash P w)))
noncomputable def nkDraws (k:NK):Nat:=(k.map iDraws).sum+1
end
section
variable {P:Program} {w:World} {h h':Heap}
theorem NIt.inj:∀ {x y:NK} {us:List Value},NIt P w h x us→NIt P w h y us→x=y
  | [], [],us,_,_=>rfl
  | [],.inl k :: ks,us,r,q=>by rw [NIt] at r;rw [NIt] at q;subst r;obtain ⟨_,_,z,_⟩:=q;cases z
  | [],.inr k :: ks,us,r,q=>by rw [NIt] at r;rw [NIt] at q;subst r;obtain ⟨_,_,z,_⟩:=q;cases z
  | .inl k :: ks, [],us,r,q=>by rw [NIt] at r;rw [NIt] at q;subst q;obtain ⟨_,_,z,_⟩:=r;cases z
  | .inr k :: ks, [],us,r,q=>by rw [NIt] at r;rw [NIt] at q;subst q;obtain ⟨_,_,z,_⟩:=r;cases z
  | .inl k :: ks,.inl l :: ls,us,r,q=>by
    rw [NIt] at r;rw [NIt] at q
    obtain ⟨u,us',rfl,r1,r⟩:=r
    obtain ⟨u',us'',z,q1,q⟩:=q
    cases z
    rw [(mixKind P w).inj _ _ _ r1 q1,NIt.inj r q]
  | .inr k :: ks,.inr l :: ls,us,r,q=>by
    rw [NIt] at r;rw [NIt] at q
    obtain ⟨u,us',rfl,r1,r⟩:=r
    obtain ⟨u',us'',z,q1,q⟩:=q
    cases z
    rw [r1.inj q1,NIt.inj r q]
  | .inl k :: ks,.inr l :: ls,us,r,q=>by
    rw [NIt] at r;rw [NIt] at q
    obtain ⟨u,us',rfl,r1,r⟩:=r
    obtain ⟨u',us'',z,q1,q⟩:=q
    cases z
    rcases keyIs_shape r1 with ⟨i,t,_,e⟩ | ⟨x,t,_,e⟩ <;> cases e
  | .inr k :: ks,.inl l :: ls,us,r,q=>by
    rw [NIt] at r;rw [NIt] at q
    obtain ⟨u,us',rfl,r1,r⟩:=r
    obtain ⟨u',us'',z,q1,q⟩:=q
    cases z
    rcases keyIs_shape q1 with ⟨i,t,_,e⟩ | ⟨x,t,_,e⟩ <;> cases e
theorem NIt.keeps {d:Addr} {o:Obj} {es ep} (ho:h.get? d=some o) (hd:o.data = .dict es ep) (hs:Heap.SameBut d h h'):∀ {k:NK} {us:List Value},NIt P w h k us→NIt P w h' k us
  | [],us,r=>by rw [NIt] at r ⊢;exact r
  | .inl k :: ks,us,r=>by
    rw [NIt] at r ⊢
    obtain ⟨u,us',e,r1,r⟩:=r
    exact ⟨u,us',e,r1,NIt.keeps ho hd hs r⟩
  | .inr k :: ks,us,r=>by
    rw [NIt] at r ⊢
    obtain ⟨u,us',e,r1,r⟩:=r
    exact ⟨u,us',e,r1.keeps ho hd hs,NIt.keeps ho hd hs r⟩
theorem IsNK.inj {x y:NK} {a:Addr} (r:IsNK P w h x a) (q:IsNK P w h y a):x=y:=by
  obtain ⟨us,p,r⟩:=r
  obtain ⟨us',p',q⟩:=q
  have e:us=us':=by have:=tup_seq p p';simpa using this
  subst e
  exact r.inj q
theorem IsNK.keeps {k:NK} {a d:Addr} {o:Obj} {es ep} (r:IsNK P w h k a) (ho:h.get? d=some o) (hd:o.data = .dict es ep) (hs:Heap.SameBut d h h'):IsNK P w h' k a:=by
  obtain ⟨us,⟨o',e',c',n',d'⟩,r⟩:=r
  have hne:a≠d:=by
    rintro rfl
    rw [ho] at e';cases e'
    rw [hd] at d';cases d'
  exact ⟨us,⟨o',(hs.2 a hne).trans e',c',n',d'⟩,r.keeps ho hd hs⟩
theorem key_denR {k:Key} {u:Value} (r:(mixKind P w).is k u=true):DenR h (kD k) u:=by
  rcases keyIs_shape r with ⟨i,t,rfl,rfl⟩ | ⟨x,t,rfl,rfl⟩
  · show DenR h (.int i) _
    rw [DenR];exact .inl ⟨t,rfl⟩
  · show DenR h (.str x) _
    rw [DenR];exact ⟨t,rfl⟩
theorem items_denR {ks:List Key} {us:List Value} (r:ItemsAre (mixKind P w) ks us):DenRs h (ks.map kD) us:=by
  induction r with
  | nil=>rw [List.map_nil,DenRs]
  | cons r1 _ ih=>rw [List.map_cons,DenRs];exact ⟨_,_,rfl,key_denR r1,ih⟩
theorem NIt.denR:∀ {k:NK} {us:List Value},NIt P w h k us→DenRs h (k.map iD) us
  | [],us,r=>by rw [NIt] at r;rw [List.map_nil,DenRs];exact r
  | .inl k :: ks,us,r=>by
    rw [NIt] at r
    obtain ⟨u,us',e,r1,r⟩:=r
    rw [List.map_cons,DenRs]
    exact ⟨u,us',e,key_denR r1,NIt.denR r⟩
  | .inr k :: ks,us,r=>by
    rw [NIt] at r
    obtain ⟨b,us',e,⟨o,its,n,g,c,d,i⟩,r⟩:=r
    rw [List.map_cons,DenRs]
    refine ⟨_,us',e,?_,NIt.denR r⟩
    show DenR h (.tup (k.map kD)) _
    rw [DenR]
    exact ⟨b,its.toList,rfl,⟨o,g,c,n,by simpa using d⟩,items_denR i⟩
theorem IsNK.denR {k:NK} {a:Addr} (r:IsNK P w h k a):DenR h (nkD k) (.ref a):=by
  obtain ⟨us,p,r⟩:=r
  rw [nkD,DenR]
  exact ⟨a,us,rfl,p,r.denR⟩
theorem kDs_deep:∀ l:List Key,D.deeps (l.map kD)=0
  | []=>by rw [List.map_nil,D.deeps]
  | .inl k :: ks=>by rw [List.map_cons,D.deeps,kDs_deep ks];show max (D.deep (.int k)) 0=0;rw [D.deep];rfl
  | .inr k :: ks=>by rw [List.map_cons,D.deeps,kDs_deep ks];show max (D.deep (.str k)) 0=0;rw [D.deep];rfl
theorem nk_deeps:∀ l:NK,D.deeps (l.map iD)≤1
  | []=>by rw [List.map_nil,D.deeps];omega
  | .inl (.inl k) :: ks=>by rw [List.map_cons,D.deeps];have:=nk_deeps ks;show max (D.deep (.int k)) _≤1;rw [D.deep];omega
  | .inl (.inr k) :: ks=>by rw [List.map_cons,D.deeps];have:=nk_deeps ks;show max (D.deep (.str k)) _≤1;rw [D.deep];omega
  | .inr l :: ks=>by rw [List.map_cons,D.deeps];have:=nk_deeps ks;show max (D.deep (.tup (l.map kD))) _≤1;rw [D.deep,kDs_deep];omega
theorem nk_deep (k:NK):(nkD k).deep≤2:=by rw [nkD,D.deep];have:=nk_deeps k;omega
end
section
variable {P:Program} {w:World} {A:Around} {E:Value→Shared→Prop} {s:Shared}
theorem wpAny_eqBool_nk {x y:NK} {a b:Addr} {Q:Bool→Shared→Prop} (hu:A.units+5 < cLine) (hx:IsNK P w s.heap x a) (hy:IsNK P w s.heap y b) (h:Q (decide (x=y)) s) :
    wpAny (model P w) A (eqBool (.ref a) (.ref b)) Q E s:=by
  refine eqAt_D 2 (nk_deep x) hx.denR hy.denR (by omega) P w E Q ?_
  have e:decide (nkD x=nkD y)=decide (x=y):=decide_eq_decide.mpr ⟨nkD_inj,fun z=>by rw [z]⟩
  rw [e];exact h
theorem quiet_flat {K:Type} [DecidableEq K] {knd:KeyKind P w K} (n:Nat) {ks:List K} {a:Addr} {Q:Bool→Shared→Prop} (hk:IsTupleKey knd s.heap ks a) (h:Q true s):wpAny (model P w) A (eqIsQuiet (n+1) (.ref a)) Q E s:=by
  have hT:=hk.typeIs
  obtain ⟨o,items,m,ho,_,hd,hi⟩:=hk
  unfold eqIsQuiet
  refine wpAny_bind (wpAny_specialOf hT F.slot_tuple_eq.lookup ?_)
  show wpAny _ _ (isInstance (.ref a) (.type "tuple") >>= _) _ _ s
  refine wpAny_bind (wpAny_isInstance hT isSubtype_tuple_tuple ?_)
  simp only [Bool.not_true,Bool.false_eq_true,if_false]
  refine wpAny_bind (wpAny_seqItems ho hd ?_)
  refine wpAny_bind ?_
  show wpAny _ _ (forIn items _ _) _ _ s
  rw [← Array.forIn_toList]
  refine wpAny_forIn_list _ (fun rest r s'=>r.1=none∧s'=s∧∀ v∈rest,carriedByValue v=true) _ ?_ ?_ _ _ ⟨rfl,rfl,hi.byValue⟩
  · rintro v rest r s' ⟨hr,rfl,hall⟩
    rw [eqIsQuiet_byValue _ (hall v List.mem_cons_self)]
    refine wpAny_bind (wpAny_pure ?_)
    simp only [Bool.not_true,Bool.false_eq_true,if_false]
    exact wpAny_pure ⟨rfl,rfl,fun u hu'=>hall u (List.mem_cons_of_mem _ hu')⟩
  · rintro ⟨r1,r2⟩ s' ⟨hr,rfl,_⟩
    simp only at hr
    subst hr
    exact wpAny_pure h
theorem quiet_nk {k:NK} {a:Addr} {Q:Bool→Shared→Prop} (hk:IsNK P w s.heap k a) (h:Q true s):wpAny (model P w) A (eqIsQuiet 8 (.ref a)) Q E s:=by
  obtain ⟨us,p,hi⟩:=hk
  have hT:s.TypeIs (.ref a) "tuple" := p.typeIs
  obtain ⟨o,ho,_,m,hd⟩:=p
  unfold eqIsQuiet
  refine wpAny_bind (wpAny_specialOf hT F.slot_tuple_eq.lookup ?_)
  show wpAny _ _ (isInstance (.ref a) (.type "tuple") >>= _) _ _ s
  refine wpAny_bind (wpAny_isInstance hT isSubtype_tuple_tuple ?_)
  simp only [Bool.not_true,Bool.false_eq_true,if_false]
  refine wpAny_bind (wpAny_seqItems ho hd ?_)
  refine wpAny_bind ?_
  show wpAny _ _ (forIn us.toArray _ _) _ _ s
  rw [← Array.forIn_toList]
  refine wpAny_forIn_list _ (fun rest r s'=>r.1=none∧s'=s∧∃ left,NIt P w s.heap left rest) _ ?_ ?_ _ _ ⟨rfl,rfl,k,by simpa using hi⟩
  · rintro v rest r s' ⟨hr,rfl,left,hl⟩
    cases left with
    | nil=>rw [NIt] at hl;cases hl
    | cons i left =>
      cases i with
      | inl k =>
        rw [NIt] at hl
        obtain ⟨u,us',e,r1,hl⟩:=hl
        cases e
        rw [eqIsQuiet_byValue _ ((mixKind P w).byValue _ _ r1)]
        refine wpAny_bind (wpAny_pure ?_)
        simp only [Bool.not_true,Bool.false_eq_true,if_false]
        exact wpAny_pure ⟨rfl,rfl,left,hl⟩
      | inr l =>
        rw [NIt] at hl
        obtain ⟨b,us',e,r1,hl⟩:=hl
        cases e
        refine wpAny_bind (quiet_flat 6 r1 ?_)
        simp only [Bool.not_true,Bool.false_eq_true,if_false]
        exact wpAny_pure ⟨rfl,rfl,left,hl⟩
  · rintro ⟨r1,r2⟩ s' ⟨hr,rfl,_⟩
    simp only at hr
    subst hr
    exact wpAny_pure h
theorem wpAny_pyHash_nk {k:NK} {a:Addr} {Q:Int→Shared→Prop} (hu:A.units+5 < cLine) (hk:IsNK P w s.heap k a) (h:Q (nkHash P w k) { s with toks:=s.toks+nkDraws k }) :
    wpAny (model P w) A (pyHash (.ref a)) Q E s:=by
  obtain ⟨us,p,hi⟩:=hk
  have hT:s.TypeIs (.ref a) "tuple" := p.typeIs
  obtain ⟨o,ho,_,n,hd⟩:=p
  unfold pyHash
  first | unfold pyHashByItsType | skip
  first | refine wpAny_bind (wpAny_cRoomFor_or (.inr (by omega)) ?_) | skip
  refine wpAny_bind (wpAny_specialOf hT F.slot_tuple_hash.lookup ?_)
  show wpAny _ _ (if (some (Value.builtin "tuple.__hash__") == some Value.none)=true then _ else _) Q E s
  rw [if_neg (by rw [beq_builtin_none];exact Bool.false_ne_true)]
  refine wpAny_bind (wpAny_specialOf hT F.slot_tuple_hash.lookup ?_)
  show wpAny _ _ (callSpecialIfBoundUnlessNone? (.ref a) "__hash__" _ >>= _) Q E s
  refine wpAny_bind (wpAny_callSpecialIfBoundUnlessNone?_slot hT F.slot_tuple_hash (wpAny_call_entry F.slot_tuple_hash hT F.entry_tuple_hash ?_ (F.args_tuple_hash_1 _)))
  show wpAny _ _ (Builtin.Tuple.tupleItemsOf (.ref a) >>= _) _ _ s
  refine wpAny_bind (wpAny_tupleItemsOf ho hd ?_)
  refine wpAny_bind ?_
  rw [← Array.forIn_toList]
  refine wpAny_forIn_list _
    (fun rest (b:Array Int) s'=>∃ done left:NK,k=done ++ left∧NIt P w s.heap left rest∧b.toList=done.map (iHash P w)∧s'={ s with toks:=s.toks+(done.map iDraws).sum })
    _ ?_ ?_ _ _ ⟨[],k,rfl,by simpa using hi,rfl,rfl⟩
  · rintro x rest b s' ⟨done,left,rfl,hl,hb,rfl⟩
    cases left with
    | nil=>rw [NIt] at hl;cases hl
    | cons i left =>
      cases i with
      | inl k =>
        rw [NIt] at hl
        obtain ⟨u,us',e,r1,hl⟩:=hl
        cases e
        refine wpAny_bind ((mixKind P w).pyHash r1 ?_)
        first
          | exact wpAny_pure ⟨done ++ [.inl k],left,by simp,hl,by simp [hb,iHash],by simp [Nat.add_assoc,iDraws]⟩
          | exact wpAny_bind (wpAny_pure (wpAny_pure ⟨done ++ [.inl k],left,by simp,hl,by simp [hb,iHash],by simp [Nat.add_assoc,iDraws]⟩))
      | inr l =>
        rw [NIt] at hl
        obtain ⟨c,us',e,r1,hl⟩:=hl
        cases e
        refine wpAny_bind (wpAny_pyHash_tuple (by show A.units+1 < cLine;omega) r1 ?_)
        first
          | exact wpAny_pure ⟨done ++ [.inr l],left,by simp,hl,by simp [hb,iHash],by simp [Nat.add_assoc,iDraws]⟩
          | exact wpAny_bind (wpAny_pure (wpAny_pure ⟨done ++ [.inr l],left,by simp,hl,by simp [hb,iHash],by simp [Nat.add_assoc,iDraws]⟩))
  · rintro b s' ⟨done,left,rfl,hl,hb,rfl⟩
    have e:left = []:=by
      cases left with
      | nil=>rfl
      | cons i left=>cases i <;> rw [NIt] at hl <;> obtain ⟨_,_,z,_⟩:=hl <;> cases z
    subst e
    rw [List.append_nil] at h
    show wpAny _ _ (retInt (Builtin.Tuple.tupleHashOf b.toList)) _ _ _
    rw [hb]
    refine wpAny_ret_mkInt ?_
    show wpAny _ _ (if (decide (-(2:Int) ^ 63≤Builtin.Tuple.tupleHashOf (done.map (iHash P w))) && decide (Builtin.Tuple.tupleHashOf (done.map (iHash P w)) < 2 ^ 63))=true then _ else _) Q E _
    unfold nkHash reduceHash nkDraws at h
    by_cases hr:(decide (-(2:Int) ^ 63≤Builtin.Tuple.tupleHashOf (done.map (iHash P w))) && decide (Builtin.Tuple.tupleHashOf (done.map (iHash P w)) < 2 ^ 63))=true
    · rw [if_pos hr]
      rw [if_pos hr] at h
      exact wpAny_pure (by simpa [Nat.add_assoc] using h)
    · rw [if_neg hr]
      rw [if_neg hr] at h
      exact wpAny_bind (wpAny_rule (wpAny_pure (by simpa [Nat.add_assoc] using h)))
end
noncomputable def nkKind (P:Program) (w:World):HeapKind P w NK where
  is:=IsNK P w
  hash:=nkHash P w
  draws:=nkDraws
  room:=fun A=>A.units+5 < cLine
  inj:=fun hx hy=>hx.inj hy
  keeps:=fun x ho hd hs=>x.keeps ho hd hs
  pyHash:=fun hu hk h=>wpAny_pyHash_nk hu hk h
  eqBool:=fun hu hx hy h=>wpAny_eqBool_nk hu hx hy h
  quiet:=fun hk h=>quiet_nk hk h

section
variable {prog:Program} {w:World} {K:Type} [DecidableEq K] {knd:HeapKind prog w K} {A:Around} {E:Value→Shared→Prop} {s:Shared} {d a:Addr} {k:K} {xs:List (K × Addr × Value)}
theorem wpAny_dictSetDefault_heap {dflt:Value} {Q:Value→Shared→Prop} (hu:knd.room A) (hkey:knd.is s.heap k a) (hm:s.heap.DictOfH knd d xs)
    (hthere:∀ p,atKey xs k=some p→Q p.2 { s with toks:=s.toks+knd.draws k })
    (hnew:atKey xs k=none→∀ h',h'.DictOfH knd d (xs ++ [(k,a,dflt)])→Heap.SameBut d s.heap h'→Q dflt { s with heap:=h',toks:=s.toks+knd.draws k })
    (hsz:xs.length≤sizeLine):wpAny (model prog w) A (dictSetDefault d (.ref a) dflt) Q E s:=by
  obtain ⟨o,es,ep,ho,hc,hd,he,his,hn⟩:=hm
  unfold dictSetDefault
  try with_reducible refine wpAny_holding ?_
  refine wpAny_bind (knd.pyHash hu hkey ?_)
  refine wpAny_bind (wpAny_dictFind_heap (s := { s with toks:=s.toks+knd.draws k }) hu hkey ho hd he his hn ?_ ?_)
  · intro hno
    have hnot:k ∉ xs.map (·.1):=not_mem_keys_of_get hno
    refine wpAny_bind (wpAny_rule (wpAny_bind (wpAny_updateDictKeys (hz:=by have e:=size_of_entries he;omega) (s := { s with toks:=s.toks+knd.draws k }) ho hd (wpAny_pure (hnew (atKey_none_of_get hno) _ ⟨_,_,ep+1,Heap.get?_update_self _ ho (Obj.isFreed_of_dict (Obj.data_mapDictKeys hd _)),
      hc.mapDictKeys _,Obj.data_mapDictKeys hd _,?_,?_,?_⟩ (Heap.SameBut.update ..))))))
    · simp [he,entryOfKey]
    · intro x hx
      rcases List.mem_append.mp hx with hx | hx
      · exact knd.keeps (his x hx) ho hd (Heap.SameBut.update ..)
      · simp only [List.mem_singleton] at hx
        subst hx
        exact knd.keeps hkey ho hd (Heap.SameBut.update ..)
    · rw [List.map_append,List.nodup_append]
      refine ⟨hn,by simp,?_⟩
      intro x hx y hy
      simp only [List.map_cons,List.map_nil,List.mem_singleton] at hy
      subst hy
      exact fun e=>hnot (e ▸ hx)
  · intro j p hj
    refine wpAny_bind (wpAny_dictEntries (s := { s with toks:=s.toks+knd.draws k }) ho hd ?_)
    rw [entry_at he j,hj]
    exact wpAny_bind (wpAny_rule (wpAny_pure (hthere p (atKey_of_get hn hj))))
end
section
variable {prog:Program} {w:World} {K:Type} [DecidableEq K] (knd:HeapKind prog w K) (d a:Addr)
theorem meetsH_dict_setdefault (hd:(d == sysModules)=false) (dflt:Value) :
    MeetsIn prog w (Builtin.«dict.setdefault» ⟨[.ref d,.ref a,dflt], []⟩) (fun A R s=>knd.room A.in1∧∃ k xs,knd.is s.heap k a∧s.heap.DictOfH knd d xs∧xs.length≤sizeLine ∧
      (∀ p,atKey xs k=some p→R (.ok (.ret p.2)) { s with toks:=s.toks+knd.draws k }) ∧
      (atKey xs k=none→∀ h',h'.DictOfH knd d (xs ++ [(k,a,dflt)])→Heap.SameBut d s.heap h'→R (.ok (.ret dflt)) { s with heap:=h',toks:=s.toks+knd.draws k })) :=
  .of_wp fun A R s ⟨hu,k,xs,hkey,hm,hz,h1,h2⟩=>by
    unfold Builtin.«dict.setdefault»
    refine wpAny_bind ?_
    unfold Builtin.Dict.keyAndDefault
    refine wpAny_bind (wpAny_notOrdered_dict hm.typeIs ?_)
    show wpAny _ _ (pure (d,Value.ref a,some dflt)) _ _ s
    refine wpAny_pure ?_
    show wpAny _ _ (if (d == sysModules)=true then _ else (dictSetDefault d (.ref a) dflt >>= _)) _ _ s
    rw [if_neg (by rw [hd];exact Bool.false_ne_true)]
    exact wpAny_bind (wpAny_dictSetDefault_heap hu hkey hm (fun p hp=>wpAny_pure ⟨p.2,rfl,h1 p hp⟩) (fun hn h' hm' hs'=>wpAny_pure ⟨dflt,rfl,h2 hn h' hm' hs'⟩) hz)
end
end L2
namespace L2
open PySem PySem.Spec PyProof.Rows

section
variable {X:Cx} {scope:Scope} {own:List Str} {caps:List (Str × Nat)} {pins:List (Addr × Obj)} {σ : St} {H:Hp} {s:Shared} {fp:List Addr}
theorem comp_goI {prog:Program} {w:World} {A:Around} {R:Result→Shared→Prop} {elt target iter tst:Expr} {pos:Pos} {it acc:Value} {env:Env} (Iv:Nat→Shared→Prop)
    (turn:∀ n s,Iv n s→wpAny (model prog w) A (pyNext it) (fun r s₁ => match r with
      | none=>R (.ok .next) s₁
      | some v=>wpAny (model prog w) A (letOwnedTupleGo target it v) (fun _ s₂ => wpAny (model prog w) A (assign target env v) (fun _ s₃ => wpAny (model prog w) A (isTrue tst env (eval tst env)) (fun ok s₆ => if ok=true then wpAny (model prog w) A (eval elt env) (fun x s₄ =>
              wpAny (model prog w) A (call (.builtin "list.append") [acc,x]) (fun _ s₅ => ∃ m,m < n∧Iv m s₅) (fun _ _=>False) s₄) (fun _ _=>False) s₆ else ∃ m,m < n∧Iv m s₆) (fun _ _=>False) s₃) (fun _ _=>False) s₂) (fun _ _=>False) s₁) (fun _ _=>False) s)
    (n:Nat) (h:Iv n s):codeAny (model prog w) A (.compLoop (.ListComp elt [⟨target,iter, [tst],0⟩] scope pos) 0 it acc env) R s:=by
  refine codeAny_loop rfl Iv (fun n s hI => ?_) n h
  show wpAny _ A ((compTurn (.ListComp elt [⟨target,iter, [tst],0⟩] scope pos) 0 it acc env).onRaise (fun x=>do noteFrame x env;theTreesLotGoes x)) _ _ s
  refine wpAny_noted ?_
  rw [compTurn_list]
  refine wpAny_bind (wpAny_standAt (wpAny_bind (wpAny_mono (turn n s hI) (fun r s₁ h₁ => ?_) fun _ _ z=>z.elim)))
  cases r with
  | none=>exact wpAny_pure h₁
  | some v =>
    refine wpAny_bind (wpAny_mono h₁ (fun _ s₂ h₂ => wpAny_bind (wpAny_mono h₂ (fun _ s₃ h₃ => wpAny_bind (wpAny_tests_one (wpAny_mono h₃ (fun ok s₆ h₆ => ?_) fun _ _ z=>z.elim))) fun _ _ z=>z.elim)) fun _ _ z=>z.elim)
    cases ok with
    | true =>
      have h₆':=(if_pos rfl:(if true=true then _ else _)=_) ▸ h₆
      exact wpAny_bind (wpAny_bind (wpAny_mono h₆' (fun x s₄ h₄ => wpAny_bind (wpAny_mono h₄ (fun _ s₅ h₅ => wpAny_pure (wpAny_pure ⟨rfl,h₅⟩)) fun _ _ z=>z.elim)) fun _ _ z=>z.elim))
    | false =>
      have h₆':∃ m,m < n∧Iv m s₆ := h₆
      exact wpAny_bind (wpAny_pure (wpAny_pure ⟨rfl,h₆'⟩))

noncomputable def CompBodyI (J:It) (g:TG) (ct:TT) (te:TE) (τ0:St) (H1:Hp) (Q:VK):Prop := ∀ D,H1 D=none→∃ W:Nat→Nat→St→List V→Hp→Prop,
  (∃ m,W 0 m τ0 [] (upd H1 D (.lst []))) ∧
  ∀ i m τ ys H,W i m τ ys H→H D=some (.lst ys)∧((J.stop i H∧Q (.ref D) H)∨(J.go i H∧ys.length < sizeLine∧∀ x H',J.yld i H x H'→g x τ H' fun τ2 H2=>ct τ2 H2 fun b H4=>if b=true then te τ2 H4 fun y H3 =>
    H3 D=some (.lst ys)∧∃ m',m' < m∧W (i+1) m' τ2 (ys ++ [y]) (upd H3 D (.lst (ys ++ [y]))) else ∃ m',m' < m∧W (i+1) m' τ2 ys H4))
noncomputable def tCompI (wi:TI) (g:TG) (ct:TT) (te:TE) (k:Nat) (caps:List (Str × Nat)):TE:=fun σ H Q=>wi σ H fun J H1=>CompBodyI J g ct te (List.replicate k none ++ capt σ caps) H1 Q

theorem comp_coreI {tg elt iter tst:Expr} {wi:TI} {g:TG} {ct:TT} {te:TE} {pos p2:Pos} {use:Option (Value→Sem Unit)} {Q:VK} {Q':Value→Shared→Prop} (S:CompScope X scope own caps) (hi:PI X tg iter wi) (hc:X.calm=true)
    (hg:∀ fp s H,PG (cxComp X scope (own ++ caps.map (·.1)) fp s H) tg g) (hct:∀ fp s H,PT (cxComp X scope (own ++ caps.map (·.1)) fp s H) tst ct) (he:∀ fp s H,PE (cxComp X scope (own ++ caps.map (·.1)) fp s H) elt te)
    (I:Inv X pins σ H s) (h:tCompI wi g ct te own.length caps σ H Q)
    (fin:∀ D C H5 s5,Inv X pins σ H5 s5→Q (.ref D) H5→(∃ m,s5.heap.Ns C m)→H5 C=none→C≠X.env.locals→X.s₀.heap.objs.size≤C→(∀ x c,X.env.cells.lookup x=some c→c≠C)→(∀ p∈X.pn ++ pins,p.1≠C) →
      compPost (model X.prog X.w) X.A X.xe use Q' (.ref D) C (.ok .next) s5)
    (hs:∀ x,foldedSetIterable iter X.env x=pure x:=by intro _;rfl) :
    wpAny (model X.prog X.w) X.A (comprehension (.ListComp elt [⟨tg,iter, [tst],0⟩] scope pos) scope X.env p2 (newList []) false (eval iter X.env) use) Q' X.xe s:=by
  have hclos:closureFor scope X.env=pure (capsOf X.env.cells scope.names []):=closure_caps fun y hy hk=>I.ok.has y.1 (.inl (S.frees y hy hk))
  refine wpAny_comprehension_free (g:=⟨tg,iter, [tst],0⟩) (gs := []) rfl hs hclos S.kind S.locs (thn (hi pins s σ H _ I h) fun v s1 h1=>thn h1 fun itv s2 h2 => ?_)
  obtain ⟨it,fp,tn,J,H2,e,I2,T,st2,f2,R⟩:=h2
  subst e
  refine wpAny_newObj_type (wpAny_newFunctionEnv S.nocell (by intro y hy;simp at hy) (fun h₁ hns₁ hsb₁ => ?_) S.kind)
  have fr2:H2 s2.heap.objs.size=none:=I2.hok.fresh (Nat.le_refl _)
  obtain ⟨W,⟨m0,w0⟩,turn⟩:=R s2.heap.objs.size fr2
  have I3:Inv X pins σ (upd H2 s2.heap.objs.size (.lst [])) { s2 with heap:=s2.heap.push { cls := .type "list",dict:=none,data := .seq ([]:List Value).toArray } }:=I2.lnew (its := []) (t':=s2.toks) .nil (Nat.zero_le _)
  have lt2:∀ b∈fp,b < s2.heap.objs.size:=fun b hb=>by
    obtain ⟨o,ho,_⟩:=T.obj _ _ st2 b hb
    exact Heap.lt_size ho
  have f3:∀ b∈fp,FpOk X pins (upd H2 s2.heap.objs.size (.lst [])) b:=fun b hb=>⟨by rw [upd_ne (Nat.ne_of_lt (lt2 b hb))];exact (f2 b hb).1,(f2 b hb).2⟩
  generalize hs3:({ s2 with heap:=s2.heap.push { cls := .type "list",dict:=none,data := .seq ([]:List Value).toArray } }:Shared)=s3 at I3
  have hz3:s3.heap.objs.size=s2.heap.objs.size+1:=by rw [← hs3];exact Heap.size_push _ _
  have kp23:∀ b o,s2.heap.get? b=some o→s3.heap.get? b=some o:=fun b o e=>by rw [← hs3];exact Heap.get?_push_of_some _ e
  have lt3:∀ b∈fp,b < s3.heap.objs.size:=fun b hb=>by rw [hz3];exact Nat.lt_succ_of_lt (lt2 b hb)
  have hns₁':h₁.Ns s3.heap.objs.size (fun x=>([]:List (Str × Value)).reverse.lookup x):=by rw [← hs3];exact hns₁
  have kp31:∀ b o,s3.heap.get? b=some o→h₁.get? b=some o:=fun b o e=>by
    have hb:b≠s3.heap.objs.size:=Nat.ne_of_lt (Heap.lt_size e)
    rw [← hs3] at e hb
    exact hsb₁.extBut b o hb (Heap.get?_push_of_some _ e)
  have J1:=comp_start S I3 f3 lt3 (t:=s2.toks+([]:List (Str × Value)).length) hns₁' kp31
  have st1:tn 0 h₁ := T.keep _ _ _ st2 fun b hb o e=>kp31 b o (kp23 b o e)
  -- the loop
  have loop:∀ s₃ : Shared,s₃ = { s3 with heap:=h₁,toks:=s2.toks+([]:List (Str × Value)).length } →
      codeAny (model X.prog X.w) X.A (.compLoop (.ListComp elt [⟨tg,iter, [tst],0⟩] scope pos) 0 (.ref it) (.ref s2.heap.objs.size) (cxComp X scope (own ++ caps.map (·.1)) fp s3 (upd H2 s2.heap.objs.size (.lst []))).env)
        (compPost (model X.prog X.w) X.A X.xe use Q' (.ref s2.heap.objs.size) s3.heap.objs.size) s₃ := by
    rintro s₃ rfl
    refine comp_goI (fun n s'=>∃ i τ ys H',Inv (cxComp X scope (own ++ caps.map (·.1)) fp s3 (upd H2 s2.heap.objs.size (.lst []))) [] τ H' s'∧tn i s'.heap∧(∀ b∈fp,H' b=none)∧W i n τ ys H') ?_ m0
      ⟨0,_, [],_,J1,st1,fun b hb=>(f3 b hb).1,w0⟩
    rintro n s' ⟨i, τ,ys,H',J',st',fr',w'⟩
    have fY:∀ {H'':Hp},(∀ b∈fp,H'' b=none)→∀ b∈fp,FpOk (cxComp X scope (own ++ caps.map (·.1)) fp s3 (upd H2 s2.heap.objs.size (.lst []))) [] H'' b:=fun hn b hb =>
      ⟨hn b hb,Nat.ne_of_lt (lt3 b hb),fun z=>by
          rcases List.mem_cons.mp (I3.stkSub b z) with e | e
          · exact (f3 b hb).2.1 e
          · exact (f3 b hb).2.2.1 e,.inl hb,fun x c e=>(f3 b hb).2.2.2.2.1 x c (caps_cells e),(fun p hp=>by cases hp)⟩
    obtain ⟨hD,tt⟩:=turn i n τ ys H' w'
    rcases tt with ⟨stop,qn⟩ | ⟨go,hlen,step⟩
    · refine thn (T.done (cxComp X scope (own ++ caps.map (·.1)) fp s3 (upd H2 s2.heap.objs.size (.lst []))) rfl rfl rfl hc i [] s' τ H' (fun _ _=>False) J' (fY fr') st' stop) fun r s4 ⟨hr,J4⟩ => ?_
      subst hr
      obtain ⟨m4,hn4,_⟩:=J4.loc
      have I5:=comp_back I3 J4 f3
      refine fin _ _ _ s4 I5 qn ⟨m4,hn4⟩ J4.free ?_ ?_ (fun x c e z => ?_) fun p hp z => ?_
      · exact Nat.ne_of_gt I3.lt
      · exact I3.sz
      · obtain ⟨v,q⟩:=I3.cell x c e
        rw [z] at q
        exact absurd q.lt (Nat.lt_irrefl _)
      · have q:=(I3.pin p hp).1
        rw [z] at q
        exact absurd (Heap.lt_size q) (Nat.lt_irrefl _)
    · refine thn (T.item (cxComp X scope (own ++ caps.map (·.1)) fp s3 (upd H2 s2.heap.objs.size (.lst []))) rfl rfl rfl hc i [] s' τ H' (fun _ _=>False) J' (fY fr') st' go) fun r s4 ⟨u,hr,h4⟩ => ?_
      subst hr
      refine thn h4 fun _ s5 ⟨x,H5,J5,r5,y5,st5,fr5⟩ => ?_
      have J5':=J5.pinned (fY fr5) (T.obj _ _ st5)
      have keepsT:∀ {τ6:St} {H8:Hp} {s8:Shared},Inv (cxComp X scope (own ++ caps.map (·.1)) fp s3 (upd H2 s2.heap.objs.size (.lst []))) ([] ++ pinsAt fp s5.heap) τ6 H8 s8→tn (i+1) s8.heap∧∀ b∈fp,H8 b=none:=fun {τ6 H8 s8} J8=>by
        refine ⟨T.keep _ _ _ st5 fun b hb o e=>(J8.pin (b,o) (List.mem_append_right _ (List.mem_append_right _ (mem_pinsAt hb e)))).1,fun b hb => ?_⟩
        obtain ⟨o,e,d⟩:=T.obj _ _ st5 b hb
        exact (J8.pin (b,o) (List.mem_append_right _ (List.mem_append_right _ (mem_pinsAt hb e)))).2.1
      refine thn (hg fp s3 _ _ s5 τ H5 x u _ J5' r5 (step x H5 y5)) fun _ s6 ⟨τ6,H6,J6,q6⟩ => ?_
      refine thn (hct fp s3 _ _ s6 τ6 H6 _ J6 q6) fun ok s9 ⟨H9,J9,q9⟩ => ?_
      cases ok with
      | false =>
        obtain ⟨m',hm',w9⟩:=(show ∃ m',m' < n∧W (i+1) m' τ6 ys H9 from q9)
        exact ⟨m',hm',i+1, τ6,ys,_,J9.unpinned,(keepsT J9).1,(keepsT J9).2,w9⟩
      | true =>
        refine thn (he fp s3 _ _ s9 τ6 H9 _ J9 q9) fun yv s7 ⟨y,H7,J7,r7,hD7,m',hm',w7⟩ => ?_
        refine thn (mt_append (X:=cxComp X scope (own ++ caps.map (·.1)) fp s3 (upd H2 s2.heap.objs.size (.lst []))) _ s7 τ6 H7 (.ref s2.heap.objs.size) [y] _ [yv] (fun _ H8=>H8=upd H7 s2.heap.objs.size (.lst (ys ++ [y]))) J7 rfl (.cons r7 .nil) ⟨_,ys,y,rfl,rfl,hD7,hlen,rfl⟩) fun _ s8 ⟨_,H8,J8,_,e8⟩ => ?_
        subst e8
        exact ⟨m',hm',i+1, τ6,ys ++ [y],_,J8.unpinned,(keepsT J8).1,(keepsT J8).2,w7⟩
  have hloop:=loop _ rfl
  subst hs3
  exact codeAny_compStart_list hloop (T.self _ 0 _ _ _ st1 hloop)
theorem pe_compI {tg elt iter tst:Expr} {wi:TI} {g:TG} {ct:TT} {te:TE} {pos:Pos} (S:CompScope X scope own caps) (hi:PI X tg iter wi) (hc:X.calm=true)
    (hg:∀ fp s H,PG (cxComp X scope (own ++ caps.map (·.1)) fp s H) tg g) (hct:∀ fp s H,PT (cxComp X scope (own ++ caps.map (·.1)) fp s H) tst ct) (he:∀ fp s H,PE (cxComp X scope (own ++ caps.map (·.1)) fp s H) elt te)
    (hs:∀ x,foldedSetIterable iter X.env x=pure x:=by intro _;rfl):PE X (.ListComp elt [⟨tg,iter, [tst],0⟩] scope pos) (tCompI wi g ct te own.length caps):=by
  intro pins s σ H Q I h
  rw [eval_ListComp]
  refine comp_coreI (use:=none) (Q:=Q) S hi hc hg hct he I h (fun D C H5 s5 I5 q ⟨m,hn⟩ hC hL hz hcell hpin => ?_) hs
  refine ⟨m,hn,fun h' hs' => ?_⟩
  exact ⟨.ref D,H5,I5.turned (t':=s5.toks) (fun b o hb e=>(hs'.2 b hb).trans e) hC hL (.inr hz) hcell hpin,rfl,q⟩
theorem ps_setCompI {i:Nat} {y:Str} {tg elt iter tst:Expr} {wi:TI} {g:TG} {ct:TT} {te:TE} {pos spos py:Pos} (hN:X.N.Nodup) (hiN:X.N[i]? = some y) (hy:X.env.scope.names.lookup y=some .local) (S:CompScope X scope own caps) (hi:PI X tg iter wi) (hc:X.calm=true)
    (hg:∀ fp s H,PG (cxComp X scope (own ++ caps.map (·.1)) fp s H) tg g) (hct:∀ fp s H,PT (cxComp X scope (own ++ caps.map (·.1)) fp s H) tst ct) (he:∀ fp s H,PE (cxComp X scope (own ++ caps.map (·.1)) fp s H) elt te)
    (hsw:swapsWith (.ListComp elt [⟨tg,iter, [tst],0⟩] scope pos) (some (.Name y py)) spos.line X.env=pure true)
    (hs:∀ x,foldedSetIterable iter X.env x=pure x:=by intro _;rfl):PS X (.Assign [.Name y py] (.ListComp elt [⟨tg,iter, [tst],0⟩] scope pos) spos) (tAsg (tCompI wi g ct te own.length caps) (gName i)):=by
  intro pins s σ H D I h
  rw [exec_Assign_Name_used _ _ _ _ hsw]
  refine wpAny_bind (wpAny_standAt (wpAny_bind ?_))
  show wpAny _ X.A (do let _ ← comprehension (.ListComp elt [⟨tg,iter, [tst],0⟩] scope pos) scope X.env _ (newList []) false (eval iter X.env) (some (assign (.Name y py) X.env))) _ _ s
  refine wpAny_bind (wpAny_mono (comp_coreI (use:=some (assign (.Name y py) X.env)) (Q:=fun x H1=>D.nx (σ.set i (some x)) H1) (Q':=fun _ s'=>SP X pins D .next s') S hi hc hg hct he I h (fun A C H5 s5 I5 q ⟨m,hn⟩ hC hL hz hcell hpin => ?_) hs)
    (fun _ s' hq=>wpAny_pure (wpAny_pure hq)) fun _ _ e=>e)
  show wpAny _ X.A (assign (.Name y py) X.env (.ref A)) _ _ _
  refine wpAny_assign_Name (store_ok2 I5 hN hiN (.inl hy) (v := .ref A) rfl (fun s6 I6 ⟨a,hsb,ha⟩ => ?_) (.inr hy))
  have haC:C≠a:=by
    rcases ha with ha | ha
    · rw [ha];exact hL
    · exact fun z=>hcell y a ha z.symm
  refine ⟨m,hn.sameBut hsb haC,fun h' hs' => ?_⟩
  exact ⟨_,H5,I6.turned (t':=s6.toks) (fun b o hb e=>(hs'.2 b hb).trans e) hC hL (.inr hz) hcell hpin,q⟩
end
end L2
namespace L2
open PySem PySem.Spec PyProof.Rows

noncomputable def NKs (H:Hp):NK→List V→Prop
  | [],vs=>vs = []
  | .inl k :: ks,vs=>∃ vs',vs=kV k :: vs'∧NKs H ks vs'
  | .inr l :: ks,vs=>∃ b vs',vs=V.ref b :: vs'∧H b=some (.tup (l.map kV))∧NKs H ks vs'
noncomputable def NKey (H:Hp) (k:NK) (a:Addr):Prop := ∃ vs,H a=some (.tup vs)∧NKs H k vs
theorem NKs.keep {H H':Hp} (ht:∀ b ys,H b=some (.tup ys)→H' b=some (.tup ys)):∀ {k:NK} {vs:List V},NKs H k vs→NKs H' k vs
  | [],vs,r=>by rw [NKs] at r ⊢;exact r
  | .inl k :: ks,vs,r=>by
    rw [NKs] at r ⊢
    obtain ⟨vs',e,r⟩:=r
    exact ⟨vs',e,NKs.keep ht r⟩
  | .inr l :: ks,vs,r=>by
    rw [NKs] at r ⊢
    obtain ⟨b,vs',e,q,r⟩:=r
    exact ⟨b,vs',e,ht _ _ q,NKs.keep ht r⟩
theorem NKey.keep {H H':Hp} {k:NK} {a:Addr} (ht:∀ b ys,H b=some (.tup ys)→H' b=some (.tup ys)) (r:NKey H k a):NKey H' k a:=by
  obtain ⟨vs,e,r⟩:=r
  exact ⟨vs,ht _ _ e,r.keep ht⟩
section
variable {P:Program} {w:World} {H:Hp} {h:Heap}
theorem nks_of (ok:HOk P w H h):∀ {k:NK} {vs:List V} {us:List Value},NKs H k vs→Vals vs us→NIt P w h k us
  | [],vs,us,r,q=>by rw [NKs] at r;subst r;cases q;rw [NIt]
  | .inl k :: ks,vs,us,r,q=>by
    rw [NKs] at r
    obtain ⟨vs',rfl,r⟩:=r
    cases q with
    | cons q1 q2=>rw [NIt];exact ⟨_,_,rfl,kV_is q1,nks_of ok r q2⟩
  | .inr l :: ks,vs,us,r,q=>by
    rw [NKs] at r
    obtain ⟨b,vs',rfl,e,r⟩:=r
    cases q with
    | cons q1 q2 =>
      rw [NIt]
      cases (show _=Value.ref b from q1)
      exact ⟨b,_,rfl,key_of ok e,nks_of ok r q2⟩
theorem nkey_of {k:NK} {a:Addr} (ok:HOk P w H h) (r:NKey H k a):IsNK P w h k a:=by
  obtain ⟨vs,e,r⟩:=r
  obtain ⟨_,its,rv,p⟩:=(show ObjOk P w H h a (.tup vs) from ok a _ e)
  exact ⟨its,p.tup,nks_of ok r rv⟩
end
noncomputable abbrev KN (H:Hp):List (NK × V)→List (NK × Addr × Value)→Prop:=Paired fun p q=>p.1=q.1∧NKey H p.1 q.2.1∧RelV p.2 q.2.2
theorem KN.val {H:Hp} {kvs:List (NK × V)} {xs:List (NK × Addr × Value)} (r:KN H kvs xs) (k:NK):RelO (valV kvs k) ((atKey xs k).map (·.2)):=by
  induction r with
  | nil=>exact True.intro
  | @cons p q ps qs h t ih =>
    obtain ⟨h1,_,h2⟩:=h
    by_cases e:p.1=k
    · have e':q.1=k:=h1.symm.trans e
      have b:atKey (q :: qs) k=some q.2:=by simp [atKey,List.find?_cons,e']
      rw [valV_pos e,b];exact h2
    · have e':¬ q.1=k:=fun z=>e (h1.trans z)
      have b:atKey (q :: qs) k=atKey qs k:=by simp [atKey,List.find?_cons,e']
      rw [valV_neg e,b];exact ih
theorem KN.keeps {H H':Hp} {kvs:List (NK × V)} {xs:List (NK × Addr × Value)} (r:KN H kvs xs) (ht:∀ b ys,H b=some (.tup ys)→H' b=some (.tup ys)):KN H' kvs xs :=
  Paired.mapP r fun _ _ z=>⟨z.1,z.2.1.keep ht,z.2.2⟩
noncomputable def DN (P:Program) (w:World) (H:Hp) (a:Addr) (kvs:List (NK × V)):Prop:=kvs.length≤sizeLine∧(a == sysModules)=false∧∃ (xs:List (NK × Addr × Value)) (o:Obj) (es:Array DictEntry) (ep:Nat),
  H a=some (.ext fun h=>h.get? a=some o)∧KN H kvs xs∧o.ExactDict∧o.data = .dict es ep∧es.toList=xs.map (entryOfKey (nkKind P w))∧(xs.map (·.1)).Nodup
theorem DN.keep {P:Program} {w:World} {H H':Hp} {a:Addr} {kvs:List (NK × V)} (d:DN P w H a kvs) (ha:∀ φ,H a=some (.ext φ)→H' a=some (.ext φ)) (ht:∀ b ys,H b=some (.tup ys)→H' b=some (.tup ys)):DN P w H' a kvs:=by
  obtain ⟨z,hd,xs,o,es,ep,e,r,q⟩:=d
  exact ⟨z,hd,xs,o,es,ep,ha _ e,r.keeps ht,q⟩
theorem DN.same {P:Program} {w:World} {H H':Hp} {a:Addr} {kvs:List (NK × V)} (d:DN P w H a kvs) (sm:Same H H'):DN P w H' a kvs:=d.keep (fun φ => sm _ _) (fun b ys=>sm _ _)
theorem DN.ext {P:Program} {w:World} {H:Hp} {a:Addr} {kvs:List (NK × V)} (d:DN P w H a kvs):∃ φ,H a=some (.ext φ):=by
  obtain ⟨_,_,xs,o,es,ep,e,_⟩:=d
  exact ⟨_,e⟩
theorem dn_rd {P:Program} {w:World} {H:Hp} {h:Heap} {a:Addr} {kvs:List (NK × V)} (ok:HOk P w H h) (d:DN P w H a kvs):kvs.length≤sizeLine∧(a == sysModules)=false ∧
    ∃ xs,KN H kvs xs∧h.DictOfH (nkKind P w) a xs:=by
  obtain ⟨z,hd,xs,o,es,ep,e,r,h2,h3,h4,h5⟩:=d
  obtain ⟨h1,_⟩:=(show ObjOk P w H h a (.ext fun h=>h.get? a=some o) from ok a _ e)
  refine ⟨z,hd,xs,r,o,es,ep,h1,h2,h3,h4,fun x hx => ?_,h5⟩
  have all:∀ {l:List (NK × V)} {m:List (NK × Addr × Value)},KN H l m→∀ x∈m,(nkKind P w).is h x.1 x.2.1:=by
    intro l m q
    induction q with
    | nil=>intro x hx;exact nomatch hx
    | @cons p q ps qs hq t ih =>
      intro x hx
      rcases List.mem_cons.mp hx with e | hx
      · subst e
        exact nkey_of ok (by rw [← hq.1];exact hq.2.1)
      · exact ih x hx
  exact all r x hx
theorem ext_ok {P:Program} {w:World} {H:Hp} {h:Heap} {a:Addr} {o:Obj} (e:h.get? a=some o):ObjOk P w H h a (.ext fun h=>h.get? a=some o):=⟨e,⟨o,e⟩,fun h1 h2 e1 k=>k o e1⟩
section
variable {X:Cx} {pins:List (Addr × Obj)} {σ : St} {H:Hp} {s:Shared} {a b:Addr} {kvs kvs':List (NK × V)} {k:NK} {y v:V} {u r:Value} {A:Around} {E:Value→Shared→Prop}
theorem dn_write {h':Heap} {t':Nat} {xs':List (NK × Addr × Value)} (I:Inv X pins σ H s) (d:DN X.prog X.w H a kvs) (hs:Heap.SameBut a s.heap h') (dd:h'.DictOfH (nkKind X.prog X.w) a xs') (rel:KN H kvs' xs') (hl:kvs'.length≤sizeLine) :
    ∃ φ,Inv X pins σ (upd H a (.ext φ)) { s with heap:=h',toks:=t' }∧DN X.prog X.w (upd H a (.ext φ)) a kvs':=by
  obtain ⟨φ0,e0⟩:=d.ext
  have hd:=d.2.1
  obtain ⟨q,es,ep,hq,h2,h3,h4,_,h5⟩:=dd
  have ht:∀ c ys,H c=some (.tup ys)→(upd H a (.ext fun h=>h.get? a=some q)) c=some (.tup ys):=fun c ys ec=>by
    rw [upd_ne (ne_of ec e0 (fun z=>nomatch z))]
    exact ec
  exact ⟨_,d_write I (by rw [e0];exact True.intro) hs ⟨q,hq⟩ (ext_ok hq),hl,hd,xs',q,es,ep,upd_same,rel.keeps ht,h2,h3,h4,h5⟩
theorem KN.snoc {xs:List (NK × Addr × Value)} (rel:KN H kvs xs) (nk:NKey H k b) (rv:RelV v r):KN H (kvs ++ [(k,v)]) (xs ++ [(k,b,r)]):=Paired.snoc rel ⟨rfl,nk,rv⟩
theorem dn_setdefault {Q:Value→Shared→Prop} (hu:A.units+10 < cLine) (I:Inv X pins σ H s) (d:DN X.prog X.w H a kvs) (nk:NKey H k b) (rv:RelV v r) (hl:kvs.length < sizeLine)
    (h1:∀ v' w' s',valV kvs k=some v'→RelV v' w'→Inv X pins σ H s'→Q w' s') (h2:valV kvs k=none→∀ φ s',Inv X pins σ (upd H a (.ext φ)) s'→DN X.prog X.w (upd H a (.ext φ)) a (kvs ++ [(k,v)])→Q r s') :
    wpAny (model X.prog X.w) A (call (.builtin "dict.setdefault") [.ref a,.ref b,r]) Q E s:=by
  obtain ⟨z,hd,xs,rel,dd⟩:=dn_rd I.hok d
  have hz:xs.length≤sizeLine:=by rw [← Paired.length rel];exact z
  have ro:=rel.val k
  refine call_meetsIn PySem.F.slot_dict_setdefault dd.typeIs PySem.F.entry_dict_setdefault (PySem.F.args_dict_setdefault_3 _ _ _) (meetsH_dict_setdefault (nkKind X.prog X.w) a b hd r)
    ⟨(show A.units+1+5 < cLine by omega),k,xs,nkey_of I.hok nk,dd,hz,fun p hp => ?_,fun hn h' dd' hs => ?_⟩
  · rw [hp] at ro
    cases e:valV kvs k with
    | none=>rw [e] at ro;exact ro.elim
    | some v'=>rw [e] at ro;exact h1 v' _ _ e ro (I.tok _)
  · rw [hn] at ro
    cases e:valV kvs k with
    | some v'=>rw [e] at ro;exact ro.elim
    | none =>
      obtain ⟨φ,I',d'⟩:=dn_write (t':=s.toks+(nkKind X.prog X.w).draws k) I d hs dd' (rel.snoc nk rv) (by rw [List.length_append];exact hl)
      exact h2 e φ _ I' d'
end
noncomputable def tSetD (P:Program) (w:World) (td ty tx:TE):TE:=fun σ H Q=>td σ H fun x H1=>∃ a,x = .ref a∧(∃ kvs,DN P w H1 a kvs)∧ty σ H1 fun y H2=>tx σ H2 fun z H3=>∃ kvs k b,DN P w H3 a kvs∧y = .ref b∧NKey H3 k b∧kvs.length < sizeLine ∧
  (∀ v,valV kvs k=some v→Q v H3)∧(valV kvs k=none→∀ φ,DN P w (upd H3 a (.ext φ)) a (kvs ++ [(k,z)])→Q z (upd H3 a (.ext φ)))
theorem isN_at {X:Cx} {pins:List (Addr × Obj)} {σ : St} {H:Hp} {s:Shared} {a:Addr} (I:Inv X pins σ H s) (d:∃ kvs,DN X.prog X.w H a kvs) :
    s.TypeIs (.ref a) "dict" ∧ (∀ b,Value.ref a = .ref b→∃ ob,s.heap.get? b=some ob∧ob.dict=none)∧(a == sysModules)=false:=by
  obtain ⟨kvs,e⟩:=d
  obtain ⟨_,hd,xs,_,dd⟩:=dn_rd I.hok e
  refine ⟨dd.typeIs,fun b q => ?_,hd⟩
  cases q
  obtain ⟨ob,_,_,h1,h2,_⟩:=dd
  exact ⟨ob,h1,h2.2.1⟩
section
variable {X:Cx} {o e f:Expr} {apos cpos:Pos} {td ty tx:TE}
theorem pe_setD (hu:X.A.units+10 < cLine) (ho:PE X o td) (he:PE X e ty) (hf:PE X f tx) (m:M2 X o "setdefault" apos e f cpos):PE X (.Call (.Attribute o "setdefault" apos) [e,f] [] cpos) (tSetD X.prog X.w td ty tx):=by
  intro pins s σ H Q I h
  refine wpAny_Call_method m.base m.few m.line PySem.F.plainAttrs_dict PySem.F.slot_dict_setdefault PySem.F.type_dict_setdefault (thn (ho pins s σ H _ I h) fun u s1 ⟨x,H1,I1,rx,a,ex,d,q1⟩ => ?_)
  subst ex
  obtain rfl:u=Value.ref a:=rx
  obtain ⟨t1,t2,_⟩:=isN_at I1 d
  refine ⟨t1,t2,?_⟩
  rw [m.trees]
  refine Calls.callWith_builtin rfl (Calls.evalArgs_plain (Calls.spliced_cons (thn (he pins s1 σ H1 _ I1 q1) fun iv s2 ⟨y,H2,I2,ry,q2⟩ =>
    Calls.spliced_cons (thn (hf pins s2 σ H2 _ I2 q2) fun fv s3 ⟨z,H3,I3,rz,kvs,k,b,d3,ey,nk,hl,q3,q4⟩=>Calls.spliced_nil ?_))))
  subst ey
  obtain rfl:iv=Value.ref b:=ry
  exact dn_setdefault hu I3 d3 nk rz hl (fun v' w' s4 e4 r4 I4=>⟨v',H3,I4,r4,q3 v' e4⟩) fun hn φ s4 I4 d4=>⟨z,_,I4,rz,q4 hn φ d4⟩
noncomputable def tDNewN (P:Program) (w:World):TE:=fun _ H Q=>∀ p φ,H p=none→DN P w (upd H p (.ext φ)) p []→Q (.ref p) (upd H p (.ext φ))
theorem pe_dnewN {pos:Pos}:PE X (.Dict [] [] pos) (tDNewN X.prog X.w):=by
  intro pins s σ H Q I h
  have hd:(s.heap.objs.size == sysModules)=false:=beq_eq_false_iff_ne.mpr (Ne.symm (Nat.ne_of_lt I.big))
  refine wpAny_Dict_empty ⟨.ref s.heap.objs.size,_,I.laid (a:=s.heap.objs.size) (o := .ext fun h=>h.get? s.heap.objs.size=some { cls := .type "dict",data := .dict #[] }) (t':=s.toks) (fun _ _ q=>Heap.get?_push_of_some _ q) (Nat.le_refl _) (ext_ok (Heap.get?_push_size _ rfl)),rfl,h _ _ (I.hok.fresh (Nat.le_refl _)) ?_⟩
  exact ⟨Nat.zero_le _,hd, [],_, #[],0,upd_same,.nil,⟨rfl,rfl,rfl⟩,rfl,rfl,List.nodup_nil⟩
end
end L2
namespace Sw
inductive TM (S:Type) where
  | num (n:Int) | name (x:S) | of (x:S) (as:List Nat)
section
variable {S:Type}
inductive Eqv (ts:List (TM S)) (es:List (Nat × Nat)):Nat→Nat→Prop where
  | refl (i:Nat):Eqv ts es i i
  | symm {i j:Nat}:Eqv ts es i j→Eqv ts es j i
  | trans {i j k:Nat}:Eqv ts es i j→Eqv ts es j k→Eqv ts es i k
  | edge {i j:Nat}:(i,j)∈es→Eqv ts es i j
  | same {i j:Nat} {t:TM S}:ts[i]? = some t→ts[j]? = some t→Eqv ts es i j
  | cong {i j:Nat} {x:S} {as bs:List Nat}:ts[i]? = some (.of x as)→ts[j]? = some (.of x bs)→as.length=bs.length→(∀ (k a b:Nat),as[k]? = some a→bs[k]? = some b→Eqv ts es a b)→Eqv ts es i j
noncomputable def GoodL (ls:List Nat):Prop := ∀ k v:Nat,ls[k]? = some v→v≤k∧ls[v]? = some v
noncomputable def ren (hi lo v:Nat):Nat:=if v=hi then lo else v
noncomputable def jn (ls:List Nat) (hi lo:Nat):List Nat:=ls.map (ren hi lo)
theorem jn_at {ls:List Nat} {hi lo k:Nat}:(jn ls hi lo)[k]? = (ls[k]?).map (ren hi lo):=by unfold jn;rw [List.getElem?_map]
theorem jn_len {ls:List Nat} {hi lo:Nat}:(jn ls hi lo).length=ls.length:=by unfold jn;rw [List.length_map]
theorem good_jn {ls:List Nat} {hi lo:Nat} (g:GoodL ls) (hlo:ls[lo]? = some lo) (hl:lo < hi):GoodL (jn ls hi lo):=by
  intro k v h
  rw [jn_at] at h
  cases e:ls[k]? with
  | none=>rw [e] at h;cases h
  | some u =>
    rw [e] at h
    have h':ren hi lo u=v:=Option.some.inj h
    obtain ⟨g1,g2⟩:=g k u e
    unfold ren at h'
    by_cases hu:u=hi
    · rw [if_pos hu] at h'
      subst h'
      refine ⟨by omega,?_⟩
      rw [jn_at,hlo]
      show some (ren hi lo lo)=some lo
      unfold ren
      rw [if_neg (by omega)]
    · rw [if_neg hu] at h'
      subst h'
      refine ⟨g1,?_⟩
      rw [jn_at,g2]
      show some (ren hi lo u)=some u
      unfold ren
      rw [if_neg hu]
noncomputable def Sound (ts:List (TM S)) (es:List (Nat × Nat)) (ls:List Nat):Prop := ∀ k v:Nat,ls[k]? = some v→Eqv ts es k v
theorem sound_jn {ts:List (TM S)} {es:List (Nat × Nat)} {ls:List Nat} {hi lo:Nat} (h:Sound ts es ls) (e:Eqv ts es hi lo):Sound ts es (jn ls hi lo):=by
  intro k v q
  rw [jn_at] at q
  cases z:ls[k]? with
  | none=>rw [z] at q;cases q
  | some u =>
    rw [z] at q
    have h':ren hi lo u=v:=Option.some.inj q
    have:=h k u z
    unfold ren at h'
    by_cases hu:u=hi
    · rw [if_pos hu] at h'
      subst h' hu
      exact .trans this e
    · rw [if_neg hu] at h'
      subst h'
      exact this
noncomputable def Keeps (ls ls':List Nat):Prop := ∀ i j v:Nat,ls[i]? = some v→ls[j]? = some v→∃ u,ls'[i]? = some u∧ls'[j]? = some u
theorem keeps_refl (ls:List Nat):Keeps ls ls:=fun i j v h1 h2=>⟨v,h1,h2⟩
theorem Keeps.trans {a b c:List Nat} (h:Keeps a b) (h':Keeps b c):Keeps a c:=fun i j v h1 h2=>by
  obtain ⟨u,e1,e2⟩:=h i j v h1 h2
  exact h' i j u e1 e2
theorem keeps_jn (ls:List Nat) (hi lo:Nat):Keeps ls (jn ls hi lo):=fun i j v h1 h2=>⟨ren hi lo v,by rw [jn_at,h1];rfl,by rw [jn_at,h2];rfl⟩
theorem sum_ren {hi lo:Nat} (hl:lo≤hi):∀ ls:List Nat,(ls.map (ren hi lo)).sum≤ls.sum
  | []=>Nat.le_refl _
  | v :: ls=>by
    have:=sum_ren hl ls
    rw [List.map_cons,List.sum_cons,List.sum_cons]
    have h1:ren hi lo v≤v:=by unfold ren;split <;> omega
    omega
theorem sum_jn {hi lo:Nat} (hl:lo < hi):∀ {ls:List Nat},hi∈ls→(jn ls hi lo).sum < ls.sum
  | v :: ls,h=>by
    unfold jn
    rw [List.map_cons,List.sum_cons,List.sum_cons]
    have h1:ren hi lo v≤v:=by unfold ren;split <;> omega
    have h2:=sum_ren (hi:=hi) (lo:=lo) (by omega) ls
    rcases List.mem_cons.mp h with e | e
    · have:ren hi lo v < v:=by unfold ren;rw [if_pos e.symm];omega
      omega
    · have:=sum_jn hl e
      unfold jn at this
      omega
noncomputable def mix (ls:List Nat) (hi lo m:Nat):List Nat:=ls.mapIdx fun k v=>if k < m then ren hi lo v else v
theorem mix_at {ls:List Nat} {hi lo m k:Nat}:(mix ls hi lo m)[k]? = (ls[k]?).map fun v=>if k < m then ren hi lo v else v:=by unfold mix;rw [List.getElem?_mapIdx]
theorem mix_len {ls:List Nat} {hi lo m:Nat}:(mix ls hi lo m).length=ls.length:=by unfold mix;rw [List.length_mapIdx]
theorem mix_start {ls:List Nat} {hi lo:Nat} (g:GoodL ls):mix ls hi lo hi=ls:=by
  refine List.ext_getElem? fun k => ?_
  rw [mix_at]
  cases e:ls[k]? with
  | none=>rfl
  | some v =>
    have:=(g k v e).1
    show some _=some _
    dsimp only
    by_cases hk:k < hi
    · rw [if_pos hk];unfold ren;rw [if_neg (by omega)]
    · rw [if_neg hk]
theorem mix_set {ls:List Nat} {hi lo m v:Nat} (h:ls[m]? = some v):(mix ls hi lo m).set m (ren hi lo v)=mix ls hi lo (m+1):=by
  have hm:=(List.getElem?_eq_some_iff.mp h).1
  refine List.ext_getElem? fun k => ?_
  rw [List.getElem?_set,mix_at,mix_at,mix_len]
  by_cases hk:m=k
  · subst hk
    rw [if_pos rfl,if_pos hm,h]
    show some _=some _
    dsimp only
    rw [if_pos (by omega)]
  · rw [if_neg hk]
    cases e:ls[k]? with
    | none=>rfl
    | some u =>
      show some _=some _
      dsimp only
      by_cases h1:k < m
      · rw [if_pos h1,if_pos (by omega)]
      · rw [if_neg h1,if_neg (by omega)]
theorem mix_stay {ls:List Nat} {hi lo m v:Nat} (h:ls[m]? = some v) (hv:v≠hi):mix ls hi lo (m+1)=mix ls hi lo m:=by
  refine List.ext_getElem? fun k => ?_
  rw [mix_at,mix_at]
  by_cases hk:k=m
  · subst hk
    rw [h]
    show some _=some _
    dsimp only
    rw [if_pos (by omega),if_neg (by omega)]
    unfold ren
    rw [if_neg hv]
  · cases e:ls[k]? with
    | none=>rfl
    | some u =>
      show some _=some _
      dsimp only
      by_cases h1:k < m
      · rw [if_pos h1,if_pos (by omega)]
      · rw [if_neg h1,if_neg (by omega)]
theorem mix_end {ls:List Nat} {hi lo m:Nat} (h:ls.length≤m):mix ls hi lo m=jn ls hi lo:=by
  refine List.ext_getElem? fun k => ?_
  rw [mix_at,jn_at]
  cases e:ls[k]? with
  | none=>rfl
  | some u =>
    have:=(List.getElem?_eq_some_iff.mp e).1
    show some _=some _
    dsimp only
    rw [if_pos (by omega)]
noncomputable def mk (ls:List Nat):TM S→TM S
  | .num n => .num n
  | .name x => .name x
  | .of x as => .of x (as.map fun a=>ls.getD a 0)
noncomputable def Stands (ts:List (TM S)) (es:List (Nat × Nat)):TM S→TM S→Prop
  | .of x as,.of y vs=>x=y∧as.length=vs.length∧∀ k a v:Nat,as[k]? = some a→vs[k]? = some v→Eqv ts es a v
  | t,m=>t=m
theorem stands_mk {ts:List (TM S)} {es:List (Nat × Nat)} {ls:List Nat} (h:Sound ts es ls):∀ {t:TM S},(∀ x as,t = .of x as→∀ a∈as,a < ls.length)→Stands ts es t (mk ls t)
  | .num n,_=>rfl
  | .name x,_=>rfl
  | .of x as,hb=>by
    refine ⟨rfl,by rw [List.length_map],fun k a v h1 h2 => ?_⟩
    rw [List.getElem?_map,h1] at h2
    have e:ls.getD a 0=v:=Option.some.inj h2
    have ha:=hb x as rfl a (List.mem_of_getElem? h1)
    rw [List.getD_eq_getElem?_getD,List.getElem?_eq_getElem ha] at e
    refine h a v ?_
    rw [List.getElem?_eq_getElem ha, ← e]
    rfl
theorem stands_eqv {ts:List (TM S)} {es:List (Nat × Nat)} {i j:Nat} {t u m:TM S} (hi:ts[i]? = some t) (hj:ts[j]? = some u) (h1:Stands ts es t m) (h2:Stands ts es u m):Eqv ts es i j:=by
  cases t with
  | num n =>
    have e:TM.num n=m:=h1
    subst e
    cases u with
    | num k=>cases (show TM.num k=TM.num n from h2);exact .same hi hj
    | name y=>cases (show TM.name y=TM.num n from h2)
    | of y bs=>cases (show TM.of y bs=TM.num n from h2)
  | name x =>
    have e:TM.name x=m:=h1
    subst e
    cases u with
    | num k=>cases (show TM.num k=TM.name x from h2)
    | name y=>cases (show TM.name y=TM.name x from h2);exact .same hi hj
    | of y bs=>cases (show TM.of y bs=TM.name x from h2)
  | of x as =>
    cases m with
    | num k=>cases (show TM.of x as=TM.num k from h1)
    | name y=>cases (show TM.of x as=TM.name y from h1)
    | of y vs =>
      obtain ⟨rfl,l1,q1⟩:=h1
      cases u with
      | num k=>cases (show TM.num k=TM.of x vs from h2)
      | name z=>cases (show TM.name z=TM.of x vs from h2)
      | of z bs =>
        obtain ⟨rfl,l2,q2⟩:=h2
        refine .cong hi hj (by omega) fun k a b ha hb => ?_
        have hk:k < vs.length:=by have:=(List.getElem?_eq_some_iff.mp ha).1;omega
        exact .trans (q1 k a _ ha (List.getElem?_eq_getElem hk)) (.symm (q2 k b _ hb (List.getElem?_eq_getElem hk)))
noncomputable def Closed (ts:List (TM S)) (es:List (Nat × Nat)) (ls:List Nat):Prop :=
  ls.length=ts.length∧GoodL ls∧Sound ts es ls∧∀ i j:Nat,i < ts.length→j < ts.length→Eqv ts es i j→ls[i]? = ls[j]?
noncomputable def Arms (ts:List (TM S)):Prop := ∀ (i:Nat) (x:S) (as:List Nat),ts[i]? = some (.of x as)→∀ a∈as,a < i
theorem complete {ts:List (TM S)} {es:List (Nat × Nat)} {ls:List Nat} (ha:Arms ts) (he:∀ a b:Nat,(a,b)∈es→a < ts.length∧b < ts.length) (hl:ls.length=ts.length)
    (h1:∀ a b:Nat,(a,b)∈es→ls[a]? = ls[b]?) (h2:∀ (i j:Nat) (t u:TM S),ts[i]? = some t→ts[j]? = some u→mk ls t=mk ls u→ls[i]? = ls[j]?) {i j:Nat} (h:Eqv ts es i j):ls[i]? = ls[j]? := by
  induction h with
  | refl i=>rfl
  | symm _ ih=>exact ih.symm
  | trans _ _ ih1 ih2=>exact ih1.trans ih2
  | edge h=>exact h1 _ _ h
  | same q1 q2=>exact h2 _ _ _ _ q1 q2 rfl
  | @cong i j x as bs q1 q2 hl' _ ih =>
    refine h2 _ _ _ _ q1 q2 ?_
    have e:as.map (fun a=>ls.getD a 0)=bs.map (fun a=>ls.getD a 0):=by
      refine List.ext_getElem? fun k => ?_
      rw [List.getElem?_map,List.getElem?_map]
      by_cases hk:k < as.length
      · have e1:=List.getElem?_eq_getElem (l:=as) hk
        have e2:=List.getElem?_eq_getElem (l:=bs) (show k < bs.length by omega)
        have:=ih k _ _ e1 e2
        rw [e1,e2]
        show some (ls.getD _ 0)=some (ls.getD _ 0)
        rw [List.getD_eq_getElem?_getD,List.getD_eq_getElem?_getD,this]
      · rw [List.getElem?_eq_none (by omega),List.getElem?_eq_none (by omega)]
    show TM.of x _=TM.of x _
    rw [e]
theorem good_id (n:Nat):GoodL (List.range n):=fun k v h=>by
  have hk:k < (List.range n).length:=(List.getElem?_eq_some_iff.mp h).1
  rw [List.length_range] at hk
  rw [List.getElem?_range hk] at h
  cases h
  exact ⟨Nat.le_refl _,List.getElem?_range hk⟩
theorem sound_id (ts:List (TM S)) (es:List (Nat × Nat)) (n:Nat):Sound ts es (List.range n):=fun k v h=>by
  have hk:k < (List.range n).length:=(List.getElem?_eq_some_iff.mp h).1
  rw [List.length_range] at hk
  rw [List.getElem?_range hk] at h
  cases h
  exact .refl _
end
end Sw
namespace L2
open PySem PySem.Spec PyProof.Rows

section
variable {X:Cx}
inductive J_call_range1V (xs:List V) (H:Hp) (Q:VK):Prop
  | mk:∀ (j:Int),(xs = [.int j])→(∀ p,H p=none→Q (.ref p) (upd H p (.rng 0 j)))→J_call_range1V xs H Q
theorem call_range1V:CallR X (.type "range") (fun xs H Q=>J_call_range1V xs H Q):=by
  intro pins s σ H xs us Q I r h
  obtain ⟨j,rfl,q⟩:=h
  obtain ⟨u,rfl,ru⟩:=vals1 r
  obtain ⟨t,rfl⟩:=ru
  exact call_range_1 ⟨.ref s.heap.objs.size,_,I.laid (a:=s.heap.objs.size) (o := .rng 0 j) (fun _ _ q=>Heap.get?_push_of_some _ q) (Nat.le_refl _) ⟨_,_,_,Heap.get?_push_size _ rfl⟩,rfl,q _ (I.hok.fresh (Nat.le_refl _))⟩
inductive J_call_list_rng (xs:List V) (H:Hp) (Q:VK):Prop
  | mk:∀ (p:Addr) (n:Nat),(xs = [.ref p])→(H p=some (.rng 0 (n:Int)))→(n≤1000000)→(∀ l,H l=none→Q (.ref l) (upd H l (.lst ((List.range n).map fun i:Nat=>V.int (i:Int)))))→J_call_list_rng xs H Q
theorem call_list_rng (hc:X.calm=true):CallR X (.type "list") (fun xs H Q=>J_call_list_rng xs H Q):=by
  intro pins s σ H xs us Q I r h
  obtain ⟨p,n,rfl,hp,hn,q⟩:=h
  obtain ⟨u,rfl,ru⟩:=vals1 r
  cases (show u=Value.ref p from ru)
  obtain ⟨t,t',t'',e⟩:=(show ObjOk X.prog X.w H s.heap p (.rng 0 (n:Int)) from I.hok p _ hp)
  have hz:Builtin.Range.rangeSize 0 (n:Int) 1=n:=by rw [rangeSize_one];split <;> omega
  refine call_list_range (I.ok.hd hc) e (small_one (by omega) (by omega) (by omega) (by omega)) hz (by omega) fun h' tk acc' c' kp hS hacc => ?_
  refine ⟨.ref s.heap.objs.size,_,I.laid kp (Nat.le_refl _) (show ObjOk X.prog X.w _ h' _ (.lst ((List.range n).map fun i:Nat=>V.int (i:Int))) from ⟨?_,acc'.toList,c',?_,by simpa using hS⟩),rfl,q _ (I.hok.fresh (Nat.le_refl _))⟩
  · rw [List.length_map,List.length_range]
    exact Nat.le_trans hn (by decide)
  · refine valsBy (by rw [List.length_map,List.length_range,Array.length_toList];exact hacc.1.symm) fun j x v hx hv => ?_
    obtain ⟨t2,ht2⟩:=hacc.2 j v (by rw [← Array.getElem?_toList];exact hv)
    rw [List.getElem?_map] at hx
    have hj:j < n:=by
      have:=(List.getElem?_eq_some_iff.mp hv).1
      rw [Array.length_toList,hacc.1] at this
      exact this
    rw [List.getElem?_range hj] at hx
    have ex:V.int ((j:Nat):Int)=x:=Option.some.inj hx
    rw [← ex,ht2]
    exact ⟨t2,by congr 1;omega⟩
where
  valsBy:∀ {xs:List V} {us:List Value},xs.length=us.length→(∀ (j:Nat) x u,xs[j]? = some x→us[j]? = some u→RelV x u)→Vals xs us
  | [], [],_,_ => .nil
  | [],_ :: _,h,_=>by cases h
  | _ :: _, [],h,_=>by cases h
  | x :: xs,u :: us,h,f => .cons (f 0 x u rfl rfl) (valsBy (by simpa using h) fun j a b ha hb=>f (j+1) a b (by simpa using ha) (by simpa using hb))
end
theorem un10 {k:Nat} {A:Around} (hr:Room k A):A.units+10 < cLine:=by have:=hr.un;omega
theorem un101 {k:Nat} {A:Around} (hr:Room k A):A.units+151 < cLine:=by have:=hr.un;omega
inductive J_op_mul_str0 (x:V) (y:V) (H:Hp) (Q:VK):Prop
  | mk:∀ z n,(x = .str z)→(y = .int n)→(0≤n)→(n≤1000)→(z.length≤1000)→(Q (.str (timesS z n.toNat)) H)→J_op_mul_str0 x y H Q
theorem op_mul_str0 {X:Cx}:OpR X (binaryOp .Mult) (fun x y H Q=>J_op_mul_str0 x y H Q):=by
  intro pins s σ H x y v u Q I rx ry h
  obtain ⟨z,n,rfl,rfl,h1,h2,h3,q⟩:=h
  by_cases h0:n=0
  · subst h0
    obtain ⟨t,rfl⟩:=rx
    obtain ⟨t',rfl⟩:=ry
    exact PySem.P.mul_str_none (by omega) (by omega) ⟨.str (timesS z 0),H,I.tok _,⟨_,rfl⟩,q⟩
  · exact op_mul_str pins s σ H _ _ v u Q I rx ry ⟨z,n,rfl,rfl,by omega,h2,h3,q⟩
theorem compI_range {lo:Int} {n:Nat} {ct:TT} {te:TE} {σ : St} {caps:List (Str × Nat)} {H:Hp} {Q:VK} (f:Int→Option V) (hn:n≤1000)
    (hel:∀ (i:Nat),i < n→∀ H',Same H H'→∀ (R:Bool→Hp→Prop),(R (f (lo+i)).isSome H')→ct (some (.int (lo+i)) :: capt σ caps) H' R)
    (hev:∀ (i:Nat) v,i < n→f (lo+i)=some v→∀ H',Same H H'→∀ Q':VK,Q' v H'→te (some (.int (lo+i)) :: capt σ caps) H' Q')
    (hq:∀ D,H D=none→Q (.ref D) (upd H D (.lst ((List.range n).filterMap fun i:Nat=>f (lo+i))))) :
    CompBodyI (Itr lo n) (gName 0) ct te (List.replicate 1 none ++ capt σ caps) H Q:=by
  intro D hD
  refine ⟨fun i m τ zs H'=>m=n - i∧i≤n∧(∃ o, τ = o :: capt σ caps)∧zs=(List.range i).filterMap (fun i:Nat=>f (lo+i))∧H'=upd H D (.lst zs),⟨n,by simp,Nat.zero_le _,⟨none,rfl⟩,by simp,rfl⟩,?_⟩
  rintro i m τ zs H' ⟨rfl,hi,⟨o,rfl⟩,rfl,rfl⟩
  refine ⟨upd_same,?_⟩
  have sm:∀ zs,Same H (upd H D (.lst zs)):=fun zs=>same_new hD _
  by_cases hlt:i < n
  · refine .inr ⟨hlt,?_,fun x H'' y => ?_⟩
    · refine small1000 (Nat.le_trans (List.length_filterMap_le _ _) ?_)
      rw [List.length_range];omega
    obtain ⟨e,e2⟩:=y
    subst e e2
    show ct (some (.int (lo+(i:Int))) :: capt σ caps) _ _
    refine hel i hlt _ (sm _) _ ?_
    have step:(List.range (i+1)).filterMap (fun i:Nat=>f (lo+i))=(List.range i).filterMap (fun i:Nat=>f (lo+i)) ++ (match f (lo+i) with | some v => [v] | none => []):=by
      rw [List.range_succ,List.filterMap_append]
      congr 1
      rw [List.filterMap_cons,List.filterMap_nil]
      cases f (lo+(i:Int)) <;> rfl
    cases e:f (lo+(i:Int)) with
    | none =>
      rw [e] at step
      refine ⟨n - (i+1),by omega,rfl,hlt,⟨_,rfl⟩,?_,rfl⟩
      rw [step,List.append_nil]
    | some v =>
      rw [e] at step
      refine hev i v hlt e _ (sm _) _ ?_
      refine ⟨upd_same,n - (i+1),by omega,rfl,hlt,⟨_,rfl⟩,step.symm,?_⟩
      rw [upd_upd]
  · have e:i=n:=by omega
    subst e
    exact .inl ⟨Nat.le_refl _,hq D hD⟩
end L2
namespace Sw
open PySem L2
noncomputable abbrev Tm:=TM Str
noncomputable abbrev nV (n:Nat):V:=V.int (n:Int)
noncomputable def IsTm (H:Hp):Tm→V→Prop
  | .num n,v=>∃ a,v = .ref a∧H a=some (.tup [.str "num",.int n])
  | .name x,v=>∃ a,v = .ref a∧H a=some (.tup [.str "name",.str x])
  | .of x as,v=>∃ a b,v = .ref a∧H a=some (.tup [.str "of",.str x,.ref b])∧H b=some (.tup (as.map nV))
theorem IsTm.keep {H H':Hp} (ht:∀ b ys,H b=some (.tup ys)→H' b=some (.tup ys)):∀ {t:Tm} {v:V},IsTm H t v→IsTm H' t v
  | .num n,v,h=>by obtain ⟨a,e,h⟩:=h;exact ⟨a,e,ht _ _ h⟩
  | .name x,v,h=>by obtain ⟨a,e,h⟩:=h;exact ⟨a,e,ht _ _ h⟩
  | .of x as,v,h=>by obtain ⟨a,b,e,h,h2⟩:=h;exact ⟨a,b,e,ht _ _ h,ht _ _ h2⟩
theorem IsTm.same {H H':Hp} {t:Tm} {v:V} (sm:Same H H') (h:IsTm H t v):IsTm H' t v:=h.keep fun b ys=>sm _ _
noncomputable abbrev Tms (H:Hp):List V→List Tm→Prop:=Paired fun v t=>IsTm H t v
theorem tms_keep {H H':Hp} {us:List V} {ts:List Tm} (ht:∀ b ys,H b=some (.tup ys)→H' b=some (.tup ys)) (h:Tms H us ts):Tms H' us ts:=Paired.mapP h fun _ _ z=>z.keep ht
theorem tms_same {H H':Hp} {us:List V} {ts:List Tm} (sm:Same H H') (h:Tms H us ts):Tms H' us ts:=tms_keep (fun b ys=>sm _ _) h
theorem tms_at {H:Hp}:∀ {us:List V} {ts:List Tm} {i:Nat} {v:V},Tms H us ts→us[i]? = some v→∃ t,ts[i]? = some t∧IsTm H t v
  | _,_,_,_,.nil,e=>by simp at e
  | _,_,0,_,.cons h _,e=>by simp at e;subst e;exact ⟨_,rfl,h⟩
  | _,_,i+1,v,.cons _ r,e=>by
    obtain ⟨t,e',h⟩:=tms_at (i:=i) (v:=v) r (by simpa using e)
    exact ⟨t,by simpa using e',h⟩
theorem tms_snoc {H:Hp} {us:List V} {ts:List Tm} {v:V} {t:Tm} (h:Tms H us ts) (q:IsTm H t v):Tms H (us ++ [v]) (ts ++ [t]):=Paired.snoc h q
noncomputable def tmNK:Tm→NK
  | .num n => [.inl (.inr "num"),.inl (.inl n)]
  | .name x => [.inl (.inr "name"),.inl (.inr x)]
  | .of x as => [.inl (.inr "of"),.inl (.inr x),.inr (as.map fun n:Nat=>(.inl (n:Int):Key))]
theorem tmNK_inj:∀ {t u:Tm},tmNK t=tmNK u→t=u
  | .num n,.num m,e=>by unfold tmNK at e;simp at e;rw [e]
  | .name x,.name y,e=>by unfold tmNK at e;simp at e;rw [e]
  | .of x as,.of y bs,e=>by
    unfold tmNK at e
    simp only [List.cons.injEq,Sum.inl.injEq,Sum.inr.injEq,and_true,true_and] at e
    rw [e.1]
    have:=map_inj_of (f:=fun n:Nat=>(.inl (n:Int):Key)) (fun a b h=>by have h:=Sum.inl.inj h;omega) e.2
    rw [this]
  | .num n,.name y,e=>by
    unfold tmNK at e
    simp only [List.cons.injEq,Sum.inl.injEq,Sum.inr.injEq] at e
    exact absurd e.1 (by decide)
  | .name n,.num y,e=>by
    unfold tmNK at e
    simp only [List.cons.injEq,Sum.inl.injEq,Sum.inr.injEq] at e
    exact absurd e.1 (by decide)
  | .num n,.of y bs,e=>by unfold tmNK at e;simp at e
  | .name n,.of y bs,e=>by unfold tmNK at e;simp at e
  | .of y bs,.num n,e=>by unfold tmNK at e;simp at e
  | .of y bs,.name n,e=>by unfold tmNK at e;simp at e
theorem nV_kV (as:List Nat):as.map nV=(as.map fun n:Nat=>(.inl (n:Int):Key)).map kV:=by
  rw [List.map_map];rfl
theorem IsTm.key {H:Hp}:∀ {t:Tm} {v:V},IsTm H t v→∃ b,v = .ref b∧NKey H (tmNK t) b
  | .num n,v,h=>by
    obtain ⟨a,e,h⟩:=h
    refine ⟨a,e,_,h,?_⟩
    exact ⟨_,rfl,_,rfl,rfl⟩
  | .name x,v,h=>by
    obtain ⟨a,e,h⟩:=h
    refine ⟨a,e,_,h,?_⟩
    exact ⟨_,rfl,_,rfl,rfl⟩
  | .of x as,v,h=>by
    obtain ⟨a,b,e,h,h2⟩:=h
    refine ⟨a,e,_,h,?_⟩
    rw [nV_kV] at h2
    exact ⟨_,rfl,_,rfl,b,_,rfl,h2,rfl⟩
noncomputable def tmD:Tm→D
  | .num n => .tup [.str "num",.int n]
  | .name x => .tup [.str "name",.str x]
  | .of x as => .tup [.str "of",.str x,.tup (as.map fun n:Nat => .int (n:Int))]
theorem dens_ints {H:Hp}:∀ as:List Nat,Dens H (as.map fun n:Nat=>D.int (n:Int)) (as.map nV)
  | []=>by rw [List.map_nil,List.map_nil];exact dens_nil
  | a :: as=>by rw [List.map_cons,List.map_cons];exact dens_cons (by rw [Den];exact .inl rfl) (dens_ints as)
theorem IsTm.den {H:Hp}:∀ {t:Tm} {v:V},IsTm H t v→Den H (tmD t) v
  | .num n,v,h=>by
    obtain ⟨a,e,h⟩:=h
    rw [tmD,Den]
    exact ⟨a,_,e,h,dens_cons (by rw [Den]) (dens_cons (by rw [Den];exact .inl rfl) dens_nil)⟩
  | .name x,v,h=>by
    obtain ⟨a,e,h⟩:=h
    rw [tmD,Den]
    exact ⟨a,_,e,h,dens_cons (by rw [Den]) (dens_cons (by rw [Den]) dens_nil)⟩
  | .of x as,v,h=>by
    obtain ⟨a,b,e,h,h2⟩:=h
    rw [tmD,Den]
    exact ⟨a,_,e,h,dens_cons (by rw [Den]) (dens_cons (by rw [Den]) (dens_cons (by rw [Den];exact ⟨b,_,rfl,h2,dens_ints as⟩) dens_nil))⟩
theorem tms_den {H:Hp} {us:List V} {ts:List Tm} (h:Tms H us ts):Dens H (ts.map tmD) us:=by
  induction h with
  | nil=>exact dens_nil
  | cons h _ ih=>rw [List.map_cons];exact dens_cons h.den ih
theorem ints_deep:∀ as:List Nat,D.deeps (as.map fun n:Nat=>D.int (n:Int))=0
  | []=>by rw [List.map_nil,D.deeps]
  | a :: as=>by rw [List.map_cons,D.deeps,ints_deep as,D.deep];rfl
theorem tm_deep:∀ t:Tm,(tmD t).deep≤2
  | .num n=>by rw [tmD,D.deep,D.deeps,D.deeps,D.deeps,D.deep,D.deep];decide
  | .name n=>by rw [tmD,D.deep,D.deeps,D.deeps,D.deeps,D.deep,D.deep];decide
  | .of x as=>by rw [tmD,D.deep,D.deeps,D.deeps,D.deeps,D.deeps,D.deep,D.deep,D.deep,ints_deep];decide
theorem tms_deep:∀ ts:List Tm,D.deeps (ts.map tmD)≤2
  | []=>by rw [List.map_nil,D.deeps];omega
  | t :: ts=>by rw [List.map_cons,D.deeps];have:=tms_deep ts;have:=tm_deep t;omega
noncomputable def But (L:Addr) (H H':Hp):Prop := ∀ c o,c≠L→H c=some o→H' c=some o
theorem But.refl (L:Addr) (H:Hp):But L H H:=fun _ _ _ h=>h
theorem But.same {L:Addr} {H H1 H2:Hp} (a:But L H H1) (b:Same H1 H2):But L H H2:=fun c o n h=>b c o (a c o n h)
theorem But.put {L:Addr} {H H1:Hp} {o:HO} (a:But L H H1):But L H (upd H1 L o):=fun c u n h=>by rw [upd_ne n];exact a c u n h
theorem But.new {L p:Addr} {H H1:Hp} {o:HO} (a:But L H H1) (hp:H p=none):But L H (upd H1 p o):=fun c u n h=>by rw [upd_ne (ne_of_none h hp)];exact a c u n h
theorem But.tup {L:Addr} {H H1:Hp} {ls:List V} (a:But L H H1) (hL:H L=some (.lst ls)):∀ b ys,H b=some (.tup ys)→H1 b=some (.tup ys):=fun b ys h=>a b _ (ne_of h hL (fun z=>nomatch z)) h
noncomputable def EdgeAt (H:Hp) (v:V) (e:Nat × Nat):Prop := ∃ a rest,v = .ref a∧H a=some (.tup (nV e.1 :: nV e.2 :: rest))
theorem EdgeAt.keep {H H':Hp} {v:V} {e:Nat × Nat} (ht:∀ b ys,H b=some (.tup ys)→H' b=some (.tup ys)) (h:EdgeAt H v e):EdgeAt H' v e:=by
  obtain ⟨a,r,z,h⟩:=h
  exact ⟨a,r,z,ht _ _ h⟩
noncomputable abbrev Edges (H:Hp):List V→List (Nat × Nat)→Prop:=Paired (EdgeAt H)
theorem edges_keep {H H':Hp} {us:List V} {es:List (Nat × Nat)} (ht:∀ b ys,H b=some (.tup ys)→H' b=some (.tup ys)) (h:Edges H us es):Edges H' us es:=Paired.mapP h fun _ _ z=>z.keep ht
theorem edges_at {H:Hp}:∀ {us:List V} {ts:List (Nat × Nat)} {i:Nat} {v:V},Edges H us ts→us[i]? = some v→∃ t,ts[i]? = some t∧EdgeAt H v t
  | _,_,_,_,.nil,e=>by simp at e
  | _,_,0,_,.cons h _,e=>by simp at e;subst e;exact ⟨_,rfl,h⟩
  | _,_,i+1,v,.cons _ r,e=>by
    obtain ⟨t,e',h⟩:=edges_at (i:=i) (v:=v) r (by simpa using e)
    exact ⟨t,by simpa using e',h⟩
theorem rd_cut {t rest:TS} {D:Ends} {σ : St} {H:Hp} (R:St→Hp→Prop) (key:∀ σ' H',R σ' H'→rest D σ' H') (h:∀ {N:St→Hp→Prop},(∀ σ' H',R σ' H'→N σ' H')→t { D with nx:=N } σ H):tSeq t rest D σ H:=h key
theorem nV_at {ls:List Nat} {k v:Nat} (h:ls[k]? = some v):atI (ls.map nV) (k:Int)=some (nV v):=atI_nat (by rw [List.getElem?_map,h];rfl)
theorem nV_set {ls:List Nat} {k v:Nat}:(ls.map nV).set k (nV v)=(ls.set k v).map nV:=by rw [List.map_set]
noncomputable def vI:V→Int
  | .int c=>c
  | _=>0
noncomputable def abc:Str := "abcdefghijklmnopqrstuvwxyz"
noncomputable def letF (i:Int):Str:=⟨#[abc.cps.toList.getD (i % 26).toNat 97]⟩
theorem abcF_at (i:Int):atI abc.cps.toList (i % 26)=some (abc.cps.toList.getD (i % 26).toNat 97):=by
  have h0:0≤i % 26:=Int.emod_nonneg _ (by decide)
  have h1:i % 26 < 26:=Int.emod_lt_of_pos _ (by decide)
  have hl:abc.cps.toList.length=26:=by decide +kernel
  have hi:(i % 26).toNat < abc.cps.toList.length:=by omega
  have z:atI abc.cps.toList (((i % 26).toNat:Nat):Int)=some abc.cps.toList[(i % 26).toNat]:=atI_nat (List.getElem?_eq_getElem hi)
  have e:(((i % 26).toNat:Nat):Int)=i % 26:=by omega
  rw [e] at z
  rw [z,List.getD_eq_getElem?_getD,List.getElem?_eq_getElem hi]
  rfl
noncomputable def TsOk (ts:List Tm):Prop:=Arms ts∧(∀ (i:Nat) x as,ts[i]? = some (.of x as)→as.length≤4∧1≤as.length)∧ts.Nodup
theorem tsok_nil:TsOk []:=⟨fun i x as h=>by simp at h,fun i x as h=>by simp at h,List.nodup_nil⟩
theorem cutV_mem {xs:List V} {lo hi:Option Int} {x:V} (h:x∈cutV xs lo hi):x∈xs:=List.mem_of_mem_drop (List.mem_of_mem_take h)
theorem cut_take {xs:List V} {k:Nat} (h:k≤xs.length):cutV xs none (some (k:Int))=xs.take k:=by
  unfold cutV
  rw [HT.sIx_nat,HT.sIx_none,Nat.min_eq_left h,List.drop_zero,Nat.sub_zero]
theorem getD_at {ls:List Nat} {k:Nat} (h:k < ls.length):ls[k]? = some (ls.getD k 0):=by rw [List.getD_eq_getElem?_getD,List.getElem?_eq_getElem h];rfl
end Sw
namespace L2
open PySem PySem.Spec PyProof.Rows

section
variable {prog:Program} {w:World} {K:Type} [DecidableEq K] {knd:HeapKind prog w K} {A:Around} {E:Value→Shared→Prop} {s:Shared} {d:Addr} {xs:List (K × Addr × Value)}
end
section
variable {X:Cx} {pins:List (Addr × Obj)} {σ : St} {H:Hp} {s:Shared} {a b:Addr} {kvs kvs':List (NK × V)} {k:NK} {y v:V} {u r:Value} {A:Around} {E:Value→Shared→Prop}
end
section
variable {X:Cx} {o i e f value:Expr} {pos pos' apos cpos:Pos} {td ty tv:TE}
end
end L2
namespace L2
open PySem PySem.Spec PyProof.Rows

theorem vals_bl:∀ {bs:List Bool} {us:List Value},Vals (bs.map V.bl) us→us=bs.map Value.bool
  | [],_,r=>by cases r;rfl
  | b :: bs,_,r=>by
    rw [List.map_cons] at r
    cases r with
    | cons h t=>rw [vals_bl t,List.map_cons,show _=Value.bool b from h]
section
variable {X:Cx}
inductive J_call_allL (kK:PySem.W.Frag) (xs:List V) (H:Hp) (Q:VK):Prop
  | mk:∀ (p:Addr) (bs:List Bool),(xs = [.ref p])→(SqL kK H p (bs.map V.bl))→(Q (.bl (bs.all id)) H)→J_call_allL kK xs H Q
theorem call_allL (hc:X.calm=true):CallR X (.builtin "all") (fun xs H Q=>J_call_allL X.K xs H Q):=by
  intro pins s σ H xs us Q I r h
  obtain ⟨p,bs,rfl,hq,q⟩:=h
  obtain ⟨u,rfl,ru⟩:=vals1 r
  cases ru
  obtain ⟨its,rv,pl,hz⟩:=I.list hq
  have e:=vals_bl rv
  subst e
  have hlt:p < s.heap.objs.size:=by obtain ⟨_,e,_⟩:=pl.isList;exact Heap.lt_size e
  refine call_all_walk (wpAny_pyIter_list pl.isList ?_)
  refine ⟨_,_,_,_,_,_,fun i=>bs.getD i false,rfl,Walks.list (A:=X.A.in1) (I.ok.hd hc) _ p (Nat.ne_of_lt hlt) (bs.map Value.bool).toArray,⟨⟨_,Heap.get?_push_size _ rfl,rfl,rfl⟩,pl.isList.push _⟩,fun i v s' Q' E' hv hQ' => ?_,fun h' tk hk => ?_⟩
  · have hv':(bs.map Value.bool)[i]? = some v:=by simpa using hv
    rw [List.getElem?_map] at hv'
    cases e:bs[i]? with
    | none=>rw [e] at hv';cases hv'
    | some b =>
      rw [e] at hv'
      have e1:Value.bool b=v:=Option.some.inj hv'
      subst e1
      have e2:bs.getD i false=b:=by rw [List.getD_eq_getElem?_getD,e];rfl
      have hQ2:Q' b s':=e2 ▸ hQ'
      exact wpAny_truthy_bool hQ2
  · have ea:(List.range (bs.map Value.bool).toArray.size).all (fun i=>bs.getD i false)=bs.all id:=by
      have hs:(bs.map Value.bool).toArray.size=bs.length:=by simp
      rw [hs,Bool.eq_iff_iff,List.all_eq_true,List.all_eq_true]
      constructor
      · intro h b hb
        obtain ⟨i,hi⟩:=List.mem_iff_getElem?.mp hb
        have hl:=(List.getElem?_eq_some_iff.mp hi).1
        have:=h i (List.mem_range.mpr hl)
        rw [List.getD_eq_getElem?_getD,hi] at this
        exact this
      · intro h i hi
        have hl:=List.mem_range.mp hi
        have e:=List.getElem?_eq_getElem hl
        rw [List.getD_eq_getElem?_getD,e]
        exact h _ (List.getElem_mem hl)
    rw [ea]
    exact ⟨.bl (bs.all id),H,I.kept fun b o e=>old_kept hk b o e,rfl,q⟩
variable {o:Expr} {apos cpos:Pos} {td:TE}
end
section
variable {X:Cx} {tg l:Expr} {tl:TE}
end
end L2
namespace L2
open PySem PySem.Spec PyProof.Rows

section
variable {X:Cx} {pins:List (Addr × Obj)} {σ : St} {H:Hp} {s:Shared} {a:Addr} {kvs:List (Key × V)} {k:Key} {v:V} {u r:Value} {A:Around} {E:Value→Shared→Prop}
end
section
variable {X:Cx} {o e f:Expr} {apos cpos:Pos} {td ty tx:TE}
end
theorem boot_all_:bootBuiltins "all" = some (.builtin "all"):=by decide +kernel
end L2
namespace PySem
section
variable {prog:Program} {w:World} {A:Around} {E:Value→Shared→Prop} {s:Shared}
end
section
variable {prog:Program} {w:World} {A:Around} {s:Shared} {R:Result→Shared→Prop} {I l:Addr} {items:Array Value}
end
section
variable {prog:Program} {w:World} {A:Around} {E:Value→Shared→Prop} {s:Shared} {I l:Addr} {items:Array Value}
end
end PySem
namespace L2
open PySem PySem.Spec PyProof.Rows
theorem boot_reversed_:bootBuiltins "reversed" = some (.type "reversed"):=by rfl
theorem vals_at {xs:List V} {us:List Value} (r:Vals xs us):∀ {j:Nat} {x:V} {u:Value},xs[j]? = some x→us[j]? = some u→RelV x u:=by
  induction r with
  | nil=>intro j x u h;simp at h
  | cons h t ih =>
    intro j x u hx hu
    cases j with
    | zero=>simp at hx hu;subst hx hu;exact h
    | succ j=>exact ih (j:=j) (by simpa using hx) (by simpa using hu)
theorem passNo {X:Cx}:Passes (CXE X.prog X.w) X E0:=fun pins σ H s e s' I h=>by
  obtain ⟨_,_,_,_,_,_,_,_,_,_,_,_,_,_,q⟩:=h
  exact False.elim q
end L2
namespace L2
open PySem PySem.Spec PyProof.Rows
noncomputable def strsOf:List Expr→Option (List Str)
  | []=>some []
  | .Constant (.str x) _ _ :: es=>(strsOf es).map (x :: ·)
  | _=>none
theorem strsC_of:∀ {es:List Expr} {L:List Str},strsOf es=some L→StrsC es L
  | [],L,h=>by
    cases (show some []=some L from h)
    exact .nil
  | e :: es,L,h=>by
    unfold strsOf at h
    split at h
    · rename_i heq;cases heq
    · rename_i x j p es' heq
      cases heq
      cases q:strsOf es with
      | none=>rw [q] at h;cases h
      | some L' =>
        rw [q] at h
        cases h
        exact .cons (strsC_of q)
    · cases h
theorem pa_strsB {X:Cx} {es:List Expr} {L:List Str} (h:strsOf es=some L):PA X es (tStrs L):=pa_strs (strsC_of h)
end L2
namespace L2
open PySem PySem.Spec PyProof.Rows
section
variable {X:Cx}
theorem op_mulB:OpR X (binaryOp .Mult) (rI IntMulOk fun i j => .int (i * j)):=opI fun _ _ _ _ _ _ _ hc q=>mul_int q hc
noncomputable def tInts (L:List Int):TA:=fun _ H Q=>Q (L.map V.int) H
inductive IntsC:List Expr→List Int→Prop where
  | nil:IntsC [] []
  | cons {x:Int} {j:Nat} {p:Pos} {es:List Expr} {L:List Int} (h:IntsC es L):IntsC (.Constant (.int x) j p :: es) (x :: L)
theorem pa_ints {es:List Expr} {L:List Int} (h:IntsC es L):PA X es (tInts L):=by
  induction h with
  | nil=>exact pa_nil
  | cons h ih=>exact pa_cons pe_int ih
noncomputable def intsOf:List Expr→Option (List Int)
  | []=>some []
  | .Constant (.int x) _ _ :: es=>(intsOf es).map (x :: ·)
  | _=>none
theorem intsC_of:∀ {es:List Expr} {L:List Int},intsOf es=some L→IntsC es L
  | [],L,h=>by
    cases (show some []=some L from h)
    exact .nil
  | e :: es,L,h=>by
    unfold intsOf at h
    split at h
    · rename_i heq;cases heq
    · rename_i x j p es' heq
      cases heq
      cases q:intsOf es with
      | none=>rw [q] at h;cases h
      | some L' =>
        rw [q] at h
        cases h
        exact .cons (intsC_of q)
    · cases h
theorem pa_intsB {es:List Expr} {L:List Int} (h:intsOf es=some L):PA X es (tInts L):=pa_ints (intsC_of h)
end
theorem rd_if2 {c:TT} {t u:TS} {D:Ends} {σ : St} {H:Hp} (R:Bool→Hp→Prop) (hc:∀ Q:Bool→Hp→Prop,(∀ b H',R b H'→Q b H')→c σ H Q) (h1:∀ H',R true H'→t D σ H') (h2:∀ H',R false H'→u D σ H'):tIfS c t u D σ H:=by
  refine hc _ fun b H' r => ?_
  cases b with
  | true=>exact iteT (h1 _ r)
  | false=>exact iteF (h2 _ r)
section
variable {P:Program} {w:World} {A:Around} {s:Shared}
open SeqAt MeetsSeq MeetsSeq2 MeetsSeq3 SeqRoads2
open AutoSeq1 (wpAny_loadPart')
end
theorem paired_at2 {α β : Type} {F : α → β → Prop}:∀ {l₁ : List α} {l₂ : List β} {i:Nat} {a : α} {b : β},Paired F l₁ l₂ → l₁[i]? = some a→l₂[i]? = some b→F a b
  | _,_,i,a,b,.nil,e,_=>by simp at e
  | _,_,0,a,b,.cons h _,e,e'=>by simp at e e';subst e e';exact h
  | _,_,i+1,a,b,.cons _ r,e,e'=>paired_at2 (i:=i) r (by simpa using e) (by simpa using e')
end L2
namespace L2
open PySem PySem.W PySem.Calls PyProof.Rows
theorem weight_le {ns:List Int} {c:Int}:c∈ns→WData.weight (.int c)≤WData.weightAll (ns.map WData.int):=by
  induction ns with
  | nil=>intro h;cases h
  | cons n ns ih =>
    intro h
    rw [List.map_cons,WData.weightAll]
    rcases List.mem_cons.mp h with rfl | h
    · omega
    · have:=ih h;omega
theorem bits_lay {ns:List Int} (h:WData.layableAll [WData.list (ns.map WData.int)]=true):∀ c∈ns,Builtin.Int.intBits c≤1048576:=fun c hc=>by
  have h1:WData.layable (WData.list (ns.map WData.int))=true:=List.all_eq_true.mp h _ List.mem_cons_self
  have h2:=of_decide_eq_true (Bool.and_eq_true_iff.mp h1).2
  rw [WData.weight] at h2
  have h3:=weight_le hc
  rw [WData.weight] at h3
  show (if c == 0 then 0 else c.natAbs.log2+1)≤1048576
  have:(2:Nat) ^ 20=1048576:=by decide
  omega
theorem walk_ofB {l:OpenLaw} {n k:Nat} {q:Program} {loose:List Str} {XP:(Str→Option Value)→Heap→Prop} {YP:World→Heap→Prop} {d:DefRec} {K:Params→Frag} {CX:World→CXT} {sp:World→Sp} {x:Str}
    (hn:l.most=some n) (hn2:n≤sizeLine) (hdf:d.params.defaults = []) (hr:Room k callerA)
    (hY:∀ (w:World) (h:Heap),YP w h→(K w.params).In h)
    (F:∀ (w:World) (mg:Str→Option Value) (fa:Addr) (h:Heap),(K w.params).In h→h.Ns mainGlobals mg→mg d.name=some (.ref fa) →
      ∃ fd:FuncData,(∀ (s:Shared) (u:Value),BindsTo s fd ⟨[u], []⟩ [(x,u)])∧∀ base:Heap,(K w.params).In base→base.Ns mainGlobals mg→FnOk l.prog w (K w.params) mg base (CX w) k fa fd [x] (sp w))
    (hsp:∀ (w:World) (H:Hp) (a:Addr) (ns:List Int),ns.length≤n→(∀ c∈ns,Builtin.Int.intBits c≤1048576)→SqL (K w.params) H a (ns.map V.int)→sp w [.ref a] H (fun v _=>v = .bl true) fun _ _ _=>False)
    (hCX:∀ (w:World) (H:Hp) (s:Shared) (e:Value) (s':Shared),CX w [] H s (fun _ _ _=>False) e s'→False) :
    WalkO q loose XP YP l.row.toRowW d [] (fun f vs=>PySem.call f vs):=by
  intro w s0 s1 mg mb G Y fa o pm cd doc dV kV ho hd hcd hD hmg hg args vals as hpre hlay hrd hwl hlo
  have e1:=Dflts.none hD hdf
  have e2:=Dflts.noKw hD
  subst e1 e2
  obtain ⟨a,vs,ns,ev,ea,hobj,hints,hlen⟩:=Att.script_of hn hpre hwl
  subst ev ea
  have KX:=hY w _ Y
  obtain ⟨fd,hb,hF⟩:=F w mg fa _ KX G.T.g hmg
  refine enter_call (codeAny_mono (law_call KX G.T.g G.T.b G.T.builtins G.T.nolimit hg hobj hints (Nat.le_trans hlen hn2) hr hF hb (fun H _ hS=>hsp w H a ns hlen (bits_lay hlay) hS) fun H e s'=>hCX w H s1 e s') fun r s' hq => ?_)
  obtain ⟨er,h2,h3,h4⟩:=hq
  subst er
  exact ⟨.inl ⟨.bool true,.bool true, [],rfl,fun _=>rfl,.bool true,Att.post_true l _,fun _=>⟨List.Pairwise.nil,fun _ hm=>(nomatch hm)⟩⟩,h2,h3,h4⟩
end L2
namespace Sw
open PySem L2
noncomputable abbrev DK:=List (Key × V)
noncomputable def lk (l:Nat):Key:=Sum.inl (l:Int)
theorem lk_inj {a b:Nat} (h:lk a=lk b):a=b:=by have h:=Sum.inl.inj h;omega
noncomputable def armsF:Tm→List Nat
  | .of _ as=>as
  | _ => []
theorem sum_le {α : Type} {f g : α → Int}:∀ {l:List α},(∀ a∈l,f a≤g a)→(l.map f).sum≤(l.map g).sum
  | [],_=>Int.le_refl _
  | a :: l,h=>by
    rw [List.map_cons,List.map_cons,List.sum_cons,List.sum_cons]
    have h1:=h a List.mem_cons_self
    have h2:=sum_le (l:=l) fun b hb=>h b (List.mem_cons_of_mem _ hb)
    omega
theorem sum_lt {α : Type} {f g : α → Int}:∀ {l:List α},(∀ a∈l,f a≤g a)→(∃ a∈l,f a < g a)→(l.map f).sum < (l.map g).sum
  | [],_,h=>by obtain ⟨a,ha,_⟩:=h;cases ha
  | a :: l,h,q=>by
    rw [List.map_cons,List.map_cons,List.sum_cons,List.sum_cons]
    have h1:=h a List.mem_cons_self
    have h2:=sum_le (l:=l) fun b hb=>h b (List.mem_cons_of_mem _ hb)
    obtain ⟨b,hb,hlt⟩:=q
    rcases List.mem_cons.mp hb with rfl | hb
    · omega
    · have:=sum_lt (l:=l) (fun b hb=>h b (List.mem_cons_of_mem _ hb)) ⟨b,hb,hlt⟩
      omega
theorem sum_nn {α : Type} {f : α → Int}:∀ {l:List α},(∀ a∈l,0≤f a)→0≤(l.map f).sum
  | [],_=>Int.le_refl _
  | a :: l,h=>by
    rw [List.map_cons,List.sum_cons]
    have h1:=h a List.mem_cons_self
    have h2:=sum_nn (l:=l) fun b hb=>h b (List.mem_cons_of_mem _ hb)
    omega
end Sw
namespace L2
open PySem PySem.Spec PyProof.Rows
structure HasV (P:Program) (w:World) (K:PySem.W.Frag) (mg:Str→Option Value) (base:Heap) (k:Nat) (f:Addr) (ps:List Str) (sp:Sp):Prop where
  ex:∃ fd,FnOk P w K mg base CX0 k f fd ps sp∧PySem.W.keepIn K (.ref f)=true∧Binds K fd ps []
theorem Has.val {P:Program} {w:World} {K:PySem.W.Frag} {mg:Str→Option Value} {base:Heap} {k:Nat} {x:Str} {ps:List Str} {sp:Sp} (h:Has P w K mg base k x ps sp):∃ f,mg x=some (.ref f)∧HasV P w K mg base k f ps sp:=by
  obtain ⟨f,fd,F,hm,hk,hb⟩:=h.ex
  exact ⟨f,hm,fd,F,hk,hb⟩
section
variable {X:Cx} {k:Nat} {y:Str} {p pos:Pos} {e:Expr} {es:List Expr} {tv:TE} {t:TA}
inductive J_tCallV (P:Program) (w:World) (K:PySem.W.Frag) (mg:Str→Option Value) (base:Heap) (k:Nat) (t:TA) (σ : St) (Q:VK) (x:V) (H1:Hp):Prop
  | mk:∀ f ps sp,(x = .ref f)→(HasV P w K mg base k f ps sp)→(tCall sp [] E0 t σ H1 Q)→J_tCallV P w K mg base k t σ Q x H1
noncomputable def tCallV (P:Program) (w:World) (K:PySem.W.Frag) (mg:Str→Option Value) (base:Heap) (k:Nat) (tv:TE) (t:TA):TE:=fun σ H Q=>tv σ H fun x H1=>J_tCallV P w K mg base k t σ Q x H1
theorem pe_callV (hv:PE X (.Name y p) tv) (hr:Room k X.A) (ha:PA X (e :: es) t)
    (he:starEach (e :: es) X.env=(false,eval e X.env) :: starEach es X.env:=by rfl) (hpl:(backTo pos (starEach es X.env)).any (·.1)=false:=by rfl) :
    PE X (.Call (.Name y p) (e :: es) [] pos) (tCallV X.prog X.w X.K X.mg X.base k tv t):=by
  intro pins s σ H Q I h
  refine wpAny_Call_Name_kw (thn (hv pins s σ H _ I h) fun u s1 ⟨x,H1,I1,rx,q1⟩ => ?_)
  obtain ⟨f,ps,sp,rfl,hf,q1⟩:=q1
  obtain ⟨fd,F,hk,hb⟩:=hf.ex
  cases rx
  refine PySem.W.callWith_K (h₀ := X.base) I1.ok.mod.kin hk (thn (ha pos pins s1 σ H1 _ I1 q1) fun us s2 ⟨vs,H2,I2,r,q⟩=>⟨I2.kIn,?_⟩) he hpl
  exact run_fn F hr hb .nil pass0 I2 r q
theorem compI_listS {K:PySem.W.Frag} {a:Addr} {xs:List V} {ct:TT} {te:TE} {σ : St} {caps:List (Str × Nat)} {H:Hp} {Q:VK} (f:V→Option V) (hS:SqL K H a xs) (hn:xs.length≤1000)
    (hel:∀ x∈xs,∀ H',Same H H'→∀ (R:Bool→Hp→Prop),(∀ H'',Same H' H''→R (f x).isSome H'')→ct (some x :: capt σ caps) H' R)
    (hev:∀ x v,x∈xs→f x=some v→∀ H',Same H H'→∀ Q':VK,(∀ H'',Same H' H''→Q' v H'')→te (some x :: capt σ caps) H' Q')
    (hq:∀ D H',H D=none→Same H H'→H' D=some (.lst (xs.filterMap f))→Q (.ref D) H') :
    CompBodyI (Itl K a) (gName 0) ct te (List.replicate 1 none ++ capt σ caps) H Q:=by
  intro D hD
  refine ⟨fun i m τ zs H'=>m=xs.length - i∧i≤xs.length∧(∃ o, τ = o :: capt σ caps)∧zs=(xs.take i).filterMap f∧Same H H'∧H' D=some (.lst zs),⟨xs.length,by simp,Nat.zero_le _,⟨none,rfl⟩,by simp,same_new hD _,upd_same⟩,?_⟩
  rintro i m τ zs H' ⟨rfl,hi,⟨o,rfl⟩,rfl,sm,hDl⟩
  refine ⟨hDl,?_⟩
  by_cases hlt:i < xs.length
  · refine .inr ⟨⟨xs,xs[i],sm.seq hS,by simp [hlt]⟩,?_,fun x H'' y => ?_⟩
    · refine small1000 (Nat.le_trans (List.length_filterMap_le _ _) ?_)
      rw [List.length_take];omega
    · obtain ⟨e,y⟩:=y
      subst e
      have hx:=y xs (sm.seq hS)
      have er:xs.take (i+1)=xs.take i ++ [x]:=by rw [List.take_add_one,hx];rfl
      show ct (some x :: capt σ caps) _ _
      refine hel x (List.mem_of_getElem? hx) _ sm _ (fun H2 s2 => ?_)
      cases e:f x with
      | none =>
        refine ⟨xs.length - (i+1),by omega,rfl,hlt,⟨_,rfl⟩,?_,sm.trans s2,s2 _ _ hDl⟩
        rw [er,List.filterMap_append,List.filterMap_cons,e];simp
      | some v =>
        refine hev x v (List.mem_of_getElem? hx) e _ (sm.trans s2) _ (fun H3 s3 => ?_)
        have hD3:=s3 _ _ (s2 _ _ hDl)
        refine ⟨hD3,xs.length - (i+1),by omega,rfl,hlt,⟨_,rfl⟩,?_,(sm.trans (s2.trans s3)).put hD,upd_same⟩
        rw [er,List.filterMap_append,List.filterMap_cons,e];simp
  · have e:i=xs.length:=by omega
    subst e
    rw [List.take_length] at hDl
    exact .inl ⟨⟨xs,sm.seq hS,Nat.le_refl _⟩,hq D H' hD sm hDl⟩
theorem ints_of_vals:∀ {ns:List Int} {us:List Value},Vals (ns.map V.int) us→IntsAre us ns
  | [],us,r=>by cases r;exact .nil
  | n :: ns,us,r=>by
    cases r with
    | cons h t =>
      obtain ⟨tk,rfl⟩:=h
      exact .cons n tk (ints_of_vals t)
theorem boot_sorted_:bootBuiltins "sorted" = some (.builtin "sorted"):=by decide +kernel
inductive J_call_sortedL (kK:PySem.W.Frag) (xs:List V) (H:Hp) (Q:VK):Prop
  | mk:∀ (p:Addr) (ns:List Int),(xs = [.ref p])→(SqL kK H p (ns.map V.int))→(ns.length < 64)→(∀ (ns':List Int) (l:Addr),ns'.Perm ns→ns'.Pairwise (· ≤ ·)→H l=none→Q (.ref l) (upd H l (.lst (ns'.map V.int))))→J_call_sortedL kK xs H Q
theorem call_sortedL:CallR X (.builtin "sorted") (fun xs H Q=>J_call_sortedL X.K xs H Q):=by
  intro pins s σ H xs us Q I r h
  obtain ⟨p,ns,rfl,hS,h64,q⟩:=h
  obtain ⟨u,rfl,rx⟩:=vals1 r
  cases rx
  obtain ⟨its,r',pl,hz⟩:=I.list hS
  have hlen:=r'.length
  rw [List.length_map] at hlen
  refine sorted_ints pl.isList (ints_of_vals r') (by omega) fun out ns' a1 a2 a3 => ?_
  obtain ⟨e,he⟩:=sortedAll_at s.heap its out
  have hfr:H (s.heap.objs.size+1)=none:=I.hok.fresh (Nat.le_succ _)
  have hl':ns'.length=ns.length:=a2.length_eq
  refine ⟨.ref (s.heap.objs.size+1),_,I.laid (t':=s.toks) (fun b o e'=>sortedAll_old e') (Nat.le_succ _) (show ObjOk X.prog X.w _ (sortedAll s.heap its out) _ (.lst (ns'.map V.int)) from ⟨?_,out.toList,e,vals_ints a1,by rw [he]⟩),rfl,q ns' _ a2 a3 hfr⟩
  rw [List.length_map,hl']
  rw [List.length_map] at hz
  exact hz
end
end L2
namespace L2
open PySem PySem.Spec PyProof.Rows
section
variable {prog:Program} {w:World} {A:Around} {R:Result→Shared→Prop} {I:Addr} {fp wr:List Addr} {n:Nat} {P:Nat→Value→Prop} {St:Nat→Heap→Prop} {kw:List (Str × Value)} {G:Heap→Prop}
theorem min_turns (W:Walks prog w A.in1 I fp wr n P St) (bt:Nat→Nat→Bool) (S:Addr) (hSf:S ∉ fp) (hG:∀ h h':Heap,G h→(∀ b o,b ∉ wr→b≠S→h.get? b=some o→h'.get? b=some o)→G h')
    (hcmp:∀ (i j:Nat) (vi vj:Value) (s:Shared) (Q E:Value→Shared→Prop),G s.heap→P i vi→P j vj→Q (.bool (bt i j)) s→wpAny (model prog w) A.in1 (richCompare .Lt vi vj) Q E s) :
    ∀ (k j:Nat) (s:Shared) (vb:Value) (c:Nat),n - (j+1)=k→j+1≤n→G s.heap→St (j+1) s.heap→P (argBest bt j) vb →
    s.heap.get? S=some { cls := .type "list",dict:=none,data := .seq #[vb,vb] c,slots := #[] } →
    (∀ v h' tk,P (argBest bt (n - 1)) v→(∀ b o,b ∉ wr→b≠S→s.heap.get? b=some o→h'.get? b=some o)→R (.ok (.ret v)) { s with heap:=h',toks:=tk }) →
    codeAny (model prog w) A (.builtin "min.loop" ⟨[.ref I,.none,.ref S],kw⟩) R s:=by
  have hSw:S ∉ wr:=fun h=>hSf (W.sub _ h)
  have hname:(toString "min" ++ toString ".loop" : String) = "min.loop" := by decide
  intro k
  induction k with
  | zero =>
    intro j s vb c hk hj g hst hPb hS hR
    have hin:j+1=n:=by omega
    refine codeAny_builtin F.entry_min_loop ?_
    rw [Around.under_plainId F.plain_min_loop _]
    show wpAny _ A.in1 (seqItems? (.ref S) >>= _) _ _ s
    refine wpAny_bind (wpAny_seqItems hS rfl ?_)
    show wpAny _ A.in1 (tryCatch (pyNext (.ref I)) _ >>= _) _ _ s
    refine wpAny_bind (wpAny_tryCatch (W.done s _ _ (hin ▸ hst) fun h' tk hk' => ?_))
    have hS':=hk' S _ hSw hS
    show wpAny _ A.in1 (updateSeq S (fun _ => #[]) >>= _) _ _ _
    refine wpAny_bind ?_
    refine wpAny_updateSeq hS' rfl (wpAny_bind (wpAny_letGo (wpAny_pure ?_)))
    refine hR vb _ tk (by rw [← hin];exact hPb) fun b o hbw hbS e=>(Heap.get?_update_other _ _ (Ne.symm hbS)).trans (hk' b o hbw e)
  | succ k ih =>
    intro j s vb c hk hj g hst hPb hS hR
    have hlt:j+1 < n:=by omega
    refine codeAny_builtin F.entry_min_loop ?_
    rw [Around.under_plainId F.plain_min_loop _]
    show wpAny _ A.in1 (seqItems? (.ref S) >>= _) _ _ s
    refine wpAny_bind (wpAny_seqItems hS rfl ?_)
    show wpAny _ A.in1 (tryCatch (pyNext (.ref I)) _ >>= _) _ _ s
    refine wpAny_bind (wpAny_tryCatch (W.item (j+1) s _ _ hlt hst fun v h' tk hP hst' hk' => ?_))
    have hS':=hk' S _ hSw hS
    have g':G h':=hG _ _ g fun b o h1 _ e=>hk' b o h1 e
    show wpAny _ A.in1 (tryCatch (holding [v,v] (richCompare .Lt v vb >>= _)) _ >>= _) _ _ _
    refine wpAny_bind (wpAny_tryCatch (wpAny_holding (wpAny_bind (hcmp (j+1) (argBest bt j) v vb _ _ _ g' hP hPb ?_))))
    refine wpAny_bind (wpAny_holding (wpAny_truthy_bool ?_))
    refine wpAny_bind (wpAny_letGo (wpAny_pure ?_))
    cases hb:bt (j+1) (argBest bt j) with
    | true =>
      simp only [if_true]
      refine wpAny_bind ?_
      refine wpAny_updateSeq hS' rfl (wpAny_bind (wpAny_letGo ?_))
      rw [hname]
      refine wpAny_pure ⟨plainId_quiet F.plain_min_loop _,ih (j+1) _ v _ (by omega) hlt (hG _ _ g' fun b o _ h2 e=>(Heap.get?_update_other _ _ (Ne.symm h2)).trans e) (W.frame _ _ _ hst' fun b hbf o e => ?_) (by simp only [argBest,hb,if_true];exact hP) (Heap.get?_update_self _ hS' rfl)
        fun v' h'' tk'' hP' hk'' => ?_⟩
      · exact (Heap.get?_update_other _ _ (fun h:S=b=>hSf (by rw [h];exact hbf))).trans e
      · exact hR v' h'' tk'' hP' fun b o hbw hbS e=>hk'' b o hbw hbS ((Heap.get?_update_other _ _ (Ne.symm hbS)).trans (hk' b o hbw e))
    | false =>
      simp only [Bool.false_eq_true,if_false]
      refine wpAny_bind (wpAny_letGo ?_)
      rw [hname]
      refine wpAny_pure ⟨plainId_quiet F.plain_min_loop _,ih (j+1) _ vb c (by omega) hlt g' hst' (by simp only [argBest,hb,Bool.false_eq_true,if_false];exact hPb) hS' fun v' h'' tk'' hP' hk'' => ?_⟩
      exact hR v' h'' tk'' hP' fun b o hbw hbS e=>hk'' b o hbw hbS (hk' b o hbw e)
theorem min_first (W:Walks prog w A.in1 I fp wr n P St) (bt:Nat→Nat→Bool) (S:Addr) (hSf:S ∉ fp) (hG:∀ h h':Heap,G h→(∀ b o,b ∉ wr→b≠S→h.get? b=some o→h'.get? b=some o)→G h')
    (hcmp:∀ (i j:Nat) (vi vj:Value) (s:Shared) (Q E:Value→Shared→Prop),G s.heap→P i vi→P j vj→Q (.bool (bt i j)) s→wpAny (model prog w) A.in1 (richCompare .Lt vi vj) Q E s)
    {s:Shared} {c:Nat} {d:Value} {dn:Str} (hkw:kw = [(dn,d)]) (g:G s.heap) (hst:St 0 s.heap) (hS:s.heap.get? S=some { cls := .type "list",dict:=none,data := .seq #[] c,slots := #[] })
    (h0:n=0→∀ h' tk,(∀ b o,b ∉ wr→b≠S→s.heap.get? b=some o→h'.get? b=some o)→R (.ok (.ret d)) { s with heap:=h',toks:=tk })
    (hR:0 < n→∀ v h' tk,P (argBest bt (n - 1)) v→(∀ b o,b ∉ wr→b≠S→s.heap.get? b=some o→h'.get? b=some o)→R (.ok (.ret v)) { s with heap:=h',toks:=tk }) :
    codeAny (model prog w) A (.builtin "min.loop" ⟨[.ref I,.none,.ref S],kw⟩) R s:=by
  subst hkw
  have hSw:S ∉ wr:=fun h=>hSf (W.sub _ h)
  have hname:(toString "min" ++ toString ".loop" : String) = "min.loop" := by decide
  refine codeAny_builtin F.entry_min_loop ?_
  rw [Around.under_plainId F.plain_min_loop _]
  show wpAny _ A.in1 (seqItems? (.ref S) >>= _) _ _ s
  refine wpAny_bind (wpAny_seqItems hS rfl ?_)
  show wpAny _ A.in1 (tryCatch (pyNext (.ref I)) _ >>= _) _ _ s
  by_cases hn:n=0
  · refine wpAny_bind (wpAny_tryCatch (W.done s _ _ (hn ▸ hst) fun h' tk hk' => ?_))
    exact wpAny_bind (wpAny_rule (wpAny_pure (h0 hn h' tk fun b o h1 _ e=>hk' b o h1 e)))
  refine wpAny_bind (wpAny_tryCatch (W.item 0 s _ _ (by omega) hst fun v h' tk hP hst' hk' => ?_))
  have hS':=hk' S _ hSw hS
  show wpAny _ A.in1 (updateSeq S (fun _ => #[v,v]) >>= _) _ _ _
  refine wpAny_bind ?_
  refine wpAny_updateSeq hS' rfl ?_
  rw [hname]
  have g':G h':=hG _ _ g fun b o h1 _ e=>hk' b o h1 e
  refine wpAny_pure ⟨plainId_quiet F.plain_min_loop _,min_turns W bt S hSf hG hcmp _ 0 _ v _ rfl (by omega) (hG _ _ g' fun b o _ h2 e=>(Heap.get?_update_other _ _ (Ne.symm h2)).trans e) (W.frame _ _ _ hst' fun b hbf o e => ?_) hP (Heap.get?_update_self _ hS' rfl) fun v' h'' tk'' hP' hk'' => ?_⟩
  · exact (Heap.get?_update_other _ _ (fun h:S=b=>hSf (by rw [h];exact hbf))).trans e
  · exact hR (by omega) v' h'' tk'' hP' fun b o hbw hbS e=>hk'' b o hbw hbS ((Heap.get?_update_other _ _ (Ne.symm hbS)).trans (hk' b o hbw e))
end
theorem lex_irr:∀ p:List Int,HT.lexLt p p=false
  | []=>rfl
  | x :: p=>by rw [HT.lexLt_cons,if_pos rfl];exact lex_irr p
theorem lex_trans:∀ {p q r:List Int},HT.lexLt p q=false→HT.lexLt q r=false→HT.lexLt p r=false
  | [], [],_,_,h=>h
  | [],_ :: _,_,h,_=>by cases h
  | _ :: _, [], [],_,_=>rfl
  | _ :: _, [],_ :: _,_,h=>by cases h
  | _ :: _,_ :: _, [],_,_=>rfl
  | x :: p,y :: q,z :: r,h1,h2=>by
    rw [HT.lexLt_cons] at h1 h2 ⊢
    by_cases e1:x=y
    · rw [if_pos e1] at h1
      by_cases e2:y=z
      · rw [if_pos e2] at h2
        rw [if_pos (e1.trans e2)]
        exact lex_trans h1 h2
      · rw [if_neg e2] at h2
        rw [if_neg (by rw [e1];exact e2),e1]
        exact h2
    · rw [if_neg e1] at h1
      have h1':=of_decide_eq_false h1
      by_cases e2:y=z
      · rw [if_neg (by rw [← e2];exact e1), ← e2];exact h1
      · rw [if_neg e2] at h2
        have h2':=of_decide_eq_false h2
        rw [if_neg (by omega)]
        exact decide_eq_false (by omega)
theorem best_lex (ps:Nat→List Int):∀ k,argBest (fun i j=>HT.lexLt (ps i) (ps j)) k≤k∧∀ j,j≤k→HT.lexLt (ps j) (ps (argBest (fun i j=>HT.lexLt (ps i) (ps j)) k))=false
  | 0=>⟨Nat.le_refl _,fun j hj=>by
    have:j=0:=by omega
    subst this
    exact lex_irr _⟩
  | k+1=>by
    obtain ⟨h1,h2⟩:=best_lex ps k
    rw [argBest]
    cases e:HT.lexLt (ps (k+1)) (ps (argBest (fun i j=>HT.lexLt (ps i) (ps j)) k)) with
    | true =>
      simp only [if_true]
      refine ⟨Nat.le_refl _,fun j hj => ?_⟩
      by_cases hj':j=k+1
      · subst hj';exact lex_irr _
      · have h3:=h2 j (by omega)
        have h4:HT.lexLt (ps (argBest (fun i j=>HT.lexLt (ps i) (ps j)) k)) (ps (k+1))=false:=by
          cases e2:HT.lexLt (ps (argBest (fun i j=>HT.lexLt (ps i) (ps j)) k)) (ps (k+1)) with
          | false=>rfl
          | true=>exact absurd e2 (lex_asym e)
        exact lex_trans h3 h4
    | false =>
      simp only [Bool.false_eq_true,if_false]
      refine ⟨by omega,fun j hj => ?_⟩
      by_cases hj':j=k+1
      · subst hj';exact e
      · exact h2 j (by omega)
where
  lex_asym:∀ {p q:List Int},HT.lexLt p q=true→HT.lexLt q p≠true
    | [], [],h=>by cases h
    | [],_ :: _,_=>by intro z;cases z
    | _ :: _, [],h=>by cases h
    | x :: p,y :: q,h=>by
      rw [HT.lexLt_cons] at h ⊢
      by_cases e:x=y
      · rw [if_pos e] at h
        rw [if_pos e.symm]
        exact lex_asym h
      · rw [if_neg e] at h
        rw [if_neg (Ne.symm e)]
        have:=of_decide_eq_true h
        intro z
        have:=of_decide_eq_true z
        omega
theorem F_args_minD (a d:Value):argsOk "min" ⟨[a], [("default",d)]⟩:=by unfold argsOk;kernel_rfl
section
variable {X:Cx} {e:Expr} {te:TE} {p pos kp cp:Pos} {j:Nat}
noncomputable def TupAt (H:Hp) (v:V) (q:List Int):Prop := ∃ t,v = .ref t∧H t=some (.tup (q.map V.int))
noncomputable def tMinD (te:TE):TE:=fun σ H Q=>te σ H fun x H1=>∃ (a:Addr) (us:List V) (ps:List (List Int)),x = .ref a∧H1 a=some (.lst us)∧Paired (TupAt H1) us ps∧(us = []→Q .non H1) ∧
  ∀ (i:Nat) v q,us[i]? = some v→ps[i]? = some q→(∀ r∈ps,HT.lexLt r q=false)→Q v H1
theorem pe_minD (hu:X.A.units+10 < cLine) (hc:X.calm=true) (hg:Gl X "min") (hm:X.mg "min" = none) (he:PE X e te) (hst:starEach [e] X.env = [(false,eval e X.env)]:=by rfl) :
    PE X (.Call (.Name "min" p) [e] [⟨some "default",.Constant .none j cp,kp⟩] pos) (tMinD te):=by
  intro pins s σ H Q I h
  refine wpAny_Call_Name_kw (ld_blt I hg hm boot_min_ ?_ (by decide) (by decide))
  refine callWith_kw ?_ (by rw [hst];rfl) (by rw [hst];rfl)
  rw [hst]
  refine Calls.spliced_cons (thn (he pins s σ H _ I h) fun u s1 ⟨x,H1,I1,r1,q1⟩ => ?_)
  refine Calls.spliced_nil ?_
  refine kws_cons (thn (pe_non (X:=X) pins s1 σ H1 (fun v H2=>v = .non∧H2=H1) I1 ⟨rfl,rfl⟩) fun d s2 ⟨y,H2,I2,r2,q2⟩ => ?_)
  refine kws_nil ?_
  obtain ⟨rfl,rfl⟩:=q2
  obtain rfl:d=Value.none:=r2
  obtain ⟨a,us,ps,rfl,ha,hps,q0,q1⟩:=q1
  obtain rfl:u=Value.ref a:=r1
  obtain ⟨z,its,c0,rv,e0⟩:=(show ObjOk X.prog X.w H2 s2.heap a (.lst us) from I2.hok a _ ha)
  have hl:s2.heap.IsList a its.toArray:=⟨_,e0,rfl,_,rfl⟩
  have hul:=rv.length
  have hpl:=Paired.length hps
  have hh:=I2.ok.hd hc
  have hun:X.A.in1.units < cLine:=by show X.A.units+1 < cLine;omega
  show wpAny _ _ (call (.builtin "min") [.ref a] [("default",.none)]) _ _ s2
  have hname:(toString "min" ++ toString ".loop" : String) = "min.loop" := by decide
  refine kmk_tree PySem.F.kind_min PySem.F.plain_min PySem.F.entry_min (F_args_minD _ _) ?_
  show wpAny _ X.A.in1 (Builtin.Builtins.bindParams "min" ["key", "default"] 0 ⟨[], [("default",.none)]⟩ >>= _) _ _ s2
  refine wpAny_bind (wpAny_of_eq (show Builtin.Builtins.bindParams "min" ["key", "default"] 0 ⟨[], [("default",.none)]⟩=pure [none,some .none] from rfl) ?_)
  refine wpAny_bind (wpAny_pure ?_)
  refine wpAny_bind (wpAny_pyIter_list hl ?_)
  refine wpAny_bind (wpAny_newList ?_ (Nat.zero_le _))
  rw [hname]
  have hla:a < s2.heap.objs.size:=Heap.lt_size e0
  have hlI:a≠s2.heap.objs.size:=Nat.ne_of_lt hla
  have hS:(s2.heap.push { cls := .type "list_iterator",data := .fields #[.ref a,.int 0 0] }).objs.size=s2.heap.objs.size+1:=size_push' ..
  have old:∀ b o,s2.heap.get? b=some o→((s2.heap.push { cls := .type "list_iterator",data := .fields #[.ref a,.int 0 0] }).push (seqObj "list" #[] 0)).get? b=some o:=fun b o e=>Heap.get?_push_of_some _ (Heap.get?_push_of_some _ e)
  have gI:((s2.heap.push { cls := .type "list_iterator",data := .fields #[.ref a,.int 0 0] }).push (seqObj "list" #[] 0)).get? s2.heap.objs.size=some { cls := .type "list_iterator",data := .fields #[.ref a,.int 0 0] } :=
    Heap.get?_push_of_some _ (Heap.get?_push_size _ rfl)
  refine wpAny_pure ⟨plainId_quiet PySem.F.plain_min_loop _,?_⟩
  have P1:∀ (i:Nat) (vi:Value),its.toArray[i]? = some vi→∃ x q,us[i]? = some x∧ps[i]? = some q∧RelV x vi∧TupAt H2 x q:=fun i vi hi=>by
    have hi':its[i]? = some vi:=by simpa using hi
    have hil:=(List.getElem?_eq_some_iff.mp hi').1
    have f1:=List.getElem?_eq_getElem (l:=us) (i:=i) (by omega)
    have f2:=List.getElem?_eq_getElem (l:=ps) (i:=i) (by omega)
    exact ⟨_,_,f1,f2,vals_at rv f1 hi',paired_at2 hps f1 f2⟩
  refine min_first (G:=fun h=>∀ b o,s2.heap.get? b=some o→h.get? b=some o) (Walks.list (A:=X.A.in1) hh s2.heap.objs.size a hlI its.toArray) (fun i j=>HT.lexLt (ps.getD i []) (ps.getD j [])) (s2.heap.push { cls := .type "list_iterator",data := .fields #[.ref a,.int 0 0] }).objs.size ?_ (fun h h' g k b o e => ?_) (fun i j vi vj s' Q' E' g hi hj hq => ?_) rfl old ⟨⟨_,gI,rfl,rfl⟩,⟨_,old _ _ e0,rfl,_,rfl⟩⟩ (Heap.get?_push_size _ rfl) (fun hn h' tk hk => ?_) (fun hn v h' tk hv hk => ?_)
  · rw [hS]
    intro hm
    rcases List.mem_cons.mp hm with e | hm
    · exact absurd e (Nat.succ_ne_self _)
    · rcases List.mem_cons.mp hm with e | hm
      · rw [← e] at hla;exact absurd hla (Nat.not_lt.mpr (Nat.le_succ _))
      · cases hm
  · refine k b o (fun hm => ?_) (fun e' => ?_) (g b o e)
    · rw [List.mem_singleton.mp hm] at e;exact absurd (Heap.lt_size e) (Nat.lt_irrefl _)
    · rw [e',hS] at e;exact absurd (Heap.lt_size e) (Nat.not_lt.mpr (Nat.le_succ _))
  · obtain ⟨x,p1,f1,f2,r1,t1,rfl,ht1⟩:=P1 i vi hi
    obtain ⟨y,p2,f3,f4,r2,t2,rfl,ht2⟩:=P1 j vj hj
    obtain rfl:vi=Value.ref t1:=r1
    obtain rfl:vj=Value.ref t2:=r2
    obtain ⟨i1,v1,⟨o1,g1,k1⟩,_⟩:=I2.tuple (SqT.of ht1)
    obtain ⟨i2,v2,⟨o2,g2,k2⟩,_⟩:=I2.tuple (SqT.of ht2)
    rw [List.getD_eq_getElem?_getD,List.getD_eq_getElem?_getD,f2,f4] at hq
    exact HT.lt_tupInts ⟨o1,g _ _ g1,k1⟩ ⟨o2,g _ _ g2,k2⟩ (by simpa using intsAre_of v1) (by simpa using intsAre_of v2) hun hq
  · have hu0:us = []:=by
      have:its.length=0:=by simpa using hn
      exact List.eq_nil_of_length_eq_zero (by omega)
    exact ⟨.non,H2,I2.kept fun b o e=>hk b o (fun hm=>by rw [List.mem_singleton.mp hm] at e;exact absurd (Heap.lt_size e) (Nat.lt_irrefl _)) (fun e'=>by rw [e',hS] at e;exact absurd (Heap.lt_size e) (Nat.not_lt.mpr (Nat.le_succ _))) (old b o e),rfl,q0 hu0⟩
  · obtain ⟨x,q,f1,f2,r1,_⟩:=P1 _ v hv
    obtain ⟨b1,b2⟩:=best_lex (fun i=>ps.getD i []) (its.toArray.size - 1)
    refine ⟨x,H2,I2.kept fun b o e=>hk b o (fun hm=>by rw [List.mem_singleton.mp hm] at e;exact absurd (Heap.lt_size e) (Nat.lt_irrefl _)) (fun e'=>by rw [e',hS] at e;exact absurd (Heap.lt_size e) (Nat.not_lt.mpr (Nat.le_succ _))) (old b o e),r1,q1 _ x q f1 f2 fun r hr => ?_⟩
    obtain ⟨j,hj⟩:=List.getElem?_of_mem hr
    have hjl:=(List.getElem?_eq_some_iff.mp hj).1
    have hsz:its.toArray.size=its.length:=by simp
    have h3:=b2 j (by omega)
    rw [List.getD_eq_getElem?_getD,hj,List.getD_eq_getElem?_getD,f2] at h3
    exact h3
end
end L2
namespace L2
open PySem PySem.Spec PyProof.Rows
structure ClsM (K:PySem.W.Frag) (C f:Addr) (m:Str):Prop where
  ga:PySem.W.specialIn K (.ref C) "__getattribute__" = some (some (.builtin "type.__getattribute__"))
  rd:PySem.W.readsIn K C (.type "type")=true
  at_:PySem.W.findCls K (.ref C) (.type "type") m=some (.val (.ref f))
structure HasK (P:Program) (w:World) (K:PySem.W.Frag) (mg:Str→Option Value) (base:Heap) (k:Nat) (x m:Str) (ps:List Str) (sp:Sp):Prop where
  ex:∃ f fd C,FnOk P w K mg base (CXE P w) k f fd ps sp∧mg x=some (.ref C)∧ClsM K C f m∧PySem.W.keepIn K (.ref f)=true∧Binds K fd ps []
structure DefK (K:PySem.W.Frag) (mg:Str→Option Value) (x m qual:Str) (st:Stmt) (ps:List Str):Prop where
  ex:∃ f fd C,Fun K m qual st f fd∧mg x=some (.ref C)∧ClsM K C f m∧Binds K fd ps []
section
variable {P:Program} {w:World} {K:PySem.W.Frag} {mg:Str→Option Value} {base:Heap} {x m qual:Str} {st:Stmt} {N ps:List Str} {k:Nat} {sp:Sp}
theorem DefK.has (D:DefK K mg x m qual st ps) (S:FnScope N ps (defScope st)) (len:∀ vs H Q E,sp vs H Q E→vs.length=ps.length)
    (hbody:∀ (f:Addr) (cdv:Value) (A:Around) (outer:List Env) (s:Shared) (H:Hp) (vs:List V) (Q:VK) (E:XK),Room k (A.deeper (envOfC qual (defScope st) s.heap.objs.size f cdv))→sp vs H Q E →
      ∃ t,PSs (cxOf (CXE P w) P w K mg base N qual (defScope st) f cdv A outer s H E) (defBody st) t∧t { nx:=fun _ H'=>Q .non H',rt:=Q } (start N vs) H):HasK P w K mg base (k+1) x m ps sp:=by
  obtain ⟨f,fd,C,F,hm,hc,hb⟩:=D.ex
  exact ⟨f,fd,C,F.okE S len (hbody f),hm,hc,F.kp,hb⟩
end
section
variable {X:Cx} {k k':Nat} {x m:Str} {ps:List Str} {sp:Sp} {p pos apos:Pos} {e:Expr} {es:List Expr} {t:TA} {E:XK}
theorem pe_callC {pl:Sem Bool} (h:HasK X.prog X.w X.K X.mg X.base k x m ps sp) (hr:Room k' X.A) (hk:k≤k') (hx:Passes (CXE X.prog X.w) X E) (hg:Gl X x) (ha:PA X (e :: es) t) (hdb:(x == ("__debug__" : Str))=false:=by decide)
    (hst:starEach (e :: es) X.env=(false,eval e X.env) :: starEach es X.env:=by rfl) (hpl:(backTo pos (starEach es X.env)).any (·.1)=false:=by rfl)
    (ht:eval (.Call (.Attribute (.Name x p) m apos) (e :: es) [] pos) X.env=(do
      let ov ← eval (.Name x p) X.env
      standAt apos.atName
      let (f,first) ← holding [ov] (getMethod ov m pl)
      callWith pos f first (backTo pos (starEach (e :: es) X.env)) (backToKw pos (keywordEach [] X.env))):=by rfl) :
    PE X (.Call (.Attribute (.Name x p) m apos) (e :: es) [] pos) (tCall sp [] E t):=by
  obtain ⟨f,fd,C,F,hm,hc,hkp,hb⟩:=h.ex
  intro pins s σ H Q I h
  refine PySem.W.methodCall_KW (pl:=pl) (ld_glob I hg hm ?_ hdb) ht
  refine PySem.W.method_cls I.kIn hc.ga (PySem.W.cls_value I.kIn hc.rd hc.at_ rfl ?_)
  have I':=I.tok (s.toks+1)
  refine PySem.W.callWith_K (first := []) (h₀ := X.base) I.ok.mod.kin hkp (thn (ha pos pins _ σ H _ I' h) fun us s2 ⟨vs,H2,I2,r,q2⟩=>⟨I2.kIn,?_⟩) hst hpl
  exact run_fn F (hr.mono hk) hb .nil hx I2 r q2
end
theorem band_nat (a b:Nat):Builtin.bitAnd (a:Int) (b:Int)=((a &&& b:Nat):Int):=by
  unfold Builtin.bitAnd
  rw [decide_eq_true (by omega:(0:Int)≤a),decide_eq_true (by omega:(0:Int)≤b)]
  show ((((a:Int).toNat &&& (b:Int).toNat:Nat)):Int)=_
  rw [Int.toNat_natCast,Int.toNat_natCast]
theorem bor_nat (a b:Nat):Builtin.bitOr (a:Int) (b:Int)=((a ||| b:Nat):Int):=by
  have e:∀ n:Nat,Builtin.bitNot (Builtin.bitNot (n:Int))=(n:Int):=fun n=>by unfold Builtin.bitNot;omega
  unfold Builtin.bitOr Builtin.bitAnd
  rw [decide_eq_false (by unfold Builtin.bitNot;omega:¬ (0:Int)≤Builtin.bitNot a),decide_eq_false (by unfold Builtin.bitNot;omega:¬ (0:Int)≤Builtin.bitNot b)]
  dsimp only
  rw [e,e,e,Int.toNat_natCast,Int.toNat_natCast]
theorem bclr_nat (a b:Nat):Builtin.bitAnd (a:Int) (Builtin.bitNot (b:Int))=(((a - (a &&& b):Nat)):Int):=by
  have e:∀ n:Nat,Builtin.bitNot (Builtin.bitNot (n:Int))=(n:Int):=fun n=>by unfold Builtin.bitNot;omega
  unfold Builtin.bitAnd
  rw [decide_eq_true (by omega:(0:Int)≤a),decide_eq_false (by unfold Builtin.bitNot;omega:¬ (0:Int)≤Builtin.bitNot b)]
  dsimp only
  rw [e,Int.toNat_natCast,Int.toNat_natCast]
  have:=Nat.and_le_left (n:=a) (m:=b)
  omega
theorem clr_bit:∀ (j x b:Nat),(x - (x &&& b)).testBit j=(x.testBit j && !b.testBit j):=by
  have h1:∀ x b:Nat,(x &&& b) / 2=(x / 2 &&& b / 2):=fun x b=>Nat.and_div_two
  have h2:∀ x b:Nat,(x &&& b) % 2=(x % 2) * (b % 2):=fun x b=>by
    have:=Nat.and_mod_two_pow (a:=x) (b:=b) (n:=1)
    rw [Nat.pow_one] at this
    rw [this]
    rcases Nat.mod_two_eq_zero_or_one x with e | e <;> rcases Nat.mod_two_eq_zero_or_one b with e' | e' <;> rw [e,e'] <;> rfl
  intro j
  induction j with
  | zero =>
    intro x b
    rw [Nat.testBit_zero,Nat.testBit_zero,Nat.testBit_zero]
    have:=h1 x b
    have h3:=h2 x b
    have h4:=Nat.and_le_left (n:=x) (m:=b)
    rcases Nat.mod_two_eq_zero_or_one x with e | e <;> rcases Nat.mod_two_eq_zero_or_one b with e' | e' <;> rw [e,e'] at h3 <;> rw [e,e']
    · rw [show (x - (x &&& b)) % 2=0 by omega];rfl
    · rw [show (x - (x &&& b)) % 2=0 by omega];rfl
    · rw [show (x - (x &&& b)) % 2=1 by omega];rfl
    · rw [show (x - (x &&& b)) % 2=0 by omega];rfl
  | succ j ih =>
    intro x b
    rw [Nat.testBit_succ,Nat.testBit_succ,Nat.testBit_succ, ← ih]
    congr 1
    have:=h1 x b
    have h3:=h2 x b
    have h4:=Nat.and_le_left (n:=x / 2) (m:=b / 2)
    rcases Nat.mod_two_eq_zero_or_one x with e | e <;> rcases Nat.mod_two_eq_zero_or_one b with e' | e' <;> rw [e,e'] at h3 <;> omega
theorem and_pow (x i:Nat):(x &&& 2 ^ i)=if x.testBit i=true then 2 ^ i else 0:=by
  refine Nat.eq_of_testBit_eq fun j => ?_
  rw [Nat.testBit_and,Nat.testBit_two_pow]
  by_cases e:i=j
  · subst e
    rw [decide_eq_true rfl,Bool.and_true]
    cases h:x.testBit i
    · rw [if_neg (by decide),Nat.zero_testBit]
    · rw [if_pos rfl,Nat.testBit_two_pow,decide_eq_true rfl]
  · rw [decide_eq_false e,Bool.and_false]
    split
    · rw [Nat.testBit_two_pow,decide_eq_false e]
    · rw [Nat.zero_testBit]
end L2
namespace Sw
open PySem L2
noncomputable def nameT:Tm→Option Str
  | .name z=>some z
  | _=>none
theorem nameT_some {t:Tm} {z:Str} (h:nameT t=some z):t = .name z:=by
  cases t with
  | name y=>cases h;rfl
  | num n=>cases h
  | of x as=>cases h
noncomputable def heldF (ts:List Tm):List Str:=ts.filterMap nameT
noncomputable def bitW (hs:List Str) (w:Str):Nat:=2 ^ hs.idxOf w
theorem idx_at:∀ {hs:List Str} {n:Nat} {w:Str},hs.Nodup→hs[n]? = some w→hs.idxOf w=n
  | [],n,w,_,e=>by simp at e
  | x :: hs,0,w,_,e=>by
    rw [List.getElem?_cons_zero] at e
    cases e
    rw [List.idxOf_cons,beq_self_eq_true];rfl
  | x :: hs,n+1,w,hn,e=>by
    rw [List.getElem?_cons_succ] at e
    have hw:=List.mem_of_getElem? e
    have hx:=(List.nodup_cons.mp hn).1
    have hne:(x == w)=false:=beq_eq_false_iff_ne.mpr fun z=>hx (z ▸ hw)
    rw [List.idxOf_cons,hne,idx_at (List.nodup_cons.mp hn).2 e];rfl
theorem held_nodup:∀ {ts:List Tm},ts.Nodup→(heldF ts).Nodup
  | [],_=>List.nodup_nil
  | t :: ts,h=>by
    obtain ⟨h1,h2⟩:=List.nodup_cons.mp h
    unfold heldF
    rw [List.filterMap_cons]
    cases e:nameT t with
    | none=>exact held_nodup h2
    | some w =>
      refine List.nodup_cons.mpr ⟨fun hm => ?_,held_nodup h2⟩
      obtain ⟨t',ht',e'⟩:=List.mem_filterMap.mp hm
      rw [nameT_some e, ← nameT_some e'] at h1
      exact h1 ht'
theorem held_at {ts:List Tm} {k:Nat} {w:Str} (h:ts[k]? = some (.name w)):∃ n:Nat,(heldF ts)[n]? = some w:=by
  have hm:w∈heldF ts:=List.mem_filterMap.mpr ⟨_,List.mem_of_getElem? h,rfl⟩
  exact List.getElem?_of_mem hm
theorem held_len (ts:List Tm):(heldF ts).length≤ts.length:=List.length_filterMap_le _ _
theorem bit_at {ts:List Tm} (hn:ts.Nodup) {n:Nat} {w:Str} (h:(heldF ts)[n]? = some w):bitW (heldF ts) w=2 ^ n:=by
  unfold bitW;rw [idx_at (held_nodup hn) h]
noncomputable def stand (hs:List Str) (ts:List Tm) (ls:List Nat) (l:Nat):Nat→Nat
  | 0=>0
  | n+1=>match (ts[n]?).bind nameT with
    | some w=>if ls.getD n 0=l then stand hs ts ls l n ||| bitW hs w else stand hs ts ls l n
    | none=>stand hs ts ls l n
theorem stand_name {hs:List Str} {ts:List Tm} {ls:List Nat} {l n:Nat} {w:Str} (h:ts[n]? = some (.name w)):stand hs ts ls l (n+1)=if ls.getD n 0=l then stand hs ts ls l n ||| bitW hs w else stand hs ts ls l n:=by
  rw [stand,h];rfl
theorem stand_else {hs:List Str} {ts:List Tm} {ls:List Nat} {l n:Nat} {t:Tm} (h:ts[n]? = some t) (ht:nameT t=none):stand hs ts ls l (n+1)=stand hs ts ls l n:=by
  rw [stand,h]
  show (match nameT t with | some w=>_ | none=>_)=_
  rw [ht]
noncomputable def clrN (x b:Nat):Nat:=x - (x &&& b)
noncomputable def orF (ks:List Nat) (as:List Nat):Nat:=as.foldl (fun acc a=>acc ||| ks.getD a 0) 0
theorem or_take {ks as:List Nat} {i a:Nat} (h:as[i]? = some a):orF ks (as.take (i+1))=orF ks (as.take i) ||| ks.getD a 0:=by
  unfold orF
  rw [List.take_add_one,h,List.foldl_append];rfl
noncomputable def worthN (ts:List Tm) (ls ks:List Nat):Tm→Nat
  | .num _=>0
  | .name w=>bitW (heldF ts) w
  | .of x as=>if x = "bind" ∧ as.length=2 then clrN (ks.getD (as.getD 1 0) 0) (stand (heldF ts) ts ls (ls.getD (as.getD 0 0) 0) ts.length) else orF ks as
theorem worth_of (ts:List Tm) (ls ks:List Nat) (x:Str) (as:List Nat):worthN ts ls ks (.of x as)=if x = "bind" ∧ as.length=2 then clrN (ks.getD (as.getD 1 0) 0) (stand (heldF ts) ts ls (ls.getD (as.getD 0 0) 0) ts.length) else orF ks as:=rfl
structure BitsTo (hs:List Str) (n:Nat) (kvs:DK):Prop where
  at_:∀ i w,i < n→hs[i]? = some w→valV kvs (Sum.inr w)=some (nV (2 ^ i))
  len:kvs.length≤n
  only:∀ z,(∀ i,i < n→hs[i]? ≠ some z)→valV kvs (Sum.inr z)=none
theorem bits_nil (hs:List Str):BitsTo hs 0 []:=⟨fun i w h=>absurd h (Nat.not_lt_zero i),Nat.le_refl _,fun z _=>rfl⟩
theorem bits_step {hs:List Str} {n:Nat} {kvs:DK} {w:Str} (hn:hs.Nodup) (h:BitsTo hs n kvs) (hw:hs[n]? = some w):BitsTo hs (n+1) (putK kvs (Sum.inr w) (nV (2 ^ n))):=by
  refine ⟨fun i v hi hv => ?_,Nat.le_trans (length_putK kvs _ _) (Nat.succ_le_succ h.len),fun z hz=>by
    rw [valV_put,if_neg (fun e=>hz n (Nat.lt_succ_self n) (by rw [hw,Sum.inr.inj e]))]
    exact h.only z fun i hi=>hz i (Nat.lt_succ_of_lt hi)⟩
  rw [valV_put]
  by_cases e:v=w
  · subst e
    have a:=idx_at hn hv
    have b:=idx_at hn hw
    rw [if_pos rfl, ← a, ← b]
  · rw [if_neg (fun z=>e (Sum.inr.inj z))]
    refine h.at_ i v ?_ hv
    rcases Nat.lt_or_ge i n with z | z
    · exact z
    · have:i=n:=by omega
      subst this
      rw [hw] at hv
      exact absurd (Option.some.inj hv).symm e
theorem bits_of {ts:List Tm} (hn:ts.Nodup) {kvs:DK} {n:Nat} {w:Str} (h:BitsTo (heldF ts) (heldF ts).length kvs) (hw:(heldF ts)[n]? = some w):valV kvs (Sum.inr w)=some (nV (bitW (heldF ts) w)):=by
  rw [bit_at hn hw]
  exact h.at_ n w (List.getElem?_eq_some_iff.mp hw).1 hw
theorem bits_none {ts:List Tm} {kvs:DK} {z:Str} (h:BitsTo (heldF ts) (heldF ts).length kvs) (hz:z ∉ heldF ts):valV kvs (Sum.inr z)=none:=h.only z fun i _ e=>hz (List.mem_of_getElem? e)
structure StandTo (hs:List Str) (ts:List Tm) (ls:List Nat) (n:Nat) (kvs:DK):Prop where
  at_:∀ l,(valV kvs (lk l)).getD (.int 0)=nV (stand hs ts ls l n)
  len:kvs.length≤n
theorem stand_nil (hs:List Str) (ts:List Tm) (ls:List Nat):StandTo hs ts ls 0 []:=⟨fun l=>rfl,Nat.le_refl _⟩
theorem stand_put {hs:List Str} {ts:List Tm} {ls:List Nat} {n:Nat} {kvs:DK} {w:Str} (h:StandTo hs ts ls n kvs) (hw:ts[n]? = some (.name w)) :
    StandTo hs ts ls (n+1) (putK kvs (lk (ls.getD n 0)) (nV (stand hs ts ls (ls.getD n 0) n ||| bitW hs w))):=by
  refine ⟨fun l => ?_,Nat.le_trans (length_putK kvs _ _) (Nat.succ_le_succ h.len)⟩
  rw [valV_put,stand_name hw]
  by_cases e:ls.getD n 0=l
  · rw [if_pos e,if_pos (by rw [e]),e];rfl
  · rw [if_neg e,if_neg (fun z=>e (lk_inj z).symm)]
    exact h.at_ l
theorem stand_skip {hs:List Str} {ts:List Tm} {ls:List Nat} {n:Nat} {kvs:DK} {t:Tm} (h:StandTo hs ts ls n kvs) (hw:ts[n]? = some t) (ht:nameT t=none):StandTo hs ts ls (n+1) kvs :=
  ⟨fun l=>by rw [stand_else hw ht];exact h.at_ l,Nat.le_succ_of_le h.len⟩
end Sw
namespace L2
open PySem PySem.Spec PyProof.Rows
section
variable {X:Cx}
end
end L2
namespace Sw
open PySem L2
theorem countP_lt {α : Type} {p q : α → Bool}:∀ {l:List α},(∀ a∈l,p a=true→q a=true)→(∃ a∈l,q a=true∧p a=false)→l.countP p < l.countP q
  | [],_,h=>by obtain ⟨a,h,_⟩:=h;cases h
  | x :: l,h,⟨a,ha,hq,hp⟩=>by
    have le:l.countP p≤l.countP q:=List.countP_mono_left fun b hb=>h b (List.mem_cons_of_mem _ hb)
    rw [List.countP_cons,List.countP_cons]
    rcases List.mem_cons.mp ha with rfl | ha
    · rw [hq,hp,if_pos rfl,if_neg (by decide)];omega
    · have ih:=countP_lt (l:=l) (fun b hb=>h b (List.mem_cons_of_mem _ hb)) ⟨a,ha,hq,hp⟩
      have hx:=h x (List.mem_cons_self ..)
      cases e:p x with
      | true=>rw [hx e,if_pos rfl];omega
      | false=>rw [if_neg (by decide)];split <;> omega
noncomputable def pc (x:Nat):Nat:=(List.range 24).countP fun i=>x.testBit i
theorem pc_le (x:Nat):pc x≤24:=by
  have:=List.countP_le_length (p:=fun i=>x.testBit i) (l:=List.range 24)
  rw [List.length_range] at this
  exact this
theorem pc_and_lt {x w:Nat} (hx:x < 2 ^ 24) (h:(x &&& w)≠x):pc (x &&& w) < pc x:=by
  refine countP_lt (fun i _ e => ?_) ?_
  · rw [Nat.testBit_and,Bool.and_eq_true] at e;exact e.1
  · refine Classical.byContradiction fun hn=>h (Nat.eq_of_testBit_eq fun i => ?_)
    rw [Nat.testBit_and]
    cases ex:x.testBit i with
    | false=>rfl
    | true =>
      cases ew:w.testBit i with
      | true=>rfl
      | false =>
        refine absurd ⟨i,List.mem_range.mpr ?_,ex,by rw [Nat.testBit_and,ex,ew];rfl⟩ hn
        rcases Nat.lt_or_ge i 24 with z | z
        · exact z
        · have:x < 2 ^ i:=Nat.lt_of_lt_of_le hx (Nat.pow_le_pow_right (by decide) z)
          rw [Nat.testBit_lt_two_pow this] at ex
          cases ex
noncomputable def setF (ls:List Nat) (k f:Nat) (ks:List Nat):List Nat:=(List.range ks.length).map fun j=>if ls.getD j 0=ls.getD k 0 then f else ks.getD j 0
theorem setF_len (ls:List Nat) (k f:Nat) (ks:List Nat):(setF ls k f ks).length=ks.length:=by unfold setF;rw [List.length_map,List.length_range]
theorem setF_at {ls:List Nat} {k f:Nat} {ks:List Nat} {j:Nat} (h:j < ks.length):(setF ls k f ks).getD j 0=if ls.getD j 0=ls.getD k 0 then f else ks.getD j 0:=by
  unfold setF
  rw [List.getD_eq_getElem?_getD,List.getElem?_map,List.getElem?_range h];rfl
noncomputable def Even (ls ks:List Nat):Prop := ∀ i j,i < ks.length→j < ks.length→ls.getD i 0=ls.getD j 0→ks.getD i 0=ks.getD j 0
theorem even_set {ls ks:List Nat} {k f:Nat} (h:Even ls ks):Even ls (setF ls k f ks):=fun i j hi hj e=>by
  rw [setF_len] at hi hj
  rw [setF_at hi,setF_at hj,e]
  split
  · rfl
  · exact h i j hi hj e
noncomputable def mu (ks:List Nat):Int:=((List.range ks.length).map fun j=>((pc (ks.getD j 0):Nat):Int)).sum
theorem mu_set {ls ks:List Nat} {k f:Nat} (he:Even ls ks) (hk:k < ks.length) (hf:pc f < pc (ks.getD k 0)):mu (setF ls k f ks) < mu ks:=by
  unfold mu
  rw [setF_len]
  refine sum_lt (fun j hj => ?_) ⟨k,List.mem_range.mpr hk,?_⟩
  · have hj:=List.mem_range.mp hj
    rw [setF_at hj]
    by_cases e:ls.getD j 0=ls.getD k 0
    · rw [if_pos e,he j k hj hk e];omega
    · rw [if_neg e];exact Int.le_refl _
  · rw [setF_at hk,if_pos rfl];omega
theorem mu_le (ks:List Nat):mu ks≤24 * (ks.length:Int):=by
  unfold mu
  have:=sum_le (l:=List.range ks.length) (f:=fun j=>((pc (ks.getD j 0):Nat):Int)) (g:=fun _=>24) (fun j _=>by have:=pc_le (ks.getD j 0);omega)
  refine Int.le_trans this ?_
  have e:∀ n:Nat,((List.range n).map fun _=>(24:Int)).sum=24 * (n:Int):=fun n=>by
    induction n with
    | zero=>rfl
    | succ n ih=>rw [List.range_succ,List.map_append,List.sum_append,ih];show 24 * (n:Int)+(24+0)=_;omega
  rw [e]
  exact Int.le_refl _
theorem mu_nn (ks:List Nat):0≤mu ks:=sum_nn fun j _=>by omega
end Sw
namespace Sw
open PySem L2
noncomputable def classF (ls:List Nat) (k:Nat):List Nat:=(List.range ls.length).filter fun i=>decide (ls.getD i 0=ls.getD k 0)
noncomputable def numT:Tm→Option Int
  | .num n=>some n
  | _=>none
noncomputable def numAtF (ts:List Tm) (j:Nat):Option Int:=(ts[j]?).bind numT
noncomputable def numsF (ts:List Tm) (ls:List Nat) (k:Nat):List Int:=(classF ls k).filterMap (numAtF ts)
theorem numT_iff {t:Tm} {n:Int}:numT t=some n↔t = .num n:=by
  cases t with
  | num m=>exact ⟨fun h=>by rw [Option.some.inj h],fun h=>by cases h;rfl⟩
  | name x=>exact ⟨fun h=>(by cases h),fun h=>(by cases h)⟩
  | of x as=>exact ⟨fun h=>(by cases h),fun h=>(by cases h)⟩
theorem numAt_iff {ts:List Tm} {j:Nat} {n:Int}:numAtF ts j=some n↔ts[j]? = some (.num n):=by
  unfold numAtF
  cases e:ts[j]? with
  | none=>exact ⟨fun h=>(by cases h),fun h=>(by cases h)⟩
  | some t =>
    show numT t=some n↔_
    rw [numT_iff]
    exact ⟨fun h=>by rw [h],fun h=>Option.some.inj h⟩
theorem mem_nums {ts:List Tm} {ls:List Nat} {k:Nat} {n:Int}:n∈numsF ts ls k↔∃ j,j < ls.length∧ls.getD j 0=ls.getD k 0∧ts[j]? = some (.num n):=by
  unfold numsF classF
  rw [List.mem_filterMap]
  constructor
  · rintro ⟨j,hj,e⟩
    obtain ⟨h1,h2⟩:=List.mem_filter.mp hj
    exact ⟨j,List.mem_range.mp h1,of_decide_eq_true h2,numAt_iff.mp e⟩
  · rintro ⟨j,h1,h2,h3⟩
    exact ⟨j,List.mem_filter.mpr ⟨List.mem_range.mpr h1,decide_eq_true h2⟩,numAt_iff.mpr h3⟩
theorem nums_nodup {ts:List Tm} {ls:List Nat} {k:Nat} (hn:ts.Nodup):(numsF ts ls k).Nodup:=by
  unfold numsF List.Nodup
  rw [List.pairwise_filterMap]
  have h1:(classF ls k).Pairwise (fun a b=>a≠b):=List.Pairwise.filter _ (List.nodup_range)
  refine h1.imp fun {a b} hab x hx y hy e => ?_
  subst e
  have e1:=numAt_iff.mp hx
  have e2:=numAt_iff.mp hy
  obtain ⟨l1,g1⟩:=List.getElem?_eq_some_iff.mp e1
  obtain ⟨l2,g2⟩:=List.getElem?_eq_some_iff.mp e2
  have key:=List.pairwise_iff_getElem.mp hn
  rcases Nat.lt_trichotomy a b with h | h | h
  · exact key a b l1 l2 h (g1.trans g2.symm)
  · exact hab h
  · exact key b a l2 l1 h (g2.trans g1.symm)
theorem nums_len (ts:List Tm) (ls:List Nat) (k:Nat):(numsF ts ls k).length≤ls.length:=by
  refine Nat.le_trans (List.length_filterMap_le _ _) (Nat.le_trans (List.length_filter_le _ _) ?_)
  rw [List.length_range];exact Nat.le_refl _
noncomputable def Qual (ts:List Tm) (ls:List Nat) (a b:Nat) (x y:Int):Prop:=ts[a]? = some (.num x)∧ts[b]? = some (.num y)∧ls.getD a 0=ls.getD b 0∧x < y
noncomputable def LeastOf (ts:List Tm) (ls:List Nat) (S:Nat→Nat→Prop):Option (Int × Int)→Prop
  | none=>∀ a b x y,S a b→¬ Qual ts ls a b x y
  | some p=>(∃ a b,Qual ts ls a b p.1 p.2)∧∀ a b x y,S a b→Qual ts ls a b x y→HT.lexLt [x,y] [p.1,p.2]=false
theorem lex2 {x y u v:Int} (h1:HT.lexLt [x,y] [u,v]=false) (h2:HT.lexLt [u,v] [x,y]=false):x=u∧y=v:=by
  rw [HT.lexLt_cons] at h1 h2
  by_cases e:x=u
  · rw [if_pos e,HT.lexLt_cons] at h1
    rw [if_pos e.symm,HT.lexLt_cons] at h2
    refine ⟨e,?_⟩
    by_cases e2:y=v
    · exact e2
    · rw [if_neg e2] at h1
      rw [if_neg (Ne.symm e2)] at h2
      have:=of_decide_eq_false h1
      have:=of_decide_eq_false h2
      omega
  · rw [if_neg e] at h1
    rw [if_neg (Ne.symm e)] at h2
    have:=of_decide_eq_false h1
    have:=of_decide_eq_false h2
    omega
theorem least_one {ts:List Tm} {ls:List Nat} {p q:Option (Int × Int)} (hp:LeastOf ts ls (fun a b=>a < ts.length∧b < ts.length) p) (hq:LeastOf ts ls (fun a b=>a < ts.length∧b < ts.length) q):p=q:=by
  have inn:∀ {a b:Nat} {x y:Int},Qual ts ls a b x y→a < ts.length∧b < ts.length:=fun h=>⟨(List.getElem?_eq_some_iff.mp h.1).1,(List.getElem?_eq_some_iff.mp h.2.1).1⟩
  cases p with
  | none =>
    cases q with
    | none=>rfl
    | some q=>obtain ⟨⟨a,b,h⟩,_⟩:=hq;exact absurd h (hp a b _ _ (inn h))
  | some p =>
    cases q with
    | none=>obtain ⟨⟨a,b,h⟩,_⟩:=hp;exact absurd h (hq a b _ _ (inn h))
    | some q =>
      obtain ⟨⟨a,b,h⟩,h'⟩:=hp
      obtain ⟨⟨c,d,g⟩,g'⟩:=hq
      obtain ⟨e1,e2⟩:=lex2 (h' c d _ _ (inn g) g) (g' a b _ _ (inn h) h)
      rw [show p=(p.1,p.2) from rfl,show q=(q.1,q.2) from rfl,e1,e2]
theorem sorted_pair {ts:List Tm} {ls:List Nat} {k:Nat} {s:List Int} (hn:ts.Nodup) (hp:s.Perm (numsF ts ls k)) (hs:s.Pairwise (· ≤ ·)) (hll:ls.length=ts.length) :
    (s.length≤1→∀ a b x y,ls.getD a 0=ls.getD k 0→¬ Qual ts ls a b x y) ∧
    ∀ x y r,s=x :: y :: r→(∃ a b,Qual ts ls a b x y)∧∀ a b u v,ls.getD a 0=ls.getD k 0→Qual ts ls a b u v→HT.lexLt [u,v] [x,y]=false:=by
  have mem:∀ {a b:Nat} {x y:Int},ls.getD a 0=ls.getD k 0→Qual ts ls a b x y→x∈s∧y∈s:=fun {a b x y} ha h=>by
    have la:=(List.getElem?_eq_some_iff.mp h.1).1
    have lb:=(List.getElem?_eq_some_iff.mp h.2.1).1
    exact ⟨hp.mem_iff.mpr (mem_nums.mpr ⟨a,by omega,ha,h.1⟩),hp.mem_iff.mpr (mem_nums.mpr ⟨b,by omega,by rw [← h.2.2.1];exact ha,h.2.1⟩)⟩
  have nd:s.Nodup:=hp.nodup_iff.mpr (nums_nodup hn)
  refine ⟨fun hl a b x y ha h => ?_,fun x y r e => ?_⟩
  · obtain ⟨h1,h2⟩:=mem ha h
    have hlt:=h.2.2.2
    match s,hl with
    | [],_=>cases h1
    | [z],_ =>
      have e1:=List.mem_singleton.mp h1
      have e2:=List.mem_singleton.mp h2
      omega
  · subst e
    rw [List.pairwise_cons,List.pairwise_cons] at hs
    unfold List.Nodup at nd
    rw [List.pairwise_cons] at nd
    have hxy:x < y:=by
      have h1:=hs.1 y List.mem_cons_self
      have h2:=nd.1 y List.mem_cons_self
      omega
    obtain ⟨a,_,ha,hax⟩:=mem_nums.mp (hp.mem_iff.mp (List.mem_cons_self (a:=x) (l:=y :: r)))
    obtain ⟨b,_,hb,hby⟩:=mem_nums.mp (hp.mem_iff.mp (List.mem_cons_of_mem x (List.mem_cons_self (a:=y) (l:=r))))
    refine ⟨⟨a,b,hax,hby,by rw [ha,hb],hxy⟩,fun a b u v hu h => ?_⟩
    obtain ⟨h1,h2⟩:=mem hu h
    have huv:=h.2.2.2
    have lx:∀ z,z∈x :: y :: r→x≤z:=fun z hz=>by
      rcases List.mem_cons.mp hz with e | hz
      · omega
      · exact hs.1 z hz
    have ly:∀ z,z∈x :: y :: r→z≠x→y≤z:=fun z hz hne=>by
      rcases List.mem_cons.mp hz with e | hz
      · exact absurd e hne
      · rcases List.mem_cons.mp hz with e | hz
        · omega
        · exact hs.2.1 z hz
    have q1:=lx u h1
    rw [HT.lexLt_cons]
    by_cases e:u=x
    · rw [if_pos e,HT.lexLt_cons]
      have q2:=ly v h2 (by omega)
      by_cases e2:v=y
      · rw [if_pos e2];rfl
      · rw [if_neg e2];exact decide_eq_false (by omega)
    · rw [if_neg e];exact decide_eq_false (by omega)
end Sw
namespace Sw
open PySem L2
noncomputable def NSub (a b:Nat):Prop := ∀ i,a.testBit i=true→b.testBit i=true
theorem nsub_iff {a b:Nat}:NSub a b↔a &&& b=a:=by
  constructor
  · intro h
    refine Nat.eq_of_testBit_eq fun i => ?_
    rw [Nat.testBit_and]
    cases e:a.testBit i with
    | false=>rfl
    | true=>rw [h i e];rfl
  · intro h i e
    rw [← h,Nat.testBit_and,Bool.and_eq_true] at e
    exact e.2
theorem NSub.refl (a:Nat):NSub a a:=fun _ h=>h
theorem NSub.trans {a b c:Nat} (h:NSub a b) (h':NSub b c):NSub a c:=fun i e=>h' i (h i e)
theorem nsub_and {a b c:Nat} (h:NSub a b) (h':NSub a c):NSub a (b &&& c):=fun i e=>by rw [Nat.testBit_and,h i e,h' i e];rfl
theorem nsub_left (a b:Nat):NSub (a &&& b) a:=fun i e=>by rw [Nat.testBit_and,Bool.and_eq_true] at e;exact e.1
theorem nsub_zero (a:Nat):NSub 0 a:=fun i e=>by rw [Nat.zero_testBit] at e;cases e
theorem nsub_le {a b:Nat} (h:NSub a b):a≤b:=by rw [← nsub_iff.mp h];exact Nat.and_le_right
theorem nsub_anti {a b:Nat} (h:NSub a b) (h':NSub b a):a=b:=Nat.le_antisymm (nsub_le h) (nsub_le h')
noncomputable def setN (ms:List Nat) (f:Nat) (ks:List Nat):List Nat:=(List.range ks.length).map fun j=>if j∈ms then f else ks.getD j 0
theorem setN_len (ms:List Nat) (f:Nat) (ks:List Nat):(setN ms f ks).length=ks.length:=by unfold setN;rw [List.length_map,List.length_range]
theorem setN_nil (f:Nat) (ks:List Nat):setN [] f ks=ks:=by
  refine List.ext_getElem? fun j => ?_
  unfold setN
  by_cases h:j < ks.length
  · rw [List.getElem?_map,List.getElem?_range h,List.getElem?_eq_getElem h]
    show some (if j∈([]:List Nat) then f else ks.getD j 0)=_
    rw [if_neg (by simp),List.getD_eq_getElem?_getD,List.getElem?_eq_getElem h]
    rfl
  · rw [List.getElem?_eq_none (by rw [List.length_map,List.length_range];omega),List.getElem?_eq_none (by omega)]
theorem setN_set {ms:List Nat} {f:Nat} {ks:List Nat} {m:Nat} (hm:m < ks.length):(setN ms f ks).set m f=setN (ms ++ [m]) f ks:=by
  refine List.ext_getElem? fun j => ?_
  rw [List.getElem?_set]
  by_cases h:j < ks.length
  · have e2:(setN (ms ++ [m]) f ks)[j]? = some (if j∈ms ++ [m] then f else ks.getD j 0):=by unfold setN;rw [List.getElem?_map,List.getElem?_range h];rfl
    have e1:(setN ms f ks)[j]? = some (if j∈ms then f else ks.getD j 0):=by unfold setN;rw [List.getElem?_map,List.getElem?_range h];rfl
    rw [e2]
    by_cases e:m=j
    · subst e
      rw [if_pos rfl,if_pos (by rw [setN_len];exact h),if_pos (List.mem_append_right _ (List.mem_singleton.mpr rfl))]
    · rw [if_neg e,e1]
      congr 1
      by_cases hj:j∈ms
      · rw [if_pos hj,if_pos (List.mem_append_left _ hj)]
      · rw [if_neg hj,if_neg (fun z=>by rcases List.mem_append.mp z with z | z;exact hj z;exact e (List.mem_singleton.mp z).symm)]
  · have n1:(setN (ms ++ [m]) f ks)[j]? = none:=List.getElem?_eq_none (by rw [setN_len];omega)
    have n2:(setN ms f ks)[j]? = none:=List.getElem?_eq_none (by rw [setN_len];omega)
    rw [n1,if_neg (by omega),n2]
theorem mem_classF {ls:List Nat} {k j:Nat}:j∈classF ls k↔j < ls.length∧ls.getD j 0=ls.getD k 0:=by
  unfold classF
  rw [List.mem_filter,List.mem_range,decide_eq_true_iff]
theorem setN_class {ls ks:List Nat} {k f:Nat} (hl:ls.length=ks.length):setN (classF ls k) f ks=setF ls k f ks:=by
  unfold setN setF
  refine List.map_congr_left fun j hj => ?_
  have hj:=List.mem_range.mp hj
  by_cases e:ls.getD j 0=ls.getD k 0
  · rw [if_pos e,if_pos (mem_classF.mpr ⟨by omega,e⟩)]
  · rw [if_neg e,if_neg fun z=>e (mem_classF.mp z).2]
structure PostG (n tp:Nat) (W:List Nat→Nat→Nat) (ls ks:List Nat):Prop where
  len:ks.length=n
  low:∀ i,NSub (ks.getD i 0) tp
  even:Even ls ks
  post:∀ k,k < n→NSub (ks.getD k 0) (W ks k)
structure LInvG (n tp:Nat) (W:List Nat→Nat→Nat) (ls ks:List Nat):Prop where
  len:ks.length=n
  low:∀ i,NSub (ks.getD i 0) tp
  even:Even ls ks
  top:∀ ks',PostG n tp W ls ks'→∀ i,i < n→NSub (ks'.getD i 0) (ks.getD i 0)
structure LearnG (n tp:Nat) (W:List Nat→Nat→Nat) (ls ks:List Nat):Prop where
  fix:PostG n tp W ls ks
  top:∀ ks',PostG n tp W ls ks'→∀ i,i < n→NSub (ks'.getD i 0) (ks.getD i 0)
noncomputable def MonoG (n tp:Nat) (W:List Nat→Nat→Nat):Prop := ∀ ks ks':List Nat,ks.length=n→ks'.length=n→(∀ i,NSub (ks.getD i 0) tp)→(∀ i,NSub (ks'.getD i 0) tp)→(∀ i,i < n→NSub (ks'.getD i 0) (ks.getD i 0))→∀ k,k < n→NSub (W ks' k) (W ks k)
theorem linvG_step {n tp:Nat} {W:List Nat→Nat→Nat} {ls ks:List Nat} {k:Nat} (hl:ls.length=n) (htp:tp < 2 ^ 24) (hm:MonoG n tp W) (h:LInvG n tp W ls ks) (hk:k < n) (hne:(ks.getD k 0 &&& W ks k)≠ks.getD k 0) :
    LInvG n tp W ls (setN (classF ls k) (ks.getD k 0 &&& W ks k) ks)∧mu (setN (classF ls k) (ks.getD k 0 &&& W ks k) ks)+1≤mu ks:=by
  have hkk:k < ks.length:=by rw [h.len];exact hk
  rw [setN_class (by rw [hl,h.len])]
  have lt:=mu_set (f:=ks.getD k 0 &&& W ks k) h.even hkk (pc_and_lt (Nat.lt_of_le_of_lt (nsub_le (h.low k)) htp) hne)
  refine ⟨⟨by rw [setF_len];exact h.len,fun j => ?_,even_set h.even,fun ks' po i hi => ?_⟩,by omega⟩
  · by_cases hj:j < ks.length
    · rw [setF_at hj];split
      · exact (nsub_left _ _).trans (h.low k)
      · exact h.low j
    · rw [List.getD_eq_getElem?_getD,List.getElem?_eq_none (by rw [setF_len];omega)];exact nsub_zero _
  · rw [setF_at (by rw [h.len];exact hi)]
    split
    · rename_i e
      rw [po.even i k (by rw [po.len];exact hi) (by rw [po.len];exact hk) e]
      exact nsub_and (h.top ks' po k hk) ((po.post k hk).trans (hm ks ks' h.len po.len h.low po.low (fun i hi=>h.top ks' po i hi) k hk))
    · exact h.top ks' po i hi
theorem rep_at {n tp i:Nat}:(List.replicate n tp).getD i 0=if i < n then tp else 0:=by
  rw [List.getD_eq_getElem?_getD,List.getElem?_replicate]
  split <;> rfl
theorem linvG_start {n tp:Nat} {W:List Nat→Nat→Nat} {ls:List Nat}:LInvG n tp W ls (List.replicate n tp):=by
  refine ⟨List.length_replicate ..,fun j => ?_,fun i j hi hj _ => ?_,fun ks' po i hi => ?_⟩
  · rw [rep_at];split
    · exact NSub.refl _
    · exact nsub_zero _
  · rw [List.length_replicate] at hi hj
    rw [rep_at,rep_at,if_pos hi,if_pos hj]
  · rw [rep_at,if_pos hi];exact po.low i
theorem nsub_or {a b c d:Nat} (h:NSub a b) (h':NSub c d):NSub (a ||| c) (b ||| d):=fun i e=>by
  rw [Nat.testBit_or,Bool.or_eq_true] at e ⊢
  exact e.elim (fun z => .inl (h i z)) (fun z => .inr (h' i z))
theorem clr_mono {x y b c:Nat} (h:NSub x y) (h':NSub c b):NSub (clrN x b) (clrN y c):=fun i e=>by
  unfold clrN at e ⊢
  rw [clr_bit,Bool.and_eq_true] at e ⊢
  refine ⟨h i e.1,?_⟩
  cases z:c.testBit i with
  | false=>rfl
  | true=>rw [h' i z] at e;exact absurd e.2 (by decide)
theorem or_mono {ks ks':List Nat}:∀ {as:List Nat} {a b:Nat},NSub a b→(∀ x∈as,NSub (ks'.getD x 0) (ks.getD x 0))→NSub (as.foldl (fun acc a=>acc ||| ks'.getD a 0) a) (as.foldl (fun acc a=>acc ||| ks.getD a 0) b)
  | [],_,_,h,_=>h
  | x :: as,_,_,h,hs=>or_mono (as:=as) (nsub_or h (hs x List.mem_cons_self)) fun y hy=>hs y (List.mem_cons_of_mem _ hy)
theorem mono_names {ts:List Tm} {ls ks ks':List Nat} {n:Nat} (h:∀ i,i < n→NSub (ks'.getD i 0) (ks.getD i 0)) {t:Tm} (ht:∀ a∈armsF t,a < n):NSub (worthN ts ls ks' t) (worthN ts ls ks t):=by
  cases t with
  | num _=>exact NSub.refl _
  | name _=>exact NSub.refl _
  | of x as =>
    rw [worth_of,worth_of]
    split
    · rename_i c
      refine clr_mono (h _ (ht _ ?_)) (NSub.refl _)
      rw [List.getD_eq_getElem?_getD,List.getElem?_eq_getElem (show 1 < as.length by omega)]
      exact List.getElem_mem _
    · exact or_mono (NSub.refl _) fun y hy=>h y (ht y hy)
end Sw
namespace L2
open PySem PySem.Spec PyProof.Rows
section
variable {X:Cx}
theorem mt_indexI:MtR X "list.index" (fun x xs H Q=>∃ (l:Addr) (ws:List Int) (w:Int) (j:Nat),x = .ref l∧xs = [.int w]∧SqL X.K H l (ws.map V.int)∧ws[j]? = some w∧(∀ i,i < j→ws[i]? ≠ some w)∧Q (.int j) H):=by
  intro pins s σ H x xs v us Q I rx rv h
  obtain ⟨l,ws,w,j,rfl,rfl,hS,hj,hno,q⟩:=h
  cases rx
  obtain ⟨u,rfl,ru⟩:=rv.one
  obtain ⟨its,r,pl,hz⟩:=I.list hS
  obtain ⟨o,n,e,hc,hd,hs⟩:=pl
  have fs:(ws.map V.int).all flatV=true:=by
    rw [List.all_eq_true]
    intro y hy
    obtain ⟨z,_,rfl⟩:=List.mem_map.mp hy
    rfl
  have hl:=r.length
  rw [List.length_map] at hl hz
  rw [sizeLine_eq] at hz
  have hjl:j < ws.length:=(List.getElem?_eq_some_iff.mp hj).1
  obtain ⟨oc,od,oda,osl⟩:=o
  cases hc;cases hd;cases hs
  have at_:∀ (i:Nat) (hi:i < its.length),eqU (.int w) its[i]=decide (ws[i]? = some w):=by
    intro i hi
    have hiw:i < ws.length:=by omega
    have hr:RelV (V.int ws[i]) its[i]:=vals_at r (by rw [List.getElem?_map,List.getElem?_eq_getElem hiw];rfl) (List.getElem?_eq_getElem hi)
    rw [eqU_of hr rfl,List.getElem?_eq_getElem hiw]
    show (ws[i] == w)=_
    rw [Bool.eq_iff_iff,beq_iff_eq,decide_eq_true_iff]
    exact ⟨fun z=>by rw [z],fun z=>Option.some.inj z⟩
  refine call_meets F.slot_list_index ⟨_,e,rfl⟩ F.entry_list_index (F.args_list_index_2 _ _) (SeqAt.list_indexAt l its.toArray n none osl u (eqU (.int w)) j (by simpa using (by omega:j < its.length)) (by omega) ?_ ?_) ⟨e,fun y hy=>mem_eqAt ru rfl r fs y (by simpa using hy),?_⟩
  · rw [List.getElem_toArray,at_ j (by omega)];exact decide_eq_true hj
  · intro i hi hlt
    rw [List.getElem_toArray,at_ i (by omega)];exact decide_eq_false (hno i hlt)
  · exact ⟨.int j,H,I.tok _,⟨_,rfl⟩,q⟩
end
end L2
namespace L2
open PySem PySem.Spec PyProof.Rows
noncomputable def Itv (a:Addr) (n:Nat):It :=
  ⟨fun i H=>i < n∧∃ xs,H a=some (.lst xs)∧xs.length=n,fun i H x H'=>H'=H∧∀ xs,H a=some (.lst xs)→xs[n - 1 - i]? = some x,fun i _=>i=n⟩
theorem turn_rev {P:Program} {w:World} {K:PySem.W.Frag} {tg:Expr} (a it:Addr) (n:Nat):Turn P w K tg (Itv a n) [it] it (fun i h=>h.IsRevIter it a ((n:Int) - 1 - (i:Int))) where
  mem:=by simp
  obj:=fun i h st b hb=>by
    have e:b=it:=by simpa using hb
    subst e
    obtain ⟨o,e,c,d⟩:=st
    exact ⟨o,e,fun v z=>by rw [d] at z;cases z⟩
  keep:=fun i h h' st k=>st.at fun o e=>k it (by simp) o e
  item:=by
    intro X hP hw hK hc i pins s σ H E I hf st hg
    subst hP hw hK
    obtain ⟨hi,xs,hq,hn⟩:=hg
    obtain ⟨hz,its,m,rv,e⟩:=I.hok a _ hq
    have hl:=rv.length
    have hx:xs[n - 1 - i]? = some (xs[n - 1 - i]'(by omega)):=List.getElem?_eq_getElem (by omega)
    obtain ⟨u,hu,ru⟩:=rv.get hx
    obtain ⟨f0,f1,f2,f3,f4,f5⟩:=hf it (by simp)
    have e1:(n:Int) - 1 - (i:Int)=((n - 1 - i:Nat):Int):=by omega
    rw [e1] at st
    refine wpAny_pyNext_rev_item st ⟨_,e,rfl,_,rfl⟩ (x:=u) (by simpa using hu) fun h' st' sb => ?_
    have e2:((n - 1 - i:Nat):Int) - 1=(n:Int) - 1 - ((i+1:Nat):Int):=by omega
    rw [e2] at st'
    have I1:Inv X pins σ H { s with heap:=h' }:=I.turned (t':=s.toks) (fun b o hb e=>(sb.2 b hb).trans e) f0 f1 f3 f4 f5
    obtain ⟨o,e,c,d⟩:=id st'
    exact ⟨u,rfl,go_of (s := { s with heap:=h' }) e c d (by decide) ⟨_,H,I1,ru,⟨rfl,fun ys hy=>by rw [hq] at hy;cases hy;exact hx⟩,st',fun b hb=>(hf b hb).1⟩⟩
  done:=by
    intro X hP hw hK hc i pins s σ H E I hf st hg
    subst hP hw hK
    have hg':i=n:=hg
    subst hg'
    obtain ⟨f0,f1,f2,f3,f4,f5⟩:=hf it (by simp)
    have e1:(i:Int) - 1 - (i:Int) = -1:=by omega
    rw [e1] at st
    exact wpAny_pyNext_rev_end (I.ok.hd hc) st fun h' eb=>⟨rfl,I.turned (t':=s.toks) (fun b o hb e=>eb b o hb e) f0 f1 f3 f4 f5⟩
  self:=fun A i s Q E st q=>wpAny_pyIter_revIter st q
inductive J_iRev (R:It→Hp→Prop) (x:V) (H:Hp):Prop
  | mk:∀ (a:Addr) (xs:List V),(x = .ref a)→(H a=some (.lst xs))→(R (Itv a xs.length) H)→J_iRev R x H
noncomputable def iRev (tl:TE):TI:=fun σ H R=>tl σ H fun x H1=>J_iRev R x H1
theorem pi_rev {X:Cx} {tg e:Expr} {te:TE} {p pos:Pos} (hg:Gl X "reversed") (hm:X.mg "reversed" = none) (he:PE X e te) (h2:starEach [e] X.env = [(false,eval e X.env)]:=by rfl):PI X tg (.Call (.Name "reversed" p) [e] [] pos) (iRev te):=by
  intro pins s σ H R I h
  refine wpAny_Call_Name_kw (ld_blt I hg hm boot_reversed_ ?_ (by decide) (by decide))
  refine PyProof.Rows.callWith_type1 ?_ h2 rfl
  rw [h2]
  refine Calls.spliced_cons (thn (he pins s σ H _ I h) fun u s1 ⟨x,H1,I1,rx,a,zs,ex,ha,q⟩=>Calls.spliced_nil ?_)
  subst ex
  cases (show u=Value.ref a from rx)
  obtain ⟨hz,us,c,r,e⟩:=(show ObjOk X.prog X.w H1 s1.heap a (.lst zs) from I1.hok a _ ha)
  have hl:s1.heap.IsList a us.toArray:=⟨_,e,rfl,_,rfl⟩
  have hsz:us.toArray.size=zs.length:=by have:=r.length;simp;omega
  refine call_reversed_list hl ?_
  have hst:(s1.heap.push (revObj a ((us.toArray.size:Int) - 1))).IsRevIter s1.heap.objs.size a ((us.toArray.size:Int) - 1):=⟨_,Heap.get?_push_size _ rfl,rfl,rfl⟩
  refine wpAny_pyIter_revIter (s := { s1 with heap:=s1.heap.push (revObj a ((us.toArray.size:Int) - 1)) }) hst ?_
  refine ⟨s1.heap.objs.size, [s1.heap.objs.size],_,_,H1,rfl,I1.kept (t':=s1.toks) fun b o e=>Heap.get?_push_of_some _ e,turn_rev a _ zs.length,?_,fun b hb => ?_,q⟩
  · have e1:((zs.length:Nat):Int) - 1 - ((0:Nat):Int)=((us.toArray.size:Nat):Int) - 1:=by rw [hsz];omega
    rw [e1]
    exact hst
  · have e:b=s1.heap.objs.size:=by simpa using hb
    subst e
    exact I1.fpOk (Nat.le_refl _) (I1.hok.fresh (Nat.le_refl _))
theorem for_rev {a:Addr} {xs:List V} {g:TG} {tb:TS} {D:Ends} {σ : St} {H:Hp} (Pv:Nat→St→Hp→Prop) (h0:Pv 0 σ H) (hl:∀ i σ H,i≤xs.length→Pv i σ H→H a=some (.lst xs))
    (hs:∀ i x σ H,i < xs.length→xs[xs.length - 1 - i]? = some x→Pv i σ H→g x σ H fun σ2 H2=>tb { D with nx:=Pv (i+1),ct:=Pv (i+1),bk:=D.nx } σ2 H2) (hd:∀ σ H,Pv xs.length σ H→D.nx σ H) :
    ∃ W:Nat→Nat→St→Hp→Prop,(∃ m,W 0 m σ H)∧∀ i m σ H,W i m σ H →
      ((Itv a xs.length).stop i H∧D.nx σ H)∨((Itv a xs.length).go i H∧∃ N:St→Hp→Prop,(∀ σ' H',N σ' H'→∃ m',m' < m∧W (i+1) m' σ' H')∧∀ x H',(Itv a xs.length).yld i H x H'→g x σ H' fun σ2 H2=>tb { D with nx:=N,ct:=N,bk:=D.nx } σ2 H2):=by
  refine ⟨fun i m σ H=>m=xs.length - i∧i≤xs.length∧Pv i σ H,⟨xs.length,by simp,Nat.zero_le _,h0⟩,?_⟩
  rintro i m σ H ⟨rfl,hi,p⟩
  have q:=hl i σ H hi p
  by_cases hlt:i < xs.length
  · refine .inr ⟨⟨hlt,xs,q,rfl⟩,Pv (i+1),fun σ' H' p'=>⟨xs.length - (i+1),by omega,rfl,hlt,p'⟩,fun x H' y => ?_⟩
    obtain ⟨e,y⟩:=y
    subst e
    exact hs i x σ _ hlt (y xs q) p
  · have e:i=xs.length:=by omega
    subst e
    exact .inl ⟨rfl,hd σ H p⟩
end L2
namespace L2
open PySem PySem.Spec PyProof.Rows
section
variable {prog:Program} {w:World} {A:Around} {R:Result→Shared→Prop} {I:Addr} {fp wr:List Addr} {n:Nat} {P:Nat→Value→Prop} {St:Nat→Heap→Prop} {kw:List (Str × Value)} {G:Heap→Prop}
end
section
variable {X:Cx} {e:Expr} {te:TE} {p pos kp cp:Pos} {j:Nat} {d:Int}
end

end L2
namespace HT
open PySem PySem.Spec PyProof.Rows
section
variable {prog:Program} {w:World} {A:Around} {E:Value→Shared→Prop} {s:Shared}
end
end HT
namespace L2
open PySem PySem.Spec PyProof.Rows
section
variable {X:Cx}
end
end L2
namespace L2
open PySem PySem.Spec PyProof.Rows
section
variable {X:Cx} {scope:Scope} {y y0:Str} {caps:List (Str × Nat)} {pins:List (Addr × Obj)} {σ : St} {H:Hp} {s:Shared} {fp:List Addr}
end
noncomputable def rlb (scope sc:Scope):Scope := { scope with names:=scope.names.map fun (n,k)=>if (k == .free && sc.kind == .function && sc.names.lookup n == some .cell) then (n,.cell) else (n,k) }
end L2
namespace L2
open PySem PySem.Spec PyProof.Rows
section
variable {X:Cx}
inductive J_rRemove (x:V) (vs:List V) (H:Hp) (Q:VK):Prop
  | mk:∀ (l:Addr) (ws:List Int) (w:Int) (j:Nat),(x = .ref l)→(vs = [.int w])→(H l=some (.lst (ws.map V.int)))→(ws[j]? = some w)→(∀ i,i < j→ws[i]? ≠ some w)→(Q .non (upd H l (.lst ((ws.map V.int).eraseIdx j))))→J_rRemove x vs H Q
noncomputable def rRemove:V→List V→Hp→VK→Prop:=fun x vs H Q=>J_rRemove x vs H Q
noncomputable def isInt (w:Int):Value→Bool
  | .int a _=>a == w
  | _=>false
theorem mt_remove:MtM X "list.remove" rRemove:=by
  intro pins s σ H x vs v us Q I rx rv h
  obtain ⟨l,ws,w,j,rfl,rfl,hH,hj,hno,q⟩:=h
  cases rx
  obtain ⟨u,rfl,ru⟩:=rv.one
  obtain ⟨t,rfl⟩:=ru
  obtain ⟨z,its,n,r,hl,e⟩:=I.lstM hH
  have hjl:j < ws.length:=(List.getElem?_eq_some_iff.mp hj).1
  have hl':ws.length=its.length:=by rw [← hl,List.length_map]
  have at_:∀ (i:Nat) (hi:i < its.length),∃ t',its[i] = .int (ws[i]'(by omega)) t':=fun i hi=>by
    have hr:RelV (V.int (ws[i]'(by omega))) its[i]:=vals_at r (by rw [List.getElem?_map,List.getElem?_eq_getElem (by omega)];rfl) (List.getElem?_eq_getElem hi)
    obtain ⟨t',e'⟩:=hr
    exact ⟨t',e'⟩
  have hit:∀ (i:Nat) (hi:i < its.length),isInt w its[i]=decide (ws[i]? = some w):=fun i hi=>by
    obtain ⟨t',e'⟩:=at_ i hi
    rw [e',List.getElem?_eq_getElem (by omega)]
    show ((ws[i]'(by omega)) == w)=_
    rw [Bool.eq_iff_iff,beq_iff_eq,decide_eq_true_iff]
    exact ⟨fun z=>by rw [z],fun z=>Option.some.inj z⟩
  have he:∀ y,y∈its.toArray→MeetsSeq.EqGives y (.int w t) (isInt w y):=fun y hy=>by
    obtain ⟨i,hi,ey⟩:=List.mem_iff_getElem.mp (show y∈its by simpa using hy)
    obtain ⟨t',e'⟩:=at_ i hi
    rw [← ey,e']
    exact MeetsSeq.EqGives.int _ _ _ _
  refine call_meets F.slot_list_remove ⟨_,e,rfl⟩ F.entry_list_remove (F.args_list_remove_2 _ _) (MeetsSeq.list_remove l its.toArray n _ (isInt w) he j (by rw [List.size_toArray];omega) ?_ ?_ (by rw [List.size_toArray, ← hl];exact z)) ⟨e,?_⟩
  · rw [List.getElem_toArray,hit j (by omega)];exact decide_eq_true hj
  · intro m hm hlt
    rw [List.getElem_toArray,hit m (by rw [List.size_toArray] at hm;exact hm)];exact decide_eq_false (hno m hlt)
  refine ⟨.non,_,I.lset (its':=its.eraseIdx j) hH e ?_ (r.eraseIdx j) ?_,rfl,q⟩
  · show its.toArray.eraseIdxIfInBounds j=(its.eraseIdx j).toArray
    rw [List.eraseIdxIfInBounds_toArray]
  · have:=len_erase (ws.map V.int) j
    omega
end
inductive J_eqO (x y:V) (H:Hp) (Q:VK):Prop
  | non:(x = .non)→(y = .non)→(Q (.bl true) H)→J_eqO x y H Q
  | tup:(J_rEqD x y H Q)→J_eqO x y H Q
theorem op_eqO {X:Cx} (hu:X.A.units+151 < cLine):OpR X (compareOp .Eq) (fun x y H Q=>J_eqO x y H Q):=by
  intro pins s σ H x y v u Q I rx ry h
  cases h with
  | non h1 h2 q=>subst h1 h2;exact op_eq pins s σ H _ _ v u Q I rx ry ⟨rfl,by rw [decide_eq_true rfl];exact q⟩
  | tup h=>exact op_eqD hu pins s σ H x y v u Q I rx ry h
theorem comp_scopeP {X0:Cx} {scope1 scope:Scope} {N1:List Str} {fp:List Addr} {s:Shared} {H:Hp} {own:List Str} {caps:List (Str × Nat)} (sc:Scope) (h0:X0.env.scope=sc) (hk:scope.kind = .function) (c:checkComp (rlb scope1 sc) N1 scope own caps=true) :
    CompScope (cxComp X0 scope1 N1 fp s H) scope own caps:=comp_scope (rlb scope1 sc) N1 (by subst h0;rfl) rfl hk c
end L2
namespace Sw
open PySem L2
noncomputable def renT (g:Nat→Nat):Tm→Tm
  | .num n => .num n
  | .name x => .name x
  | .of x as => .of x (as.map g)
theorem ren_back {f g:Nat→Nat} {n:Nat} (h:∀ i,i < n→f (g i)=i) {t:Tm} (ht:∀ a∈armsF t,a < n):renT f (renT g t)=t:=by
  cases t with
  | num m=>rfl
  | name x=>rfl
  | of x as =>
    show TM.of x ((as.map g).map f) = .of x as
    rw [List.map_map]
    congr 1
    conv=>rhs;rw [← List.map_id as]
    exact List.map_congr_left fun a ha=>h a (ht a ha)
structure Ren (ts ts':List Tm) (f g:Nat→Nat):Prop where
  len:ts'.length=ts.length
  ff:∀ i,i < ts.length→f i < ts.length
  gg:∀ i,i < ts.length→g i < ts.length
  fg:∀ i,i < ts.length→f (g i)=i
  gf:∀ i,i < ts.length→g (f i)=i
  arms:∀ (i:Nat) t,ts[i]? = some t→∀ a∈armsF t,a < ts.length
  tm:∀ i:Nat,i < ts.length→ts'[i]? = (ts[f i]?).map (renT g)
section
variable {ts ts':List Tm} {f g:Nat→Nat}
theorem Ren.at_ (R:Ren ts ts' f g) {i:Nat} {t:Tm} (h:ts'[i]? = some t):∃ t0,ts[f i]? = some t0∧t=renT g t0∧i < ts.length:=by
  have hi:i < ts.length:=by rw [← R.len];exact (List.getElem?_eq_some_iff.mp h).1
  rw [R.tm i hi] at h
  obtain ⟨t0,h1,h2⟩:=Option.map_eq_some_iff.mp h
  exact ⟨t0,h1,h2.symm,hi⟩
theorem arms_ren {g:Nat→Nat} {t:Tm}:armsF (renT g t)=(armsF t).map g:=by cases t <;> rfl
theorem Ren.symm (R:Ren ts ts' f g):Ren ts' ts g f:=by
  refine ⟨R.len.symm,fun i hi => ?_,fun i hi => ?_,fun i hi => ?_,fun i hi => ?_,fun i t h a ha => ?_,fun i hi => ?_⟩
  · rw [R.len] at hi ⊢;exact R.gg i hi
  · rw [R.len] at hi ⊢;exact R.ff i hi
  · rw [R.len] at hi;exact R.gf i hi
  · rw [R.len] at hi;exact R.fg i hi
  · obtain ⟨t0,h1,rfl,hi⟩:=R.at_ h
    rw [arms_ren] at ha
    obtain ⟨b,hb,rfl⟩:=List.mem_map.mp ha
    rw [R.len];exact R.gg b (R.arms _ _ h1 b hb)
  · rw [R.len] at hi
    rw [R.tm _ (R.gg i hi),R.fg i hi]
    cases e:ts[i]? with
    | none=>rfl
    | some t=>exact congrArg some (ren_back R.fg (R.arms i t e)).symm
theorem Ren.eqv (R:Ren ts ts' f g) {es es':List (Nat × Nat)} (he:∀ a b,(a,b)∈es'→Eqv ts es (f a) (f b)) {i j:Nat} (h:Eqv ts' es' i j):Eqv ts es (f i) (f j):=by
  induction h with
  | refl i=>exact .refl _
  | symm _ ih=>exact .symm ih
  | trans _ _ ih1 ih2=>exact .trans ih1 ih2
  | edge h=>exact he _ _ h
  | same h1 h2 =>
    obtain ⟨t1,a1,e1,_⟩:=R.at_ h1
    obtain ⟨t2,a2,e2,_⟩:=R.at_ h2
    have:t1=t2:=by rw [← ren_back R.fg (R.arms _ _ a1), ← ren_back R.fg (R.arms _ _ a2), ← e1, ← e2]
    subst this
    exact .same a1 a2
  | cong h1 h2 hl _ ih =>
    obtain ⟨t1,a1,e1,_⟩:=R.at_ h1
    obtain ⟨t2,a2,e2,_⟩:=R.at_ h2
    cases t1 with
    | num _=>cases e1
    | name _=>cases e1
    | of x as =>
      cases t2 with
      | num _=>cases e2
      | name _=>cases e2
      | of y bs =>
        cases e1
        cases e2
        rw [List.length_map,List.length_map] at hl
        refine .cong a1 a2 hl fun k a b ha hb => ?_
        have q:=ih k (g a) (g b) (by rw [List.getElem?_map,ha];rfl) (by rw [List.getElem?_map,hb];rfl)
        rw [R.fg a (R.arms _ _ a1 a (List.mem_of_getElem? ha)),R.fg b (R.arms _ _ a2 b (List.mem_of_getElem? hb))] at q
        exact q
theorem closed_iff {es:List (Nat × Nat)} {ls:List Nat} (h:Closed ts es ls) {i j:Nat} (hi:i < ts.length) (hj:j < ts.length):ls.getD i 0=ls.getD j 0↔Eqv ts es i j:=by
  obtain ⟨x,ax⟩:∃ x,ls[i]? = some x:=⟨_,List.getElem?_eq_getElem (by rw [h.1];exact hi)⟩
  obtain ⟨y,ay⟩:∃ y,ls[j]? = some y:=⟨_,List.getElem?_eq_getElem (by rw [h.1];exact hj)⟩
  rw [List.getD_eq_getElem?_getD,List.getD_eq_getElem?_getD,ax,ay]
  constructor
  · intro e
    have e:x=y:=e
    subst e
    exact .trans (h.2.2.1 i _ ax) (.symm (h.2.2.1 j _ ay))
  · intro e
    have q:=h.2.2.2 i j hi hj e
    rw [ax,ay] at q
    rw [Option.some.inj q]
theorem Ren.near (R:Ren ts ts' f g) {es es':List (Nat × Nat)} {ls ls':List Nat} (h:Closed ts es ls) (h':Closed ts' es' ls') (he:∀ a b,(a,b)∈es'→Eqv ts es (f a) (f b)) (he':∀ a b,(a,b)∈es→Eqv ts' es' (g a) (g b)) {i j:Nat} (hi:i < ts.length) (hj:j < ts.length) :
    ls'.getD i 0=ls'.getD j 0↔ls.getD (f i) 0=ls.getD (f j) 0:=by
  rw [closed_iff h' (by rw [R.len];exact hi) (by rw [R.len];exact hj),closed_iff h (R.ff i hi) (R.ff j hj)]
  refine ⟨R.eqv he,fun e => ?_⟩
  have:=R.symm.eqv he' e
  rw [R.gf i hi,R.gf j hj] at this
  exact this
structure RenL (ts ts':List Tm) (f g:Nat→Nat) (ls ls':List Nat):Prop where
  ren:Ren ts ts' f g
  len:ls.length=ts.length
  len':ls'.length=ts.length
  near:∀ i j,i < ts.length→j < ts.length→(ls'.getD i 0=ls'.getD j 0↔ls.getD (f i) 0=ls.getD (f j) 0)
theorem RenL.symm {ls ls':List Nat} (R:RenL ts ts' f g ls ls'):RenL ts' ts g f ls' ls:=by
  refine ⟨R.ren.symm,by rw [R.ren.len];exact R.len',by rw [R.ren.len];exact R.len,fun i j hi hj => ?_⟩
  rw [R.ren.len] at hi hj
  have:=R.near (g i) (g j) (R.ren.gg i hi) (R.ren.gg j hj)
  rw [R.ren.fg i hi,R.ren.fg j hj] at this
  exact this.symm
noncomputable def trl (n:Nat) (f:Nat→Nat) (ks:List Nat):List Nat:=(List.range n).map fun i=>ks.getD (f i) 0
theorem trl_len (n:Nat) (f:Nat→Nat) (ks:List Nat):(trl n f ks).length=n:=by unfold trl;rw [List.length_map,List.length_range]
theorem trl_at {n:Nat} {f:Nat→Nat} {ks:List Nat} {i:Nat} (h:i < n):(trl n f ks).getD i 0=ks.getD (f i) 0:=by
  unfold trl
  rw [List.getD_eq_getElem?_getD,List.getElem?_map,List.getElem?_range h];rfl
theorem post_ren {tp:Nat} {W W':List Nat→Nat→Nat} {ls ls' ks:List Nat} (R:RenL ts ts' f g ls ls') (h:PostG ts.length tp W ls ks) (hw:∀ zs:List Nat,zs.length=ts.length→∀ i,i < ts.length→W' (trl ts.length f zs) i=W zs (f i)) :
    PostG ts'.length tp W' ls' (trl ts.length f ks):=by
  rw [R.ren.len]
  refine ⟨trl_len _ _ _,fun i => ?_,fun i j hi hj e => ?_,fun i hi => ?_⟩
  · by_cases hi:i < ts.length
    · rw [trl_at hi];exact h.low _
    · rw [List.getD_eq_getElem?_getD,List.getElem?_eq_none (by rw [trl_len];omega)];exact nsub_zero _
  · rw [trl_len] at hi hj
    rw [trl_at hi,trl_at hj]
    exact h.even _ _ (by rw [h.len];exact R.ren.ff i hi) (by rw [h.len];exact R.ren.ff j hj) ((R.near i j hi hj).mp e)
  · rw [trl_at hi,hw ks h.len i hi]
    exact h.post _ (R.ren.ff i hi)
theorem learn_ren {tp:Nat} {W W':List Nat→Nat→Nat} {ls ls' ks ks':List Nat} (R:RenL ts ts' f g ls ls') (a:LearnG ts.length tp W ls ks) (b:LearnG ts'.length tp W' ls' ks')
    (hw:∀ zs:List Nat,zs.length=ts.length→∀ i,i < ts.length→W' (trl ts.length f zs) i=W zs (f i)) (hw':∀ zs:List Nat,zs.length=ts'.length→∀ i,i < ts'.length→W (trl ts'.length g zs) i=W' zs (g i)) {i:Nat} (hi:i < ts.length):ks'.getD i 0=ks.getD (f i) 0:=by
  have h1:=b.top _ (post_ren R a.fix hw) i (by rw [R.ren.len];exact hi)
  rw [trl_at hi] at h1
  have h2:=a.top _ (post_ren R.symm b.fix hw') (f i) (R.ren.ff i hi)
  rw [trl_at (by rw [R.ren.len];exact R.ren.ff i hi),R.ren.gf i hi] at h2
  exact nsub_anti h2 h1
noncomputable def Has' (hs:List Str) (x:Nat) (z:Str):Prop:=z∈hs∧x.testBit (hs.idxOf z)=true
theorem idx_lt {hs:List Str} {z:Str} (h:z∈hs):hs.idxOf z < hs.length:=List.idxOf_lt_length_of_mem h
theorem idx_get {hs:List Str} {z:Str} (h:z∈hs):hs[hs.idxOf z]? = some z:=by
  rw [List.getElem?_eq_getElem (idx_lt h)];exact congrArg some (List.getElem_idxOf (idx_lt h))
theorem idx_inj {hs:List Str} {y z:Str} (hz:z∈hs) (e:hs.idxOf y=hs.idxOf z):y=z:=by
  have hy:y∈hs:=by
    have:=idx_lt hz
    rw [← e] at this
    exact List.idxOf_lt_length_iff.mp this
  have a:=idx_get hy
  rw [e,idx_get hz] at a
  exact (Option.some.inj a).symm
theorem bit_low {x n i:Nat} (h:NSub x (2 ^ n - 1)) (hi:x.testBit i=true):i < n:=by
  have:=h i hi
  rw [Nat.testBit_two_pow_sub_one] at this
  exact of_decide_eq_true this
theorem nsub_has {hs:List Str} {x y:Nat} (hn:hs.Nodup) (hx:NSub x (2 ^ hs.length - 1)) (h:∀ z,Has' hs x z→Has' hs y z):NSub x y:=fun i hi=>by
  have il:=bit_low hx hi
  have e:=List.getElem?_eq_getElem il
  have e2:=idx_at hn e
  have:=(h hs[i] ⟨List.getElem_mem il,by rw [e2];exact hi⟩).2
  rw [e2] at this
  exact this
theorem has_nsub {hs:List Str} {x y:Nat} {z:Str} (h:NSub x y) (hz:Has' hs x z):Has' hs y z:=⟨hz.1,h _ hz.2⟩
theorem bits_ex (p:Nat→Prop):∀ n:Nat,∃ x:Nat,∀ i,x.testBit i=true↔i < n∧p i
  | 0=>⟨0,fun i=>⟨fun h=>(by rw [Nat.zero_testBit] at h;cases h),fun h=>absurd h.1 (Nat.not_lt_zero i)⟩⟩
  | n+1=>by
    obtain ⟨x,hx⟩:=bits_ex p n
    by_cases hp:p n
    · refine ⟨x ||| 2 ^ n,fun i => ?_⟩
      rw [Nat.testBit_or,Bool.or_eq_true,hx,Nat.testBit_two_pow,decide_eq_true_iff]
      constructor
      · rintro (h | rfl)
        · exact ⟨by omega,h.2⟩
        · exact ⟨by omega,hp⟩
      · rintro ⟨h1,h2⟩
        rcases Nat.lt_or_ge i n with z | z
        · exact .inl ⟨z,h2⟩
        · exact .inr (by omega)
    · refine ⟨x,fun i => ?_⟩
      rw [hx]
      constructor
      · rintro ⟨h1,h2⟩;exact ⟨by omega,h2⟩
      · rintro ⟨h1,h2⟩
        refine ⟨?_,h2⟩
        rcases Nat.lt_or_ge i n with z | z
        · exact z
        · have:i=n:=by omega
          subst this
          exact absurd h2 hp
theorem mask_ex (hs:List Str) (S:Str→Prop):∃ x:Nat,NSub x (2 ^ hs.length - 1)∧∀ z,Has' hs x z↔z∈hs∧S z:=by
  obtain ⟨x,hx⟩:=bits_ex (fun i=>∃ z,hs[i]? = some z∧S z) hs.length
  refine ⟨x,fun i hi => ?_,fun z => ?_⟩
  · rw [Nat.testBit_two_pow_sub_one];exact decide_eq_true ((hx i).mp hi).1
  · constructor
    · rintro ⟨h1,h2⟩
      obtain ⟨_,y,e,hy⟩:=(hx _).mp h2
      rw [idx_get h1] at e
      cases e
      exact ⟨h1,hy⟩
    · rintro ⟨h1,h2⟩
      exact ⟨h1,(hx _).mpr ⟨idx_lt h1,z,idx_get h1,h2⟩⟩
theorem masks_ex (hs:List Str) (S:Nat→Str→Prop):∀ n:Nat,∃ ks:List Nat,ks.length=n∧(∀ i,NSub (ks.getD i 0) (2 ^ hs.length - 1))∧∀ i,i < n→∀ z,Has' hs (ks.getD i 0) z↔z∈hs∧S i z
  | 0=>⟨[],rfl,fun i=>nsub_zero _,fun i h=>absurd h (Nat.not_lt_zero i)⟩
  | n+1=>by
    obtain ⟨ks,hl,h1,h2⟩:=masks_ex hs S n
    obtain ⟨x,h3,h4⟩:=mask_ex hs (S n)
    have e1:∀ i,i < n→(ks ++ [x]).getD i 0=ks.getD i 0:=fun i hi=>by rw [List.getD_eq_getElem?_getD,List.getElem?_append_left (by omega), ← List.getD_eq_getElem?_getD]
    have e2:(ks ++ [x]).getD n 0=x:=by rw [List.getD_eq_getElem?_getD, ← hl,List.getElem?_concat_length];rfl
    refine ⟨ks ++ [x],by rw [List.length_append,hl];rfl,fun i => ?_,fun i hi z => ?_⟩
    · rcases Nat.lt_trichotomy i n with h | h | h
      · rw [e1 i h];exact h1 i
      · rw [h,e2];exact h3
      · rw [List.getD_eq_getElem?_getD,List.getElem?_eq_none (by rw [List.length_append,hl];exact h)];exact nsub_zero _
    · rcases Nat.lt_or_ge i n with h | h
      · rw [e1 i h];exact h2 i h z
      · have:i=n:=by omega
        subst this
        rw [e2];exact h4 z
noncomputable def StandIn (ts:List Tm) (ls:List Nat) (l:Nat) (z:Str):Prop := ∃ j,ts[j]? = some (.name z)∧ls.getD j 0=l
theorem has_stand {hs:List Str} {ls:List Nat} {l:Nat} {z:Str} (hz:z∈hs):∀ n,n≤ts.length→((stand hs ts ls l n).testBit (hs.idxOf z)=true↔∃ j,j < n∧ts[j]? = some (.name z)∧ls.getD j 0=l)
  | 0,_=>⟨fun h=>(by rw [stand,Nat.zero_testBit] at h;cases h),fun ⟨j,h,_⟩=>absurd h (Nat.not_lt_zero j)⟩
  | n+1,hn=>by
    have ih:=has_stand (ls:=ls) (l:=l) hz n (by omega)
    have ht:=List.getElem?_eq_getElem (show n < ts.length by omega)
    generalize ts[n]'(by omega)=t at ht
    have step:(∃ j,j < n+1∧ts[j]? = some (.name z)∧ls.getD j 0=l)↔(∃ j,j < n∧ts[j]? = some (.name z)∧ls.getD j 0=l)∨(t = .name z∧ls.getD n 0=l):=by
      constructor
      · rintro ⟨j,h1,h2,h3⟩
        rcases Nat.lt_or_ge j n with q | q
        · exact .inl ⟨j,q,h2,h3⟩
        · have:j=n:=by omega
          subst this
          rw [ht] at h2
          exact .inr ⟨Option.some.inj h2,h3⟩
      · rintro (⟨j,h1,h2,h3⟩ | ⟨h1,h2⟩)
        · exact ⟨j,by omega,h2,h3⟩
        · exact ⟨n,by omega,by rw [ht,h1],h2⟩
    rw [step]
    cases e:nameT t with
    | none =>
      rw [stand_else ht e,ih]
      exact ⟨.inl,fun h=>h.elim id fun q=>by rw [q.1] at e;cases e⟩
    | some w =>
      have ew:=nameT_some e
      subst ew
      rw [stand_name ht]
      by_cases hl:ls.getD n 0=l
      · rw [if_pos hl,Nat.testBit_or,Bool.or_eq_true,ih]
        unfold bitW
        rw [Nat.testBit_two_pow,decide_eq_true_iff]
        constructor
        · rintro (h | h)
          · exact .inl h
          · exact .inr ⟨by rw [idx_inj hz h],hl⟩
        · rintro (h | h)
          · exact .inl h
          · refine .inr ?_
            cases h.1;rfl
      · rw [if_neg hl,ih]
        exact ⟨.inl,fun h=>h.elim id fun q=>absurd q.2 hl⟩
theorem has_stands {hs:List Str} {ls:List Nat} {l:Nat} {z:Str} (hz:z∈hs):(stand hs ts ls l ts.length).testBit (hs.idxOf z)=true↔StandIn ts ls l z:=by
  rw [has_stand hz _ (Nat.le_refl _)]
  exact ⟨fun ⟨j,_,h⟩=>⟨j,h⟩,fun ⟨j,h⟩=>⟨j,(List.getElem?_eq_some_iff.mp h.1).1,h⟩⟩
noncomputable def wz (ts:List Tm) (ls:List Nat) (K:Nat→Str→Prop) (z:Str):Tm→Prop
  | .num _=>False
  | .name w=>w=z
  | .of x as=>if x = "bind" ∧ as.length=2 then K (as.getD 1 0) z∧¬ StandIn ts ls (ls.getD (as.getD 0 0) 0) z else ∃ a∈as,K a z
theorem wz_of (ts:List Tm) (ls:List Nat) (K:Nat→Str→Prop) (z x:Str) (as:List Nat):wz ts ls K z (.of x as)=(if x = "bind" ∧ as.length=2 then K (as.getD 1 0) z∧¬ StandIn ts ls (ls.getD (as.getD 0 0) 0) z else ∃ a∈as,K a z):=rfl
theorem or_bit {ks:List Nat} {i:Nat}:∀ (as:List Nat) (acc:Nat),(as.foldl (fun acc a=>acc ||| ks.getD a 0) acc).testBit i=true↔acc.testBit i=true∨∃ a∈as,(ks.getD a 0).testBit i=true
  | [],acc=>⟨.inl,fun h=>h.elim id fun ⟨a,h,_⟩=>by cases h⟩
  | b :: as,acc=>by
    rw [List.foldl_cons,or_bit as,Nat.testBit_or,Bool.or_eq_true]
    constructor
    · rintro ((h | h) | ⟨a,h1,h2⟩)
      · exact .inl h
      · exact .inr ⟨b,List.mem_cons_self,h⟩
      · exact .inr ⟨a,List.mem_cons_of_mem _ h1,h2⟩
    · rintro (h | ⟨a,h1,h2⟩)
      · exact .inl (.inl h)
      · rcases List.mem_cons.mp h1 with rfl | h1
        · exact .inl (.inr h2)
        · exact .inr ⟨a,h1,h2⟩
theorem worth_has {ls ks:List Nat} {z:Str} (hz:z∈heldF ts) (t:Tm):(worthN ts ls ks t).testBit ((heldF ts).idxOf z)=true↔wz ts ls (fun k z=>Has' (heldF ts) (ks.getD k 0) z) z t:=by
  have hs:∀ k,Has' (heldF ts) (ks.getD k 0) z↔(ks.getD k 0).testBit ((heldF ts).idxOf z)=true:=fun k=>⟨fun h=>h.2,fun h=>⟨hz,h⟩⟩
  cases t with
  | num n=>exact ⟨fun h=>(by rw [show worthN ts ls ks (.num n)=0 from rfl,Nat.zero_testBit] at h;cases h),fun h=>False.elim h⟩
  | name w =>
    show (2 ^ (heldF ts).idxOf w).testBit _=true↔w=z
    rw [Nat.testBit_two_pow,decide_eq_true_iff]
    exact ⟨fun h=>idx_inj hz h,fun h=>by rw [h]⟩
  | of x as =>
    rw [worth_of]
    show _↔(if x = "bind" ∧ as.length=2 then Has' (heldF ts) (ks.getD (as.getD 1 0) 0) z∧¬ StandIn ts ls (ls.getD (as.getD 0 0) 0) z else ∃ a∈as,Has' (heldF ts) (ks.getD a 0) z)
    split
    · unfold clrN
      rw [clr_bit,Bool.and_eq_true,hs,Bool.not_eq_true', ← has_stands hz,Bool.not_eq_true]
    · unfold orF
      rw [or_bit]
      simp only [hs,Nat.zero_testBit,Bool.false_eq_true,false_or]
noncomputable def wNr (ts:List Tm) (ls ks:List Nat) (k:Nat):Nat:=match ts[k]? with | some t=>worthN ts ls ks t | none=>0
structure PostS (ts:List Tm) (ls:List Nat) (K:Nat→Str→Prop):Prop where
  held:∀ k z,k < ts.length→K k z→z∈heldF ts
  even:∀ i j z,i < ts.length→j < ts.length→ls.getD i 0=ls.getD j 0→K i z→K j z
  post:∀ (k:Nat) t z,ts[k]? = some t→K k z→wz ts ls K z t
theorem getD_mem {as:List Nat} {i:Nat} (h:i < as.length):as.getD i 0∈as:=by
  rw [List.getD_eq_getElem?_getD,List.getElem?_eq_getElem h];exact List.getElem_mem h
theorem wz_mono {ls:List Nat} {K K':Nat→Str→Prop} {z:Str} {t:Tm} (h:∀ a∈armsF t,K a z→K' a z) (hz:wz ts ls K z t):wz ts ls K' z t:=by
  cases t with
  | num n=>exact hz
  | name w=>exact hz
  | of x as =>
    rw [wz_of] at hz ⊢
    split at hz
    · rename_i c
      rw [if_pos c]
      exact ⟨h _ (show as.getD 1 0∈as from getD_mem (by omega)) hz.1,hz.2⟩
    · rename_i c
      rw [if_neg c]
      obtain ⟨a,ha,k⟩:=hz
      exact ⟨a,ha,h a ha k⟩
theorem learn_post {ls ks:List Nat} (a:LearnG ts.length (2 ^ (heldF ts).length - 1) (wNr ts ls) ls ks):PostS ts ls (fun k z=>Has' (heldF ts) (ks.getD k 0) z):=by
  refine ⟨fun k z _ h=>h.1,fun i j z hi hj e h => ?_,fun k t z ht h => ?_⟩
  · rw [← a.fix.even i j (by rw [a.fix.len];exact hi) (by rw [a.fix.len];exact hj) e];exact h
  · have hk:=(List.getElem?_eq_some_iff.mp ht).1
    have p:=a.fix.post k hk _ h.2
    have e:wNr ts ls ks k=worthN ts ls ks t:=by unfold wNr;rw [ht]
    rw [e] at p
    exact (worth_has h.1 t).mp p
theorem learn_top {ls ks:List Nat} (hn:ts.Nodup) (har:∀ (i:Nat) t,ts[i]? = some t→∀ a∈armsF t,a < ts.length) (a:LearnG ts.length (2 ^ (heldF ts).length - 1) (wNr ts ls) ls ks) {K:Nat→Str→Prop} (h:PostS ts ls K) {k:Nat} (hk:k < ts.length) {z:Str} (hz:K k z):Has' (heldF ts) (ks.getD k 0) z:=by
  have nd:=held_nodup hn
  obtain ⟨zs,hl,lo,iff⟩:=masks_ex (heldF ts) K ts.length
  have po:PostG ts.length (2 ^ (heldF ts).length - 1) (wNr ts ls) ls zs:=by
    refine ⟨hl,lo,fun i j hi hj e => ?_,fun i hi => ?_⟩
    · rw [hl] at hi hj
      refine nsub_anti (nsub_has nd (lo i) fun y hy => ?_) (nsub_has nd (lo j) fun y hy => ?_)
      · obtain ⟨q1,q2⟩:=(iff i hi y).mp hy
        exact (iff j hj y).mpr ⟨q1,h.even i j y hi hj e q2⟩
      · obtain ⟨q1,q2⟩:=(iff j hj y).mp hy
        exact (iff i hi y).mpr ⟨q1,h.even j i y hj hi e.symm q2⟩
    · refine nsub_has nd (lo i) fun y hy=>⟨hy.1,?_⟩
      obtain ⟨q1,q2⟩:=(iff i hi y).mp hy
      have ht:=List.getElem?_eq_getElem hi
      have e:wNr ts ls zs i=worthN ts ls zs ts[i]:=by unfold wNr;rw [ht]
      rw [e]
      refine (worth_has q1 _).mpr (wz_mono (fun b hb kb => ?_) (h.post i _ y ht q2))
      have hb:=har i _ ht b hb
      exact (iff b hb y).mpr ⟨q1,kb⟩
  exact has_nsub (a.top zs po k hk) ((iff k hk z).mpr ⟨h.held k z hk hz,hz⟩)
theorem Ren.held (R:Ren ts ts' f g) {z:Str} (h:z∈heldF ts):z∈heldF ts':=by
  obtain ⟨t,ht,e⟩:=List.mem_filterMap.mp h
  obtain ⟨i,hi⟩:=List.getElem?_of_mem ht
  have il:=(List.getElem?_eq_some_iff.mp hi).1
  have:=R.tm (g i) (R.gg i il)
  rw [R.fg i il,hi,nameT_some e] at this
  exact List.mem_filterMap.mpr ⟨_,List.mem_of_getElem? this,rfl⟩
theorem Ren.name (R:Ren ts ts' f g) {i:Nat} {z:Str} (h:ts'[i]? = some (.name z)):ts[f i]? = some (.name z):=by
  obtain ⟨t0,h1,h2,_⟩:=R.at_ h
  cases t0 with
  | num _=>cases h2
  | name _=>cases h2;exact h1
  | of _ _=>cases h2
theorem RenL.posts {ls ls':List Nat} {K:Nat→Str→Prop} (R:RenL ts ts' f g ls ls') (h:PostS ts ls K):PostS ts' ls' (fun i z=>K (f i) z):=by
  have len:=R.ren.len
  refine ⟨fun i z hi k => ?_,fun i j z hi hj e k => ?_,fun i t z ht k => ?_⟩
  · rw [len] at hi
    exact R.ren.held (h.held _ z (R.ren.ff i hi) k)
  · rw [len] at hi hj
    exact h.even _ _ z (R.ren.ff i hi) (R.ren.ff j hj) ((R.near i j hi hj).mp e) k
  · obtain ⟨t0,h1,rfl,hi⟩:=R.ren.at_ ht
    have p:=h.post _ t0 z h1 k
    have ar:=R.ren.arms _ _ h1
    cases t0 with
    | num _=>exact p
    | name _=>exact p
    | of x as =>
      show wz ts' ls' (fun i z=>K (f i) z) z (.of x (as.map g))
      rw [wz_of] at p ⊢
      rw [List.length_map]
      have ga:∀ i,i < as.length→(as.map g).getD i 0=g (as.getD i 0):=fun i hi=>by
        rw [List.getD_eq_getElem?_getD,List.getElem?_map,List.getD_eq_getElem?_getD,List.getElem?_eq_getElem hi];rfl
      split at p
      · rename_i c
        rw [if_pos c,ga 0 (by omega),ga 1 (by omega)]
        have a0:=ar _ (show as.getD 0 0∈as from getD_mem (by omega))
        have a1:=ar _ (show as.getD 1 0∈as from getD_mem (by omega))
        refine ⟨by rw [R.ren.fg _ a1];exact p.1,fun ⟨j,s1,s2⟩=>p.2 ⟨f j,R.ren.name s1,?_⟩⟩
        have jl:j < ts.length:=by rw [← len];exact (List.getElem?_eq_some_iff.mp s1).1
        have:=(R.near j (g (as.getD 0 0)) jl (R.ren.gg _ a0)).mp s2
        rw [R.ren.fg _ a0] at this
        exact this
      · rename_i c
        rw [if_neg c]
        obtain ⟨a,ha,ka⟩:=p
        exact ⟨g a,List.mem_map.mpr ⟨a,ha,rfl⟩,by rw [R.ren.fg a (ar a ha)];exact ka⟩
theorem names_ren {ls ls' ks ks':List Nat} (R:RenL ts ts' f g ls ls') (hn:ts.Nodup) (hn':ts'.Nodup) (a:LearnG ts.length (2 ^ (heldF ts).length - 1) (wNr ts ls) ls ks) (b:LearnG ts'.length (2 ^ (heldF ts').length - 1) (wNr ts' ls') ls' ks') {i:Nat} (hi:i < ts.length) (z:Str) :
    Has' (heldF ts') (ks'.getD i 0) z↔Has' (heldF ts) (ks.getD (f i) 0) z:=by
  constructor
  · intro h
    have:=learn_top hn R.ren.arms a (R.symm.posts (learn_post b)) (R.ren.ff i hi) (z:=z) (by show Has' _ (ks'.getD (g (f i)) 0) z;rw [R.ren.gf i hi];exact h)
    exact this
  · intro h
    exact learn_top hn' R.ren.symm.arms b (R.posts (learn_post a)) (by rw [R.ren.len];exact hi) h
theorem nums_ren {ls ls':List Nat} (R:RenL ts ts' f g ls ls') {i:Nat} (hi:i < ts.length) {n:Int} (h:n∈numsF ts' ls' i):n∈numsF ts ls (f i):=by
  obtain ⟨j,hj,e,t⟩:=mem_nums.mp h
  have jl:j < ts.length:=by rw [← R.len'];exact hj
  obtain ⟨t0,h1,h2,_⟩:=R.ren.at_ t
  refine mem_nums.mpr ⟨f j,by rw [R.len];exact R.ren.ff j jl,(R.near j i jl hi).mp e,?_⟩
  cases t0 with
  | num _=>cases h2;exact h1
  | name _=>cases h2
  | of _ _=>cases h2
theorem nums_perm {ls ls':List Nat} (R:RenL ts ts' f g ls ls') (hn:ts.Nodup) (hn':ts'.Nodup) {i:Nat} (hi:i < ts.length):(numsF ts ls (f i)).Perm (numsF ts' ls' i):=by
  refine (List.perm_ext_iff_of_nodup (nums_nodup hn) (nums_nodup hn')).mpr fun n=>⟨fun h => ?_,fun h=>nums_ren R hi h⟩
  have:=nums_ren R.symm (i:=f i) (by rw [R.ren.len];exact R.ren.ff i hi) h
  rw [R.ren.gf i hi] at this
  exact this
theorem qual_ren {ls ls':List Nat} (R:RenL ts ts' f g ls ls') {a b:Nat} {x y:Int} (h:Qual ts' ls' a b x y):Qual ts ls (f a) (f b) x y:=by
  obtain ⟨h1,h2,h3,h4⟩:=h
  obtain ⟨t1,a1,b1,l1⟩:=R.ren.at_ h1
  obtain ⟨t2,a2,b2,l2⟩:=R.ren.at_ h2
  refine ⟨?_,?_,(R.near a b l1 l2).mp h3,h4⟩
  · cases t1 with
    | num _=>cases b1;exact a1
    | name _=>cases b1
    | of _ _=>cases b1
  · cases t2 with
    | num _=>cases b2;exact a2
    | name _=>cases b2
    | of _ _=>cases b2
theorem least_ren {ls ls':List Nat} (R:RenL ts ts' f g ls ls') {r:Option (Int × Int)} (h:LeastOf ts' ls' (fun a b=>a < ts'.length∧b < ts'.length) r):LeastOf ts ls (fun a b=>a < ts.length∧b < ts.length) r:=by
  have back:∀ {a b:Nat} {x y:Int},Qual ts ls a b x y→Qual ts' ls' (g a) (g b) x y∧g a < ts'.length∧g b < ts'.length:=fun {a b x y} q=>by
    have:=qual_ren R.symm q
    exact ⟨this,(List.getElem?_eq_some_iff.mp this.1).1,(List.getElem?_eq_some_iff.mp this.2.1).1⟩
  cases r with
  | none=>exact fun a b x y _ q=>h _ _ x y (back q).2 (back q).1
  | some p =>
    obtain ⟨⟨a,b,q⟩,hl⟩:=h
    exact ⟨⟨f a,f b,qual_ren R q⟩,fun a b x y _ q=>hl _ _ x y (back q).2 (back q).1⟩
end
end Sw
namespace K39
open PySem L2 Sw
noncomputable def top (i:Nat):Stmt:=PySem.Challenge.pw_samewise_k39_whole_facts_by_any_order.main.body.getD i (.Pass ⟨0,0,0,0⟩)
noncomputable abbrev s_is_sum:Stmt:=top 17
theorem sc_is_sum:FnScope ["term"] ["term"] (defScope s_is_sum):=⟨rfl,rfl,rfl,by decide +kernel,rfl,by decide +kernel,by decide +kernel⟩
noncomputable abbrev s_is_product:Stmt:=top 18
theorem sc_is_product:FnScope ["term"] ["term"] (defScope s_is_product):=⟨rfl,rfl,rfl,by decide +kernel,rfl,by decide +kernel,by decide +kernel⟩
noncomputable abbrev s_is_opposite:Stmt:=top 19
theorem sc_is_opposite:FnScope ["term"] ["term"] (defScope s_is_opposite):=⟨rfl,rfl,rfl,by decide +kernel,rfl,by decide +kernel,by decide +kernel⟩
noncomputable abbrev s_is_binder:Stmt:=top 20
theorem sc_is_binder:FnScope ["term"] ["term"] (defScope s_is_binder):=⟨rfl,rfl,rfl,by decide +kernel,rfl,by decide +kernel,by decide +kernel⟩
noncomputable abbrev s_sign_of_number:Stmt:=top 23
theorem sc_sign_of_number:FnScope ["number"] ["number"] (defScope s_sign_of_number):=⟨rfl,rfl,rfl,by decide +kernel,rfl,by decide +kernel,by decide +kernel⟩
noncomputable abbrev s_add_signs:Stmt:=top 25
theorem sc_add_signs:FnScope ["one", "other"] ["one", "other"] (defScope s_add_signs):=⟨rfl,rfl,rfl,by decide +kernel,rfl,by decide +kernel,by decide +kernel⟩
noncomputable abbrev s_multiply_signs:Stmt:=top 26
theorem sc_multiply_signs:FnScope ["one", "other"] ["one", "other"] (defScope s_multiply_signs):=⟨rfl,rfl,rfl,by decide +kernel,rfl,by decide +kernel,by decide +kernel⟩
noncomputable abbrev s_sign_of_pair:Stmt:=top 24
theorem sc_sign_of_pair:FnScope ["combine", "fact", "other_fact", "found", "one", "other"] ["combine", "fact", "other_fact"] (defScope s_sign_of_pair):=⟨rfl,rfl,rfl,by decide +kernel,rfl,by decide +kernel,by decide +kernel⟩
noncomputable abbrev s_kinit:Stmt:=inClass (top 21) 0
theorem sc_kinit:FnScope ["self", "terms", "leads"] ["self", "terms", "leads"] (defScope s_kinit):=⟨rfl,rfl,rfl,by decide +kernel,rfl,by decide +kernel,by decide +kernel⟩
noncomputable abbrev s_ktop:Stmt:=inClass (top 21) 1
noncomputable abbrev s_kworth:Stmt:=inClass (top 21) 2
noncomputable abbrev s_stop:Stmt:=inClass (top 22) 0
theorem sc_stop:FnScope ["self"] ["self"] (defScope s_stop):=⟨rfl,rfl,rfl,by decide +kernel,rfl,by decide +kernel,by decide +kernel⟩
noncomputable abbrev s_sworth:Stmt:=inClass (top 22) 1
theorem sc_sworth:FnScope ["self", "term", "known"] ["self", "term", "known"] (defScope s_sworth):=⟨rfl,rfl,rfl,by decide +kernel,rfl,by decide +kernel,by decide +kernel⟩
noncomputable abbrev s_ninit:Stmt:=inClass (top 27) 0
theorem sc_ninit:FnScope ["self", "terms", "leads", "place", "word", "k", "term"] ["self", "terms", "leads"] (defScope s_ninit):=⟨rfl,rfl,rfl,by decide +kernel,rfl,by decide +kernel,by decide +kernel⟩
noncomputable abbrev s_ntop:Stmt:=inClass (top 27) 1
theorem sc_ntop:FnScope ["self"] ["self"] (defScope s_ntop):=⟨rfl,rfl,rfl,by decide +kernel,rfl,by decide +kernel,by decide +kernel⟩
noncomputable abbrev s_nworth:Stmt:=inClass (top 27) 2
theorem sc_nworth:FnScope ["self", "term", "known", "bound", "found", "number"] ["self", "term", "known"] (defScope s_nworth):=⟨rfl,rfl,rfl,by decide +kernel,rfl,by decide +kernel,by decide +kernel⟩
noncomputable abbrev s_mark:Stmt:=top 2
theorem sc_mark:FnScope ["term", "leads"] ["term", "leads"] (defScope s_mark):=⟨rfl,rfl,rfl,by decide +kernel,rfl,by decide +kernel,by decide +kernel⟩
noncomputable abbrev s_join_classes:Stmt:=top 4
theorem sc_join_classes:FnScope ["leads", "a", "b", "low", "high", "k"] ["leads", "a", "b"] (defScope s_join_classes):=⟨rfl,rfl,rfl,by decide +kernel,rfl,by decide +kernel,by decide +kernel⟩
noncomputable abbrev s_join_like:Stmt:=top 5
theorem sc_join_like:FnScope ["terms", "leads", "joined", "first", "k", "term", "other"] ["terms", "leads"] (defScope s_join_like):=⟨rfl,rfl,rfl,by decide +kernel,rfl,by decide +kernel,by decide +kernel⟩
noncomputable abbrev s_closed:Stmt:=top 3
theorem sc_closed:FnScope ["terms", "edges", "leads", "edge"] ["terms", "edges"] (defScope s_closed):=⟨rfl,rfl,rfl,by decide +kernel,rfl,by decide +kernel,by decide +kernel⟩
noncomputable abbrev s_word:Stmt:=top 29
theorem sc_word:FnScope ["_law_cell", "_law_head", "_law_letters", "_law_m", "_law_size", "_law_place", "_law_fill"] ["_law_cell", "_law_head"] (defScope s_word):=⟨rfl,rfl,rfl,by decide +kernel,rfl,by decide +kernel,by decide +kernel⟩
noncomputable abbrev s_number:Stmt:=top 30
theorem sc_number:FnScope ["_law_cell", "_law_m"] ["_law_cell"] (defScope s_number):=⟨rfl,rfl,rfl,by decide +kernel,rfl,by decide +kernel,by decide +kernel⟩
noncomputable abbrev s_knot:Stmt:=top 31
theorem sc_knot:FnScope ["_law_cell", "_law_many", "_law_head", "_law_m", "_law_word_here", "_law_count", "_law_factors"] ["_law_cell", "_law_many", "_law_head"] (defScope s_knot):=⟨rfl,rfl,rfl,by decide +kernel,rfl,by decide +kernel,by decide +kernel⟩
noncomputable abbrev s_term:Stmt:=top 32
theorem sc_term:FnScope ["_law_cell", "_law_many", "_law_head", "_law_m"] ["_law_cell", "_law_many", "_law_head"] (defScope s_term):=⟨rfl,rfl,rfl,by decide +kernel,rfl,by decide +kernel,by decide +kernel⟩
noncomputable abbrev s_made:Stmt:=top 33
theorem sc_made:FnScope ["_law_script", "_law_head", "_law_rate", "_law_terms", "_law_edges", "_law_cell", "_law_term_here", "_law_m", "_law_a", "_law_b"] ["_law_script"] (defScope s_made):=⟨rfl,rfl,rfl,by decide +kernel,rfl,by decide +kernel,by decide +kernel⟩
noncomputable abbrev s_members:Stmt:=top 6
theorem sc_members:FnScope ["leads", "k"] ["leads", "k"] (defScope s_members):=⟨rfl,rfl,rfl,by decide +kernel,rfl,by decide +kernel,by decide +kernel⟩
noncomputable abbrev s_learned:Stmt:=top 8
theorem sc_learned:FnScope ["kind", "known", "steps", "done", "k", "term", "fact", "member"] ["kind"] (defScope s_learned):=⟨rfl,rfl,rfl,by decide +kernel,rfl,by decide +kernel,by decide +kernel⟩
noncomputable abbrev s_nfree:Stmt:=inClass (top 27) 3
theorem sc_nfree:FnScope ["self", "known", "k", "name"] ["self", "known", "k", "name"] (defScope s_nfree):=⟨rfl,rfl,rfl,by decide +kernel,rfl,by decide +kernel,by decide +kernel⟩
noncomputable abbrev s_numbers:Stmt:=top 9
theorem sc_numbers:FnScope ["terms", "leads", "k"] ["terms", "leads", "k"] (defScope s_numbers):=⟨rfl,rfl,rfl,by decide +kernel,rfl,by decide +kernel,by decide +kernel⟩
noncomputable abbrev s_odds:Stmt:=top 10
theorem sc_odds:FnScope ["terms", "leads", "pairs", "k", "found"] ["terms", "leads"] (defScope s_odds):=⟨rfl,rfl,rfl,by decide +kernel,rfl,by decide +kernel,by decide +kernel⟩
noncomputable abbrev s_law:Stmt:=top 37
theorem sc_law:FnScope ["_law_script", "_law_terms", "_law_edges", "_law_order_here", "_law_others", "_law_turned", "_law_edge", "_law_ends", "_law_leads", "_law_later", "_law_at", "_law_to", "_law_near", "_law_asked"] ["_law_script"] (defScope s_law):=⟨rfl,rfl,rfl,by decide +kernel,rfl,by decide +kernel,by decide +kernel⟩
noncomputable abbrev s_order:Stmt:=top 34
theorem sc_order:FnScope ["_law_terms", "_law_script", "_law_left", "_law_order_here", "_law_ready", "_law_cell", "_law_k"] ["_law_terms", "_law_script"] (defScope s_order):=⟨rfl,rfl,rfl,by decide +kernel,rfl,by decide +kernel,by decide +kernel⟩
noncomputable abbrev s_anew:Stmt:=top 35
theorem sc_anew:FnScope ["_law_terms", "_law_order_here", "_law_anew_here", "_law_k", "_law_term_here"] ["_law_terms", "_law_order_here"] (defScope s_anew):=⟨rfl,rfl,rfl,by decide +kernel,rfl,by decide +kernel,by decide +kernel⟩
noncomputable abbrev s_alike:Stmt:=top 36
theorem sc_alike:FnScope ["_law_terms", "_law_leads", "_law_others", "_law_later", "_law_order_here", "_law_asked", "_law_signs", "_law_kinds", "_law_facts", "_law_at", "_law_k", "_law_name", "_law_here", "_law_there"] ["_law_terms", "_law_leads", "_law_others", "_law_later", "_law_order_here", "_law_asked"] (defScope s_alike):=⟨rfl,rfl,rfl,by decide +kernel,rfl,by decide +kernel,by decide +kernel⟩
section
variable {P:Program} {w:World} {K:PySem.W.Frag} {mg:Str→Option Value} {base:Heap}
inductive SpMark (K:PySem.W.Frag) (vs:List V) (H:Hp) (Q:VK):Prop
  | mk (v:V) (t:Tm) (L:Addr) (ls:List Nat) (z0:vs = [v,.ref L]) (z1:IsTm H t v) (z2:SqL K H L (ls.map nV)) (z3:(∀ x as,t = .of x as→as.length≤1000∧∀ a∈as,a < ls.length)) (z4:∀ v' H',Same H H'→IsTm H' (mk ls t) v'→Q v' H'):SpMark K vs H Q
noncomputable def spMark (K:PySem.W.Frag):Sp:=fun vs H Q _=>SpMark K vs H Q
theorem ok_mark (B:Blt mg) (D:Def K mg "mark" s_mark ["term", "leads"]):Has P w K mg base 1 "mark" ["term", "leads"] (spMark K):=by
  refine D.has sc_mark (fun vs H Q E h => ?_) (fun f cdv A outer s H vs Q E hr h => ?_)
  · obtain ⟨v,t,L,ls,rfl,_⟩:=h;rfl
  obtain ⟨v,t,L,ls,rfl,hT,hL,hb,q⟩:=h
  refine ⟨_,(pss_cons (ps_if (pt_cmpR op_ne (pe_ix ix_tup (pv 0) pe_int (fun _ _=>rfl)) pe_str (nomark _)) (pss_one (ps_ret (pv 0))) pss_nil)
    (pss_one (ps_ret (pe_tup (pa_cons pe_str (pa_cons (pe_ix ix_tup (pv 0) pe_int (fun _ _=>rfl)) (pa_cons (pe_callTy call_tuple_of rfl B.tuple_ boot_tuple_ (pa_cons (pe_comp (te:=(tOp (rIxL K) _ _)) (own := ["number"]) (caps := [("leads",1)]) (comp_scope (defScope s_mark) ["term", "leads"] rfl rfl rfl (by decide +kernel)) (pi_tup (pe_ix ix_tup (pv 0) pe_int (fun _ _=>rfl))) rfl (fun _ _ _=>pg_name (i:=0) (show (["number", "leads"]:List Str).Nodup by decide +kernel) rfl (Or.inl rfl)) (fun _ _ _=>(pe_ix ix_list (pv 1) (pv 0) (fun _ _=>rfl)))) pa_nil)) pa_nil))))))),?_⟩
  try dsimp only [cxOf]
  cases t with
  | num n =>
    obtain ⟨a,rfl,h⟩:=id hT
    refine ⟨_,rfl,a,_,0,_,rfl,rfl,SqT.of h,atI_nat (j:=0) rfl,rfl,_,rfl,iteDN (fun _=>⟨_,rfl,q _ _ (Same.refl _) hT⟩) (fun z=>absurd (V.str.inj z) (by decide))⟩
  | name n =>
    obtain ⟨a,rfl,h⟩:=id hT
    refine ⟨_,rfl,a,_,0,_,rfl,rfl,SqT.of h,atI_nat (j:=0) rfl,rfl,_,rfl,iteDN (fun _=>⟨_,rfl,q _ _ (Same.refl _) hT⟩) (fun z=>absurd (V.str.inj z) (by decide))⟩
  | of x as =>
    obtain ⟨a,b,rfl,h,h2⟩:=id hT
    obtain ⟨hl,hlt⟩:=hb x as rfl
    refine ⟨_,rfl,a,_,0,_,rfl,rfl,SqT.of h,atI_nat (j:=0) rfl,rfl,_,rfl,iteDN (fun z=>absurd rfl z) (fun _ => ?_)⟩
    refine ⟨_,rfl,a,_,1,_,rfl,rfl,SqT.of h,atI_nat (j:=1) rfl,?_⟩
    refine ⟨_,rfl,a,_,2,_,rfl,rfl,SqT.of h,atI_nat (j:=2) rfl,b,rfl,⟨_,SqT.of h2⟩,?_⟩
    refine comp_tupS (ys:=(as.map fun a=>ls.getD a 0).map nV) (SqT.of h2) (by rw [List.length_map];exact hl) (by simp) (fun i y z hy hz H' sm Q' q' => ?_) (fun D1 H' hD1 sm hD => ?_)
    · rw [List.getElem?_map] at hy
      rw [List.getElem?_map,List.getElem?_map] at hz
      cases e:as[i]? with
      | none=>rw [e] at hy;cases hy
      | some k =>
        rw [e] at hy hz
        have e1:nV k=y:=Option.some.inj hy
        have e2:nV (ls.getD k 0)=z:=Option.some.inj hz
        subst e1 e2
        have hk:=hlt k (List.mem_of_getElem? e)
        have e3:ls[k]? = some (ls.getD k 0):=by rw [List.getD_eq_getElem?_getD,List.getElem?_eq_getElem hk];rfl
        exact ⟨_,rfl,_,rfl,L,_,_,_,rfl,rfl,sm.seq hL,nV_at e3,q' _ (Same.refl _)⟩
    · refine ⟨D1,_,rfl,.inl ⟨SqL.of hD,fun l hl' => ?_⟩⟩
      refine ⟨(show 3≤sizeLine by decide),fun t ht => ?_⟩
      refine q _ _ (sm.trans ((same_new hl' _).trans (same_new ht _))) ⟨t,l,rfl,upd_same,?_⟩
      rw [upd_ne (ne_of_none upd_same ht),upd_same]
inductive SpJoin (vs:List V) (H:Hp) (Q:VK):Prop
  | mk (L:Addr) (ls:List Nat) (a b la lb:Nat) (z0:vs = [.ref L,nV a,nV b]) (z1:H L=some (.lst (ls.map nV))) (z2:GoodL ls) (z3:ls.length≤1000000) (z4:ls[a]? = some la) (z5:ls[b]? = some lb) (z6:(la=lb→Q (.bl false) H)) (z7:(la≠lb→Q (.bl true) (upd H L (.lst ((jn ls (max la lb) (min la lb)).map nV))))):SpJoin  vs H Q
noncomputable def spJoin:Sp:=fun vs H Q _=>SpJoin  vs H Q
theorem ok_join_classes (B:Blt mg) (D:Def K mg "join_classes" s_join_classes ["leads", "a", "b"]):Has P w K mg base 1 "join_classes" ["leads", "a", "b"] spJoin:=by
  refine D.has sc_join_classes (fun vs H Q E h => ?_) (fun f cdv A outer s H vs Q E hr h => ?_)
  · obtain ⟨L,ls,a,b,la,lb,rfl,_⟩:=h;rfl
  obtain ⟨L,ls,a,b,la,lb,rfl,hL,hg,hz,ha,hb,q1,q2⟩:=h
  refine ⟨_,(pss_cons (ps_set (i:=3) sc_join_classes.nd rfl (Or.inl rfl) (pe_callB (call_min2 rfl) rfl B.min_ boot_min_ (pa_cons (pe_ix ix_list (pv 0) (pv 1) (fun _ _=>rfl)) (pa_cons (pe_ix ix_list (pv 0) (pv 2) (fun _ _=>rfl)) pa_nil))))
    (pss_cons (ps_set (i:=4) sc_join_classes.nd rfl (Or.inl rfl) (pe_callB (call_max2 rfl) rfl B.max_ boot_max_ (pa_cons (pe_ix ix_list (pv 0) (pv 1) (fun _ _=>rfl)) (pa_cons (pe_ix ix_list (pv 0) (pv 2) (fun _ _=>rfl)) pa_nil))))
    (pss_cons (ps_if (pt_cmpR op_eq (pv 3) (pv 4) (nomark _)) (pss_one (ps_ret pe_bl)) pss_nil)
    (pss_cons (ps_for PassesOwn.never rfl (pi_range2 rfl B.range_ (pa_cons (pv 4) (pa_cons (pe_callB call_len_seq rfl B.len_ PySem.boot_len (pa_cons (pv 0) pa_nil)) pa_nil))) (pg_name (i:=5) sc_join_classes.nd rfl (Or.inl rfl))
    (pss_one (ps_if (pt_cmpR op_eq (pe_ix ix_list (pv 0) (pv 5) (fun _ _=>rfl)) (pv 4) (nomark _)) (pss_one (ps_asg (pv 3) (pg_sub (pv 0) (pv 5) set_list))) pss_nil)))
    (pss_one (ps_ret pe_bl)))))),?_⟩
  try dsimp only [cxOf]
  refine ⟨_,rfl,_,rfl,L,_,_,_,rfl,rfl,SqL.of hL,nV_at ha,_,rfl,_,rfl,L,_,_,_,rfl,rfl,SqL.of hL,nV_at hb,_,_,rfl,?_⟩
  refine ⟨_,rfl,_,rfl,L,_,_,_,rfl,rfl,SqL.of hL,nV_at ha,_,rfl,_,rfl,L,_,_,_,rfl,rfl,SqL.of hL,nV_at hb,_,_,rfl,?_⟩
  have e1:(if (lb:Int) < (la:Int) then (lb:Int) else (la:Int))=((min la lb:Nat):Int):=by split <;> omega
  have e2:(if (lb:Int) > (la:Int) then (lb:Int) else (la:Int))=((max la lb:Nat):Int):=by split <;> omega
  dsimp only [gName]
  rw [e1,e2]
  by_cases hab:la=lb
  · refine ⟨_,rfl,_,rfl,rfl,_,rfl,iteD (fun _=>q1 hab) (fun z=>absurd ?_ z)⟩
    show V.int _=V.int _
    congr 1;omega
  · refine ⟨_,rfl,_,rfl,rfl,_,rfl,iteD (fun z => ?_) (fun _ => ?_)⟩
    · have:=V.int.inj z
      omega
    have hhi:∃ c:Nat,ls[c]? = some (max la lb):=by
      rcases Nat.le_total la lb with h | h
      · exact ⟨b,by rw [Nat.max_eq_right h];exact hb⟩
      · exact ⟨a,by rw [Nat.max_eq_left h];exact ha⟩
    obtain ⟨c,hc⟩:=hhi
    have hhi2:=(hg c _ hc).2
    have hlt:max la lb < ls.length:=(List.getElem?_eq_some_iff.mp hhi2).1
    have q2':=q2 hab
    have hlohi:min la lb < max la lb:=by omega
    generalize max la lb=hi at *
    generalize min la lb=lo at *
    refine ⟨_,rfl,_,rfl,L,_,rfl,.inl (SqL.of hL),hi,_,rfl,?_,?_⟩
    · rw [List.length_map];omega
    have en:(((ls.map nV).length:Nat):Int) - (hi:Int)=((ls.length - hi:Nat):Int):=by rw [List.length_map];omega
    rw [en,Int.toNat_natCast]
    refine for_range (lo:=(hi:Int)) (fun i σ H'=>∃ o, σ = [some (.ref L),some (nV a),some (nV b),some (nV lo),some (nV hi),o]∧H'=upd H L (.lst ((mix ls hi lo (hi+i)).map nV))) ⟨none,rfl,?_⟩ ?_ ?_
    · rw [Nat.add_zero,mix_start hg]
      funext c'
      by_cases h:c'=L
      · subst h;rw [upd_same];exact hL
      · rw [upd_ne h]
    · rintro i σ H' hi' ⟨o,rfl,rfl⟩
      have hk:hi+i < ls.length:=by omega
      have ev:=List.getElem?_eq_getElem hk
      generalize ls[hi+i]=v at ev
      have em:(mix ls hi lo (hi+i))[hi+i]? = some v:=by
        rw [mix_at,ev]
        show some _=some _
        dsimp only
        rw [if_neg (by omega)]
      have ek:(hi:Int)+(i:Int)=((hi+i:Nat):Int):=by omega
      show tIfS _ _ _ _ _ _
      refine ⟨_,rfl,_,rfl,L,_,_,nV v,rfl,rfl,SqL.of upd_same,(by rw [ek];exact nV_at em),_,rfl,rfl,_,rfl,iteD (fun z => ?_) (fun z => ?_)⟩
      · have hv:v=hi:=by have:=V.int.inj z;omega
        refine ⟨_,rfl,_,rfl,_,rfl,L,_,_,hi+i,rfl,rfl,upd_same,?_,⟨_,rfl,?_⟩⟩
        · rw [ek,List.length_map,mix_len]
          unfold ixN
          rw [if_pos (by omega),if_pos (by omega),Int.toNat_natCast]
        · rw [upd_upd]
          have:=mix_set (hi:=hi) (lo:=lo) ev
          unfold ren at this
          rw [if_pos hv] at this
          rw [nV_set,this]
          rfl
      · have hv:v≠hi:=fun e=>z (by rw [e])
        refine ⟨_,rfl,?_⟩
        have:=mix_stay (hi:=hi) (lo:=lo) ev hv
        rw [show hi+(i+1)=hi+i+1 from rfl,this]
    · rintro σ H' ⟨o,rfl,rfl⟩
      rw [mix_end (by omega)]
      exact q2'
inductive SpJoinLike (P:Program) (w:World) (vs:List V) (H:Hp) (Q:VK):Prop
  | mk (T L:Addr) (us:List V) (ts:List Tm) (ls:List Nat) (es:List (Nat × Nat)) (z0:vs = [.ref T,.ref L]) (z1:H T=some (.lst us)) (z2:Tms H us ts) (z3:H L=some (.lst (ls.map nV))) (z4:T≠L) (z5:GoodL ls) (z6:Sound ts es ls) (z7:Arms ts) (z8:ls.length=ts.length) (z9:ts.length≤1000) (z10:(∀ (i:Nat) x as,ts[i]? = some (.of x as)→as.length≤1000)) (z11:∀ ls' b H',But L H H'→H' L=some (.lst (ls'.map nV))→GoodL ls'→Sound ts es ls'→Keeps ls ls'→ls'.length=ls.length→(b=true→ls'.sum < ls.sum)→(b=false→ls'=ls∧∀ (i j:Nat) (t u:Tm),ts[i]? = some t→ts[j]? = some u→mk ls t=mk ls u→ls[i]? = ls[j]?)→Q (.bl b) H'):SpJoinLike P w vs H Q
noncomputable def spJoinLike (P:Program) (w:World):Sp:=fun vs H Q _=>SpJoinLike P w vs H Q
inductive Iv_join_like1 (P:Program) (w:World) (H:Hp) (T:Addr) (L:Addr) (p:Addr) (ts:List Tm) (es:List (Nat × Nat)) (ls:List Nat) (i:Nat) (σ : St) (H':Hp):Prop
  | mk:∀ (ls':List Nat) (jd:Bool) (kvs:List (NK × V)) (x4 x5 x6:Option V),(σ = [some (.ref T),some (.ref L),some (.bl jd),some (.ref p),x4,x5,x6])→(But L H H')→(H' L=some (.lst (ls'.map nV)))→(DN P w H' p kvs)→(GoodL ls')→(Sound ts es ls')→(Keeps ls ls')→(ls'.length=ls.length)→((jd=true→ls'.sum < ls.sum))→((jd=false→ls'=ls))→(ls'.sum≤ls.sum)→(kvs.length≤i)→((∀ key v,valV kvs key=some v→∃ j t m,v=nV j∧ts[j]? = some t∧key=tmNK m∧Stands ts es t m))→((jd=false→∀ (j:Nat) t,j < i→ts[j]? = some t→∃ j',valV kvs (tmNK (mk ls t))=some (nV j')∧ls[j']? = ls[j]?))→Iv_join_like1 P w H T L p ts es ls i σ H'
theorem ok_join_like (B:Blt mg) (h_mark:Has P w K mg base 1 "mark" ["term", "leads"] (spMark K)) (h_join_classes:Has P w K mg base 1 "join_classes" ["leads", "a", "b"] spJoin) (D:Def K mg "join_like" s_join_like ["terms", "leads"]) :
    Has P w K mg base 2 "join_like" ["terms", "leads"] (spJoinLike P w):=by
  refine D.has sc_join_like (fun vs H Q E h => ?_) (fun f cdv A outer s H vs Q E hr h => ?_)
  · obtain ⟨T,L,us,ts,ls,es,rfl,_⟩:=h;rfl
  obtain ⟨T,L,us,ts,ls,es,rfl,hT,hts,hL,hTL,hg,hs,har,hlen,hz,hza,q⟩:=h
  refine ⟨_,(pss_cons (ps_set (i:=2) sc_join_like.nd rfl (Or.inl rfl) pe_bl)
    (pss_cons (ps_set (i:=3) sc_join_like.nd rfl (Or.inl rfl) pe_dnewN)
    (pss_cons (ps_for PassesOwn.never rfl (pi_enum rfl B.enumerate_ (pa_cons (pv 0) pa_nil)) (pg_tup rfl (pgs_cons (pg_name (i:=4) sc_join_like.nd rfl (Or.inl rfl)) (pgs_cons (pg_name (i:=5) sc_join_like.nd rfl (Or.inl rfl)) pgs_nil)))
    (pss_cons (ps_set (i:=6) sc_join_like.nd rfl (Or.inl rfl) (pe_setD (un10 hr) (pv 3) (pe_callH h_mark hr (by omega) rfl (pa_cons (pv 5) (pa_cons (pv 1) pa_nil))) (pv 4) ⟨rfl,rfl,rfl,rfl⟩))
    (pss_one (ps_if (pt_val (pe_callH h_join_classes hr (by omega) rfl (pa_cons (pv 1) (pa_cons (pv 6) (pa_cons (pv 4) pa_nil))))) (pss_one (ps_set (i:=2) sc_join_like.nd rfl (Or.inl rfl) pe_bl)) pss_nil))))
    (pss_one (ps_ret (pv 2)))))),?_⟩
  try dsimp only [cxOf]
  have hut:=Paired.length hts
  intro p φ hp dn0
  dsimp only [gName]
  have hpL:p≠L:=fun e=>by rw [e,hL] at hp;cases hp
  have hpT:p≠T:=fun e=>by rw [e,hT] at hp;cases hp
  refine ⟨_,rfl,T,rfl,⟨us,SqL.of (by rw [upd_ne (Ne.symm hpT)];exact hT)⟩,?_⟩
  refine for_enum (xs:=us) (Iv_join_like1 P w H T L p ts es ls)
    ⟨ls,false, [],none,none,none,rfl,(But.refl L H).new hp,by rw [upd_ne (Ne.symm hpL)];exact hL,dn0,hg,hs,keeps_refl ls,rfl,(fun z=>nomatch z),fun _=>rfl,Nat.le_refl _,Nat.zero_le _,(fun key v e=>by rw [valV_nil] at e;cases e),fun _ j t hj=>absurd hj (Nat.not_lt_zero _)⟩ ?_ ?_ ?_
  · rintro i σ H' _ ⟨ls',jd,kvs,x4,x5,x6,rfl,bt,_⟩
    exact SqL.of (bt T _ hTL hT)
  · rintro i x a0 σ H' hx ⟨ls',jd,kvs,x4,x5,x6,rfl,bt,hL',dn,hg',hs',hk',hlen',hjt,hjf,hsum,hkl,iA,iB⟩ ha0
    obtain ⟨t,ht,hx'⟩:=tms_at hts hx
    have hi:i < ts.length:=(List.getElem?_eq_some_iff.mp ht).1
    have sm0:=same_new ha0 (.tup [.int (i:Int),x])
    have bt1:=bt.same sm0
    have itx:IsTm (upd H' a0 (.tup [.int (i:Int),x])) t x:=hx'.keep (bt1.tup hL)
    have hL1:=sm0 _ _ hL'
    have dn1:=dn.same sm0
    refine ⟨a0,_,rfl,SqT.of upd_same,rfl,_,_,rfl,_,_,rfl,rfl,?_⟩
    generalize upd H' a0 (.tup [.int (i:Int),x])=H1 at bt1 itx hL1 dn1 ⊢
    have hb:∀ x as,t = .of x as→as.length≤1000∧∀ a∈as,a < ls'.length:=fun x as e=>by
      subst e
      refine ⟨hza i x as ht,fun a ha => ?_⟩
      have:=har i x as ht a ha
      omega
    refine ⟨_,rfl,p,rfl,⟨kvs,dn1⟩,_,rfl,_,rfl,x,t,L,ls',rfl,itx,SqL.of hL1,hb,fun v' H2 sm2 hm => ?_⟩
    obtain ⟨b,rfl,nk⟩:=hm.key
    have dn2:=dn1.same sm2
    have hL2:=sm2 _ _ hL1
    have bt2:=bt1.same sm2
    obtain ⟨li,hli⟩:∃ li,ls'[i]? = some li:=⟨_,List.getElem?_eq_getElem (by omega)⟩
    refine ⟨_,rfl,kvs,tmNK (mk ls' t),b,dn2,rfl,nk,small1000 (by omega),fun v hv => ?_,fun hn φ2 dn3 => ?_⟩
    · -- there is one already
      obtain ⟨j,u,m,rfl,hu,hkey,hst⟩:=iA _ _ hv
      have em:m=mk ls' t:=tmNK_inj hkey.symm
      subst em
      have hj:j < ts.length:=(List.getElem?_eq_some_iff.mp hu).1
      obtain ⟨lj,hlj⟩:∃ lj,ls'[j]? = some lj:=⟨_,List.getElem?_eq_getElem (by omega)⟩
      have eq:Eqv ts es j i:=stands_eqv hu ht hst (stands_mk hs' (fun x as e=>(hb x as e).2))
      refine ⟨_,rfl,_,rfl,_,rfl,L,ls',j,i,lj,li,rfl,hL2,hg',by omega,hlj,hli,fun e => ?_,fun e => ?_⟩
      · refine ⟨_,rfl,iteF ⟨ls',jd,kvs,_,_,_,rfl,bt2,hL2,dn2,hg',hs',hk',hlen',hjt,hjf,hsum,by omega,iA,fun hjd j' t' hj' ht' => ?_⟩⟩
        by_cases hji:j' < i
        · exact iB hjd j' t' hji ht'
        · have e':j'=i:=by omega
          subst e'
          rw [ht] at ht';cases ht'
          have el:=hjf hjd
          rw [el] at hv hlj hli
          exact ⟨j,hv,by rw [hlj,hli,e]⟩
      · have e1:Eqv ts es lj li := .trans (.symm (hs' j lj hlj)) (.trans eq (hs' i li hli))
        have g1:=(hg' j lj hlj).2
        have g2:=(hg' i li hli).2
        have eqv:Eqv ts es (max lj li) (min lj li):=by
          rcases Nat.le_total lj li with h | h
          · rw [Nat.max_eq_right h,Nat.min_eq_left h];exact e1.symm
          · rw [Nat.max_eq_left h,Nat.min_eq_right h];exact e1
        have hlo:ls'[min lj li]? = some (min lj li):=by
          rcases Nat.le_total lj li with h | h
          · rw [Nat.min_eq_left h];exact g1
          · rw [Nat.min_eq_right h];exact g2
        have hhi:max lj li∈ls':=by
          rcases Nat.le_total lj li with h | h
          · rw [Nat.max_eq_right h];exact List.mem_of_getElem? g2
          · rw [Nat.max_eq_left h];exact List.mem_of_getElem? g1
        have hlt:min lj li < max lj li:=by omega
        have hsm:=sum_jn hlt hhi
        refine ⟨_,rfl,iteT ?_⟩
        refine ⟨jn ls' (max lj li) (min lj li),true,kvs,_,_,_,rfl,bt2.put,upd_same,dn2.keep (fun φ e=>by rw [upd_ne hpL];exact e) (fun c ys e=>by rw [upd_ne (ne_of e hL2 (fun z=>nomatch z))];exact e),
          good_jn hg' hlo hlt,sound_jn hs' eqv,hk'.trans (keeps_jn _ _ _),by rw [jn_len];exact hlen',fun _=>by omega,(fun z=>nomatch z),by omega,by omega,iA,(fun z=>nomatch z)⟩
    · -- it is the first one
      have hL3:(upd H2 p (.ext φ2)) L=some (.lst (ls'.map nV)):=by rw [upd_ne (Ne.symm hpL)];exact hL2
      refine ⟨_,rfl,_,rfl,_,rfl,L,ls',i,i,li,li,rfl,hL3,hg',by omega,hli,hli,fun _ => ?_,fun z=>absurd rfl z⟩
      refine ⟨_,rfl,iteF ⟨ls',jd,_,_,_,_,rfl,bt2.new hp,hL3,dn3,hg',hs',hk',hlen',hjt,hjf,hsum,by rw [List.length_append];show kvs.length+1≤i+1;omega,fun key v e => ?_,fun hjd j' t' hj' ht' => ?_⟩⟩
      · rw [valV_snoc _ _ _ _ hn] at e
        by_cases hk:key=tmNK (mk ls' t)
        · rw [if_pos hk] at e
          cases e
          exact ⟨i,t,mk ls' t,rfl,ht,hk,stands_mk hs' (fun x as e=>(hb x as e).2)⟩
        · rw [if_neg hk] at e
          exact iA key v e
      · have el:=hjf hjd
        rw [valV_snoc _ _ _ _ hn]
        by_cases hji:j' < i
        · obtain ⟨j2,e1,e2⟩:=iB hjd j' t' hji ht'
          by_cases hk:tmNK (mk ls t')=tmNK (mk ls' t)
          · rw [hk,hn] at e1;cases e1
          · rw [if_neg hk];exact ⟨j2,e1,e2⟩
        · have e':j'=i:=by omega
          subst e'
          rw [ht] at ht';cases ht'
          rw [el,if_pos rfl]
          exact ⟨j',rfl,rfl⟩
  · rintro σ H' ⟨ls',jd,kvs,x4,x5,x6,rfl,bt,hL',dn,hg',hs',hk',hlen',hjt,hjf,hsum,hkl,iA,iB⟩
    refine ⟨_,rfl,q ls' jd H' bt hL' hg' hs' hk' hlen' hjt fun hjd=>⟨hjf hjd,fun i j t u hi hj hm => ?_⟩⟩
    obtain ⟨i',a1,a2⟩:=iB hjd i t (by rw [hut];exact (List.getElem?_eq_some_iff.mp hi).1) hi
    obtain ⟨j',b1,b2⟩:=iB hjd j u (by rw [hut];exact (List.getElem?_eq_some_iff.mp hj).1) hj
    rw [hm,b1] at a1
    have e:i'=j':=by have:=V.int.inj (Option.some.inj a1);omega
    rw [← a2, ← b2,e]
inductive SpClosed (K:PySem.W.Frag) (vs:List V) (H:Hp) (Q:VK):Prop
  | mk (T E:Addr) (us evs:List V) (ts:List Tm) (es:List (Nat × Nat)) (z0:vs = [.ref T,.ref E]) (z1:H T=some (.lst us)) (z2:Tms H us ts) (z3:SqL K H E evs) (z4:Edges H evs es) (z5:Arms ts) (z6:ts.length≤1000) (z7:(∀ (i:Nat) x as,ts[i]? = some (.of x as)→as.length≤1000)) (z8:(∀ a b:Nat,(a,b)∈es→a < ts.length∧b < ts.length)) (z9:∀ L ls H',Same H H'→H L=none→H' L=some (.lst (ls.map nV))→Closed ts es ls→Q (.ref L) H'):SpClosed K vs H Q
noncomputable def spClosed (K:PySem.W.Frag):Sp:=fun vs H Q _=>SpClosed K vs H Q
inductive Iv_closed2 (H:Hp) (T:Addr) (E:Addr) (L:Addr) (ts:List Tm) (es:List (Nat × Nat)) (σ':St) (H':Hp):Prop
  | mk:∀ (ls:List Nat) (x3:Option V),(σ' = [some (.ref T),some (.ref E),some (.ref L),x3])→(Same H H')→(H' L=some (.lst (ls.map nV)))→(GoodL ls)→(Sound ts es ls)→(ls.length=ts.length)→(∀ a b:Nat,(a,b)∈es→ls[a]? = ls[b]?)→Iv_closed2 H T E L ts es σ' H'
inductive Iv_closed3 (H:Hp) (T:Addr) (E:Addr) (L:Addr) (ts:List Tm) (es:List (Nat × Nat)) (i:Nat) (σ':St) (H':Hp):Prop
  | mk:∀ (ls:List Nat) (x3:Option V),(σ' = [some (.ref T),some (.ref E),some (.ref L),x3])→(Same H H')→(H' L=some (.lst (ls.map nV)))→(GoodL ls)→(Sound ts es ls)→(ls.length=ts.length)→(∀ (j a b:Nat),j < i→es[j]? = some (a,b)→ls[a]? = ls[b]?)→Iv_closed3 H T E L ts es i σ' H'
theorem ok_closed (B:Blt mg) (h_join_classes:Has P w K mg base 1 "join_classes" ["leads", "a", "b"] spJoin) (h_join_like:Has P w K mg base 2 "join_like" ["terms", "leads"] (spJoinLike P w)) (D:Def K mg "closed" s_closed ["terms", "edges"]) :
    Has P w K mg base 3 "closed" ["terms", "edges"] (spClosed K):=by
  refine D.has sc_closed (fun vs H Q E h => ?_) (fun f cdv A outer s H vs Q E hr h => ?_)
  · obtain ⟨T,E,us,evs,ts,es,rfl,_⟩:=h;rfl
  obtain ⟨T,E,us,evs,ts,es,rfl,hT,hts,hE,hes,har,hz,hza,hee,q⟩:=h
  refine ⟨_,(pss_cons (ps_set (i:=2) sc_closed.nd rfl (Or.inl rfl) (pe_callTy (call_list_rng rfl) rfl B.list_ boot_list_ (pa_cons (pe_callTy call_range1V rfl B.range_ PyProof.Rows.boot_range (pa_cons (pe_callB call_len_seq rfl B.len_ PySem.boot_len (pa_cons (pv 0) pa_nil)) pa_nil)) pa_nil)))
    (pss_cons (ps_for PassesOwn.never rfl (pi_list (pv 1)) (pg_name (i:=3) sc_closed.nd rfl (Or.inl rfl))
    (pss_one (ps_expr (pe_callH h_join_classes hr (by omega) rfl (pa_cons (pv 2) (pa_cons (pe_ix ix_tup (pv 3) pe_int (fun _ _=>rfl)) (pa_cons (pe_ix ix_tup (pv 3) pe_int (fun _ _=>rfl)) pa_nil)))))))
    (pss_cons (ps_while PassesOwn.never (pt_val (pe_callH h_join_like hr (by omega) rfl (pa_cons (pv 0) (pa_cons (pv 2) pa_nil))))
    (pss_one ps_pass))
    (pss_one (ps_ret (pv 2)))))),?_⟩
  try dsimp only [cxOf]
  have hut:=Paired.length hts
  have hue:=Paired.length hes
  refine ⟨_,rfl,T,us,rfl,.inl (SqL.of hT),_,rfl,fun r hr0=>⟨r,us.length,rfl,upd_same,by omega,fun L hL0 => ?_⟩⟩
  dsimp only [gName]
  have hLH:H L=none:=by
    by_cases e:L=r
    · rw [e];exact hr0
    · rw [upd_ne e] at hL0;exact hL0
  have sm0:Same H (upd (upd H r (.rng 0 ((us.length:Nat):Int))) L (.lst ((List.range us.length).map fun i:Nat=>V.int (i:Int)))):=(same_new hr0 _).trans (same_new hL0 _)
  have hL1:(upd (upd H r (.rng 0 ((us.length:Nat):Int))) L (.lst ((List.range us.length).map fun i:Nat=>V.int (i:Int)))) L=some (.lst ((List.range ts.length).map nV)):=by rw [upd_same,hut]
  generalize (upd (upd H r (.rng 0 ((us.length:Nat):Int))) L (.lst ((List.range us.length).map fun i:Nat=>V.int (i:Int))))=H1 at sm0 hL1 ⊢
  have hTL:T≠L:=fun e=>by rw [e,hLH] at hT;cases hT
  refine rd_cut (Iv_closed2 H T E L ts es) ?_ (fun key => ?_)
  · rintro σ' H2 ⟨ls,x3,rfl,sm2,hL2,hg2,hs2,hlen2,hed2⟩
    refine ⟨fun m σ' H'=>∃ (ls:List Nat),m=ls.sum ∧ σ' = [some (.ref T),some (.ref E),some (.ref L),x3]∧Same H H'∧H' L=some (.lst (ls.map nV))∧GoodL ls∧Sound ts es ls∧ls.length=ts.length∧∀ a b:Nat,(a,b)∈es→ls[a]? = ls[b]?,
      ⟨_,ls,rfl,rfl,sm2,hL2,hg2,hs2,hlen2,hed2⟩,?_⟩
    rintro m σ' H3 ⟨ls,rfl,rfl,sm3,hL3,hg3,hs3,hlen3,hed3⟩
    refine ⟨_,rfl,_,rfl,T,L,us,ts,ls,es,rfl,sm3 _ _ hT,tms_same sm3 hts,hL3,hTL,hg3,hs3,har,hlen3,hz,hza,fun ls' b H4 bt hL4 hg4 hs4 hk4 hlen4 hbt hbf => ?_⟩
    have sm4:Same H H4:=fun c o h=>bt c o (fun e=>by rw [e,hLH] at h;cases h) (sm3 c o h)
    have hed4:∀ a b:Nat,(a,b)∈es→ls'[a]? = ls'[b]? := fun a b h=>by
      obtain ⟨h1,h2⟩:=hee a b h
      obtain ⟨v,hv⟩:∃ v,ls[a]? = some v:=⟨_,List.getElem?_eq_getElem (by omega)⟩
      obtain ⟨u,e1,e2⟩:=hk4 a b v hv (by rw [← hed3 a b h];exact hv)
      rw [e1,e2]
    refine ⟨_,rfl,?_⟩
    cases b with
    | true =>
      refine iteT ⟨fun σ' H'=>∃ m',m' < ls.sum∧∃ (ls:List Nat),m'=ls.sum ∧ σ' = [some (.ref T),some (.ref E),some (.ref L),x3]∧Same H H'∧H' L=some (.lst (ls.map nV))∧GoodL ls∧Sound ts es ls∧ls.length=ts.length∧∀ a b:Nat,(a,b)∈es→ls[a]? = ls[b]?,fun σ' H' h=>h,?_⟩
      exact ⟨_,hbt rfl,ls',rfl,rfl,sm4,hL4,hg4,hs4,by omega,hed4⟩
    | false =>
      obtain ⟨el,hm⟩:=hbf rfl
      refine iteF ⟨_,rfl,q L ls' H4 sm4 hLH hL4 ⟨by omega,hg4,hs4,fun i j hi hj e => ?_⟩⟩
      rw [el]
      exact complete har hee hlen3 hed3 hm e
  · refine ⟨_,rfl,E,rfl,⟨evs,sm0.seq hE⟩,?_⟩
    refine for_list (xs:=evs) (Iv_closed3 H T E L ts es)
      ⟨_,none,rfl,sm0,hL1,good_id _,sound_id _ _ _,List.length_range,fun j a b hj=>absurd hj (Nat.not_lt_zero _)⟩ ?_ ?_ ?_
    · rintro i σ' H' _ ⟨ls,x3,rfl,sm,_⟩
      exact sm.seq hE
    · rintro i x σ' H' hx ⟨ls,x3,rfl,sm,hL',hg',hs',hlen',hed'⟩
      obtain ⟨⟨a,b⟩,he,ea,rest,rfl,hea⟩:=edges_at hes hx
      have hea':=sm _ _ hea
      obtain ⟨ha,hb⟩:=hee a b (List.mem_of_getElem? he)
      obtain ⟨la,hla⟩:∃ la,ls[a]? = some la:=⟨_,List.getElem?_eq_getElem (by omega)⟩
      obtain ⟨lb,hlb⟩:∃ lb,ls[b]? = some lb:=⟨_,List.getElem?_eq_getElem (by omega)⟩
      refine ⟨_,rfl,_,rfl,ea,_,0,_,rfl,rfl,SqT.of hea',atI_nat (j:=0) rfl,_,rfl,ea,_,1,_,rfl,rfl,SqT.of hea',atI_nat (j:=1) rfl,L,ls,a,b,la,lb,rfl,hL',hg',by omega,hla,hlb,fun e => ?_,fun e => ?_⟩
      · refine ⟨ls,_,rfl,sm,hL',hg',hs',hlen',fun j c d hj hcd => ?_⟩
        by_cases hji:j < i
        · exact hed' j c d hji hcd
        · have e':j=i:=by omega
          subst e'
          rw [he] at hcd;cases hcd
          rw [hla,hlb,e]
      · have e1:Eqv ts es la lb := .trans (.symm (hs' a la hla)) (.trans (.edge (List.mem_of_getElem? he)) (hs' b lb hlb))
        have g1:=(hg' a la hla).2
        have g2:=(hg' b lb hlb).2
        have eqv:Eqv ts es (max la lb) (min la lb):=by
          rcases Nat.le_total la lb with h | h
          · rw [Nat.max_eq_right h,Nat.min_eq_left h];exact e1.symm
          · rw [Nat.max_eq_left h,Nat.min_eq_right h];exact e1
        have hlo:ls[min la lb]? = some (min la lb):=by
          rcases Nat.le_total la lb with h | h
          · rw [Nat.min_eq_left h];exact g1
          · rw [Nat.min_eq_right h];exact g2
        have hlt:min la lb < max la lb:=by omega
        refine ⟨jn ls (max la lb) (min la lb),_,rfl,sm.put hLH,upd_same,good_jn hg' hlo hlt,sound_jn hs' eqv,by rw [jn_len];exact hlen',fun j c d hj hcd => ?_⟩
        by_cases hji:j < i
        · have:=hed' j c d hji hcd
          rw [jn_at,jn_at,this]
        · have e':j=i:=by omega
          subst e'
          rw [he] at hcd;cases hcd
          rw [jn_at,jn_at,hla,hlb]
          show some _=some _
          unfold ren
          by_cases h:la≤lb
          · rw [Nat.max_eq_right h,Nat.min_eq_left h,if_neg e,if_pos rfl]
          · rw [Nat.max_eq_left (by omega),Nat.min_eq_right (by omega),if_pos rfl,if_neg (fun z=>e z.symm)]
    · rintro σ' H' ⟨ls,x3,rfl,sm,hL',hg',hs',hlen',hed'⟩
      refine key _ _ ⟨ls,x3,rfl,sm,hL',hg',hs',hlen',fun a b h => ?_⟩
      obtain ⟨j,hj⟩:=List.mem_iff_getElem?.mp h
      exact hed' j a b (by rw [hue];exact (List.getElem?_eq_some_iff.mp hj).1) hj
end

section
variable {P:Program} {w:World} {K:PySem.W.Frag} {mg:Str→Option Value} {base:Heap}
inductive SpWord2 (vs:List V) (H:Hp) (Q:VK):Prop
  | mk (c h:Int) (z0:vs = [.int c,.int h]) (z1:∀ z:Str,z.length≤8→Q (.str z) H):SpWord2  vs H Q
noncomputable def spWord2:Sp:=fun vs H Q _=>SpWord2  vs H Q
theorem ok_word2 (D:Def K mg "_law_word" s_word ["_law_cell", "_law_head"]):Has P w K mg base 1 "_law_word" ["_law_cell", "_law_head"] spWord2:=by
  refine D.has sc_word (fun vs H Q E h => ?_) (fun f cdv A outer s H vs Q E hr h => ?_)
  · obtain ⟨c,h',rfl,_⟩:=h;rfl
  obtain ⟨c,hd,rfl,q⟩:=h
  refine ⟨_,(pss_cons (ps_set (i:=2) sc_word.nd rfl (Or.inl rfl) pe_str)
    (pss_cons (ps_set (i:=3) sc_word.nd rfl (Or.inl rfl) (pe_op op_mod (pe_op op_mul (pv 0) pe_int) pe_int))
    (pss_cons (ps_set (i:=4) sc_word.nd rfl (Or.inl rfl) (pe_op op_add pe_int (pe_op op_mod (pv 3) pe_int)))
    (pss_cons (ps_if (pt_cmpR op_eq (pe_op op_mod (pv 1) pe_int) pe_int (nomark _)) (pss_one (ps_set (i:=4) sc_word.nd rfl (Or.inl rfl) (pe_op op_add pe_int (pe_op op_mod (pe_op op_fdiv (pv 1) pe_int) pe_int)))) pss_nil)
    (pss_cons (ps_set (i:=5) sc_word.nd rfl (Or.inl rfl) (pe_op op_mod (pe_op op_fdiv (pv 3) pe_int) (pv 4)))
    (pss_cons (ps_set (i:=6) sc_word.nd rfl (Or.inl rfl) (pe_ix ix_str (pv 2) (pe_op op_mod (pe_op op_fdiv (pv 1) pe_int) pe_int) (fun _ _=>rfl)))
    (pss_one (ps_ret (pe_op op_add_str (pe_op op_add_str (pe_op op_mul_str0 (pv 6) (pv 5)) (pe_ix ix_str (pv 2) (pe_op op_mod (pe_op op_fdiv (pv 3) pe_int) pe_int) (fun _ _=>rfl))) (pe_op op_mul_str0 (pv 6) (pe_op op_sub (pe_op op_sub (pv 4) pe_int) (pv 5)))))))))))),?_⟩
  try dsimp only [cxOf]
  refine ⟨_,rfl,_,_,rfl,rfl,.inr ⟨by decide,by decide⟩,_,_,rfl,rfl,pos',?_⟩
  dsimp only [gName]
  generalize c * 69621 % 2147483587=m
  have b0:0≤m % 8:=Int.emod_nonneg _ (by decide)
  have b1:m % 8 < 8:=Int.emod_lt_of_pos _ (by decide)
  have d0:0≤hd / 2 % 8:=Int.emod_nonneg _ (by decide)
  have d1:hd / 2 % 8 < 8:=Int.emod_lt_of_pos _ (by decide)
  refine ⟨_,rfl,_,_,rfl,rfl,pos',_,_,rfl,rfl,?_⟩
  dsimp only [gName]
  refine rd_cut (fun σ' H'=>∃ n:Int, σ' = [some (.int c),some (.int hd),some (.str "abcdefghijklmnopqrstuvwxyz"),some (.int m),some (.int n),none,none]∧H'=H∧1≤n∧n≤8) ?_ (fun key => ?_)
  rotate_left
  · refine ⟨_,rfl,_,_,rfl,rfl,pos',rfl,_,rfl,iteD (fun _ => ?_) (fun _ => ?_)⟩
    · refine ⟨_,rfl,_,_,rfl,rfl,div',_,_,rfl,rfl,pos',_,_,rfl,rfl,?_⟩
      exact key _ _ ⟨_,rfl,rfl,by omega,by omega⟩
    · exact key _ _ ⟨_,rfl,rfl,by omega,by omega⟩
  rintro σ' H' ⟨n,rfl,rfl,h1,h8⟩
  have c0:0≤m / 8 % n:=Int.emod_nonneg _ (by omega)
  have c1:m / 8 % n < n:=Int.emod_lt_of_pos _ (by omega)
  have z1:=abcF_at (hd / 16)
  have z2:=abcF_at (m / 64)
  have hz:("abcdefghijklmnopqrstuvwxyz" : Str).length≤sizeLine:=by decide +kernel
  refine ⟨_,rfl,_,_,rfl,rfl,div',_,rfl,_,_,rfl,rfl,(show (0:Int) < n by omega),?_⟩
  dsimp only [gName]
  generalize m / 8 % n=pl at c0 c1
  refine ⟨_,rfl,_,rfl,_,_,rfl,rfl,div',_,_,rfl,rfl,pos',_,_,_,rfl,rfl,hz,z1,?_⟩
  dsimp only [gName]
  have l1:∀ i,(letF i).length=1:=fun i=>rfl
  have m1:=timesS_len (letF (hd / 16)) pl.toNat
  have m2:=timesS_len (letF (hd / 16)) (n - 1 - pl).toNat
  rw [l1,Nat.mul_one] at m1 m2
  have big:(1000:Nat)≤sizeLine:=by decide
  have l1':∀ c:Nat,(⟨#[c]⟩:Str).length=1:=fun c=>rfl
  refine ⟨_,rfl,_,rfl,_,_,rfl,rfl,c0,by omega,(by rw [l1'];decide),_,rfl,_,rfl,_,_,rfl,rfl,div',_,_,rfl,rfl,pos',_,_,_,rfl,rfl,hz,z2,_,_,rfl,rfl,?_,?_⟩
  · show (timesS (letF (hd / 16)) _).length+(letF (m / 64)).length≤sizeLine
    rw [m1,l1];omega
  refine ⟨_,rfl,_,rfl,_,_,rfl,rfl,_,rfl,_,_,rfl,rfl,_,_,rfl,rfl,by omega,by omega,(by rw [l1'];decide),_,_,rfl,rfl,?_,q _ ?_⟩
  · show (timesS (letF (hd / 16)) _ ++ letF (m / 64)).length+(timesS (letF (hd / 16)) _).length≤sizeLine
    rw [Str.length_append,m1,m2,l1];omega
  · show (timesS (letF (hd / 16)) _ ++ letF (m / 64) ++ timesS (letF (hd / 16)) _).length≤8
    rw [Str.length_append,Str.length_append,m1,m2,l1];omega
noncomputable abbrev BitsOk (c:Int):Prop:=Builtin.Int.intBits c≤2000000
inductive SpNumber (vs:List V) (H:Hp) (Q:VK):Prop
  | mk (c:Int) (z0:vs = [.int c]) (z1:BitsOk c) (z2:∀ n:Int,n.natAbs < 10 ^ 60→Q (.int n) H):SpNumber  vs H Q
noncomputable def spNumber:Sp:=fun vs H Q _=>SpNumber  vs H Q
theorem ok_number (D:Def K mg "_law_number" s_number ["_law_cell"]):Has P w K mg base 1 "_law_number" ["_law_cell"] spNumber:=by
  refine D.has sc_number (fun vs H Q E h => ?_) (fun f cdv A outer s H vs Q E hr h => ?_)
  · obtain ⟨c,rfl,_⟩:=h;rfl
  obtain ⟨c,rfl,hb,q⟩:=h
  refine ⟨_,(pss_cons (ps_set (i:=1) sc_number.nd rfl (Or.inl rfl) (pe_op op_mod (pe_op op_mul (pv 0) pe_int) pe_int))
    (pss_cons (ps_if (pt_cmpR op_eq (pe_op op_mod (pv 1) pe_int) pe_int (nomark _)) (pss_one (ps_ret (pe_op op_sub (pe_op op_mod (pe_op op_mulB (pv 0) (pe_op op_add (pe_op op_mul pe_int (pe_op op_pow pe_int pe_int)) pe_int)) (pe_op op_sub (pe_op op_mul pe_int (pe_op op_pow pe_int pe_int)) pe_int)) (pe_op op_sub (pe_op op_pow pe_int pe_int) pe_int)))) pss_nil)
    (pss_one (ps_ret (pe_op op_sub (pe_op op_mod (pe_op op_fdiv (pv 1) pe_int) pe_int) pe_int))))),?_⟩
  try dsimp only [cxOf]
  refine ⟨_,rfl,_,_,rfl,rfl,.inr ⟨by decide,by decide⟩,_,_,rfl,rfl,pos',?_⟩
  dsimp only [gName]
  generalize c * 40014 % 2147483563=m
  refine ⟨_,rfl,_,_,rfl,rfl,pos',rfl,_,rfl,iteD (fun _ => ?_) (fun _ => ?_)⟩
  · have hm:IntMulOk c (7 * 10 ^ (59:Int).toNat+3):=IntMulOk.of_le (n:=250) hb (intBits_le_iff.mpr (by decide)) (by decide)
    refine ⟨_,rfl,10,59,rfl,rfl,⟨by decide,by decide,by decide⟩,_,_,rfl,rfl,.inl ⟨by decide,by decide⟩,_,_,rfl,rfl,_,_,rfl,rfl,hm,?_⟩
    refine ⟨10,60,rfl,rfl,⟨by decide,by decide,by decide⟩,_,_,rfl,rfl,.inl ⟨by decide,by decide⟩,_,_,rfl,rfl,_,_,rfl,rfl,(by show (0:Int) < 2 * 10 ^ 60 - 1;decide),10,60,rfl,rfl,⟨by decide,by decide,by decide⟩,_,_,rfl,rfl,_,_,rfl,rfl,?_⟩
    refine q _ ?_
    generalize c * (7 * 10 ^ (59:Int).toNat+3)=x
    have h0:0≤x % (2 * 10 ^ 60 - 1):=Int.emod_nonneg _ (by decide)
    have h1:x % (2 * 10 ^ 60 - 1) < 2 * 10 ^ 60 - 1:=Int.emod_lt_of_pos _ (by decide)
    show (x % (2 * 10 ^ 60 - 1) - (10 ^ 60 - 1)).natAbs < 10 ^ 60
    generalize x % (2 * 10 ^ 60 - 1)=y at h0 h1
    omega
  · have h0:0≤m / 3 % 7:=Int.emod_nonneg _ (by decide)
    have h1:m / 3 % 7 < 7:=Int.emod_lt_of_pos _ (by decide)
    refine ⟨_,rfl,_,_,rfl,rfl,div',_,_,rfl,rfl,pos',_,_,rfl,rfl,q _ ?_⟩
    show (m / 3 % 7 - 3).natAbs < 10 ^ 60
    generalize m / 3 % 7=y at h0 h1
    omega
theorem atI_ex {xs:List V} {i:Int} (h0:0≤i) (h1:i < xs.length):∃ v,atI xs i=some v∧v∈xs:=by
  have hi:i.toNat < xs.length:=by omega
  have z:atI xs ((i.toNat:Nat):Int)=some xs[i.toNat]:=atI_nat (List.getElem?_eq_getElem hi)
  rw [show ((i.toNat:Nat):Int)=i by omega] at z
  exact ⟨_,z,List.getElem_mem hi⟩
theorem cut_int {xs:List V} {n:Int} (h0:0≤n) (h1:n≤xs.length):cutV xs none (some n)=xs.take n.toNat:=by
  have:=cut_take (xs:=xs) (k:=n.toNat) (by omega)
  rwa [show ((n.toNat:Nat):Int)=n by omega] at this
noncomputable def TmOk (many:Nat) (t:Tm):Prop := ∀ x as,t = .of x as→as.length≤4∧1≤as.length∧∀ a∈as,a < many
inductive SpKnot (vs:List V) (H:Hp) (Q:VK):Prop
  | mk (c:Int) (many:Nat) (h:Int) (z0:vs = [.int c,nV many,.int h]) (z1:0 < many) (z2:∀ v H' t,Same H H'→IsTm H' t v→TmOk many t→Q v H'):SpKnot  vs H Q
noncomputable def spKnot:Sp:=fun vs H Q _=>SpKnot  vs H Q
theorem ok_knot (B:Blt mg) (h_word:Has P w K mg base 1 "_law_word" ["_law_cell", "_law_head"] spWord2) (D:Def K mg "_law_knot" s_knot ["_law_cell", "_law_many", "_law_head"]):Has P w K mg base 2 "_law_knot" ["_law_cell", "_law_many", "_law_head"] spKnot:=by
  refine D.has sc_knot (fun vs H Q E h => ?_) (fun f cdv A outer s H vs Q E hr h => ?_)
  · obtain ⟨c,many,h',rfl,_⟩:=h;rfl
  obtain ⟨c,many,hd,rfl,hm,q⟩:=h
  refine ⟨_,(pss_cons (ps_set (i:=3) sc_knot.nd rfl (Or.inl rfl) (pe_op op_mod (pe_op op_mul (pv 0) pe_int) pe_int))
    (pss_cons (ps_set (i:=4) sc_knot.nd rfl (Or.inl rfl) (pe_ix ix_list (pe_lst (pa_strsB (L := ["plus", "times", "neg", "bind", "plus", "bind"]) (by decide +kernel))) (pe_op op_mod (pv 3) pe_int) (fun _ _=>rfl)))
    (pss_cons (ps_set (i:=5) sc_knot.nd rfl (Or.inl rfl) (pe_op op_sub pe_int (pe_callTy call_intB rfl B.int_ boot_int_ (pa_cons (pe_cmpR op_eq (pv 4) pe_str (nomark _)) pa_nil))))
    (pss_cons (ps_if (pt_cmpR op_gt (pe_op op_mod (pe_op op_fdiv (pv 3) pe_int) pe_int) pe_int (nomark _)) (pss_one (ps_set (i:=5) sc_knot.nd rfl (Or.inl rfl) (pe_op op_add pe_int (pe_op op_mod (pe_op op_fdiv (pv 3) pe_int) pe_int)))) pss_nil)
    (pss_cons (ps_if (pt_cmpR op_eq (pe_op op_mod (pe_op op_fdiv (pv 3) pe_int) pe_int) pe_int (nomark _)) (pss_one (ps_set (i:=4) sc_knot.nd rfl (Or.inl rfl) (pe_callH h_word hr (by omega) rfl (pa_cons (pe_op op_mod (pe_op op_fdiv (pv 3) pe_int) pe_int) (pa_cons (pv 2) pa_nil))))) pss_nil)
    (pss_cons (ps_set (i:=6) sc_knot.nd rfl (Or.inl rfl) (pe_slice sl_list (pe_lst (pa_intsB (L := [40692,39373,69069,30323]) (by decide +kernel))) po_none (po_some (pv 5))))
    (pss_one (ps_ret (pe_tup (pa_cons pe_str (pa_cons (pv 4) (pa_cons (pe_callTy call_tuple_of rfl B.tuple_ boot_tuple_ (pa_cons (pe_comp (te:=(tOp _ (tOp _ (tOp _ _ _) _) _)) (own := ["_law_factor"]) (caps := [("_law_many",1),("_law_cell",0)]) (comp_scope (defScope s_knot) ["_law_cell", "_law_many", "_law_head", "_law_m", "_law_word_here", "_law_count", "_law_factors"] rfl rfl rfl (by decide +kernel)) (pi_list (pv 6)) rfl (fun _ _ _=>pg_name (i:=0) (show (["_law_factor", "_law_many", "_law_cell"]:List Str).Nodup by decide +kernel) rfl (Or.inl rfl)) (fun _ _ _=>(pe_op op_mod (pe_op op_mod (pe_op op_mulB (pv 2) (pv 0)) pe_int) (pv 1)))) pa_nil)) pa_nil)))))))))))),?_⟩
  try dsimp only [cxOf]
  refine ⟨_,rfl,_,_,rfl,rfl,.inr ⟨by decide,by decide⟩,_,_,rfl,rfl,pos',?_⟩
  dsimp only [gName]
  generalize c * 16807 % 2147483629=m
  have b0:0≤m % 6:=Int.emod_nonneg _ (by decide)
  have b1:m % 6 < 6:=Int.emod_lt_of_pos _ (by decide)
  refine ⟨(show 6≤sizeLine by decide),fun p hp => ?_⟩
  have s0:=same_new hp (.lst ((["plus", "times", "neg", "bind", "plus", "bind"]:List Str).map V.str))
  have hP:=upd_same (H:=H) (a:=p) (o := .lst ((["plus", "times", "neg", "bind", "plus", "bind"]:List Str).map V.str))
  generalize upd H p (.lst ((["plus", "times", "neg", "bind", "plus", "bind"]:List Str).map V.str))=H0 at s0 hP ⊢
  obtain ⟨v,hv,hvm⟩:=atI_ex (xs:=(["plus", "times", "neg", "bind", "plus", "bind"]:List Str).map V.str) b0 (by show m % 6 < 6;exact b1)
  obtain ⟨wd,_,rfl⟩:=List.mem_map.mp hvm
  refine ⟨_,rfl,_,_,rfl,rfl,pos',p,_,_,_,rfl,rfl,SqL.of hP,hv,?_⟩
  dsimp only [gName]
  clear hv hvm hP
  refine ⟨_,rfl,rfl,_,rfl,_,_,rfl,rfl,?_⟩
  dsimp only [gName]
  have k1:∀ bb:Bool,1≤2 - (if bb=true then (1:Int) else 0)∧2 - (if bb=true then (1:Int) else 0)≤4:=fun bb=>by cases bb <;> decide
  have k2:=k1 (decide (V.str wd=V.str "neg"))
  generalize (2:Int) - (if decide (V.str wd=V.str "neg")=true then (1:Int) else 0)=cn at k2 ⊢
  refine rd_cut (fun σ' H'=>∃ n:Int, σ' = [some (.int c),some (nV many),some (.int hd),some (.int m),some (.str wd),some (.int n),none]∧H'=H0∧1≤n∧n≤4) ?_ (fun key => ?_)
  rotate_left
  · refine ⟨_,rfl,_,_,rfl,rfl,div',_,_,rfl,rfl,pos',_,_,rfl,rfl,_,rfl,iteD (fun _ => ?_) (fun _ => ?_)⟩
    · have d0:0≤m / 24 % 4:=Int.emod_nonneg _ (by decide)
      have d1:m / 24 % 4 < 4:=Int.emod_lt_of_pos _ (by decide)
      refine ⟨_,rfl,_,_,rfl,rfl,div',_,_,rfl,rfl,pos',_,_,rfl,rfl,?_⟩
      exact key _ _ ⟨_,rfl,rfl,by omega,by omega⟩
    · exact key _ _ ⟨_,rfl,rfl,k2.1,k2.2⟩
  rintro σ' Ha ⟨n,rfl,rfl,n1,n4⟩
  refine rd_cut (fun σ' H'=>∃ wd:Str, σ' = [some (.int c),some (nV many),some (.int hd),some (.int m),some (.str wd),some (.int n),none]∧H'=Ha) ?_ (fun key => ?_)
  rotate_left
  · refine ⟨_,rfl,_,_,rfl,rfl,div',_,_,rfl,rfl,pos',rfl,_,rfl,iteD (fun _ => ?_) (fun _ => ?_)⟩
    · refine ⟨_,rfl,_,_,rfl,rfl,div',_,_,rfl,rfl,pos',_,rfl,_,_,rfl,fun z _ => ?_⟩
      exact key _ _ ⟨_,rfl,rfl⟩
    · exact key _ _ ⟨_,rfl,rfl⟩
  rintro σ' Hb ⟨wd,rfl,rfl⟩
  refine ⟨(show 4≤sizeLine by decide),fun p2 hp2 => ?_⟩
  have s1:=same_new hp2 (.lst (([40692,39373,69069,30323]:List Int).map V.int))
  have hP2:=upd_same (H:=Hb) (a:=p2) (o := .lst (([40692,39373,69069,30323]:List Int).map V.int))
  generalize upd Hb p2 (.lst (([40692,39373,69069,30323]:List Int).map V.int))=H1 at s1 hP2 ⊢
  refine ⟨_,rfl,_,rfl,p2,_,rfl,SqL.of hP2,fun p3 hp3 => ?_⟩
  dsimp only [gName]
  have ec:cutV (([40692,39373,69069,30323]:List Int).map V.int) none (some n)=(([40692,39373,69069,30323]:List Int).take n.toNat).map V.int:=by
    rw [cut_int (by omega) (by show n≤4;exact n4),List.map_take]
  have hfs:∀ f∈([40692,39373,69069,30323]:List Int).take n.toNat,0≤f∧f < 100000:=fun f hf=>by
    have:=List.mem_of_mem_take hf
    revert this
    simp only [List.mem_cons,List.not_mem_nil,or_false]
    omega
  have hfl:(([40692,39373,69069,30323]:List Int).take n.toNat).length=n.toNat:=by rw [List.length_take];show min n.toNat 4=n.toNat;omega
  rw [ec]
  generalize ([40692,39373,69069,30323]:List Int).take n.toNat=fs at hfs hfl ⊢
  have s2:=same_new hp3 (.lst (fs.map V.int))
  have hP3:=upd_same (H:=H1) (a:=p3) (o := .lst (fs.map V.int))
  generalize upd H1 p3 (.lst (fs.map V.int))=H2 at s2 hP3 ⊢
  refine ⟨_,rfl,_,rfl,p3,rfl,⟨_,SqL.of hP3⟩,?_⟩
  refine comp_list (xs:=fs.map V.int) (fun x => .int (c * vI x % 2147483549 % (many:Int))) (SqL.of hP3) (by rw [List.length_map];omega) (fun x hx H' sm Q' q' => ?_) (fun D1 hD1 => ?_)
  · obtain ⟨f,hf,rfl⟩:=List.mem_map.mp hx
    have:=hfs f hf
    exact ⟨_,rfl,_,rfl,_,_,rfl,rfl,IntMulOk.of_right (intBits_le_64 (by omega) (by omega)),_,_,rfl,rfl,pos',_,rfl,_,_,rfl,rfl,(show (0:Int) < (many:Int) by omega),q'⟩
  have ea:(fs.map V.int).map (fun x=>V.int (c * vI x % 2147483549 % (many:Int)))=(fs.map fun f=>(c * f % 2147483549 % (many:Int)).toNat).map nV:=by
    rw [List.map_map,List.map_map]
    refine List.map_congr_left fun f _ => ?_
    have a1:0≤c * f % 2147483549 % (many:Int):=Int.emod_nonneg _ (by omega)
    show V.int (c * f % 2147483549 % (many:Int))=V.int (((c * f % 2147483549 % (many:Int)).toNat:Nat):Int)
    congr 1
    omega
  rw [ea]
  have hlt:∀ a∈(fs.map fun f=>(c * f % 2147483549 % (many:Int)).toNat),a < many:=fun a ha=>by
    obtain ⟨f,_,rfl⟩:=List.mem_map.mp ha
    have a1:0≤c * f % 2147483549 % (many:Int):=Int.emod_nonneg _ (by omega)
    have a2:c * f % 2147483549 % (many:Int) < many:=Int.emod_lt_of_pos _ (by omega)
    omega
  have hal:(fs.map fun f=>(c * f % 2147483549 % (many:Int)).toNat).length=n.toNat:=by rw [List.length_map,hfl]
  generalize (fs.map fun f=>(c * f % 2147483549 % (many:Int)).toNat)=as at hlt hal ⊢
  refine ⟨D1,_,rfl,.inl ⟨SqL.of upd_same,fun l hl => ?_⟩⟩
  refine ⟨(show 3≤sizeLine by decide),fun t ht=>q _ _ (.of wd as) (s0.trans (s1.trans (s2.trans ((same_new hD1 _).trans ((same_new hl _).trans (same_new ht _)))))) ⟨t,l,rfl,upd_same,?_⟩ fun x as' e => ?_⟩
  · rw [upd_ne (ne_of_none upd_same ht),upd_same]
  · cases e
    exact ⟨by omega,by omega,hlt⟩
end

end K39
namespace K39
open PySem L2 Sw
section
variable {P:Program} {w:World} {K:PySem.W.Frag} {mg:Str→Option Value} {base:Heap}
inductive SpTermM (vs:List V) (H:Hp) (Q:VK):Prop
  | mk (c:Int) (many:Nat) (h:Int) (z0:vs = [.int c,nV many,.int h]) (z1:BitsOk c) (z2:∀ v H' t,Same H H'→IsTm H' t v→TmOk many t→Q v H'):SpTermM  vs H Q
noncomputable def spTermM:Sp:=fun vs H Q _=>SpTermM  vs H Q
theorem leaf_num {many:Nat} {n:Int}:TmOk many (.num n):=fun x as e=>nomatch e
theorem leaf_name {many:Nat} {n:Str}:TmOk many (.name n):=fun x as e=>nomatch e
theorem ok_termM (B:Blt mg) (h_word:Has P w K mg base 1 "_law_word" ["_law_cell", "_law_head"] spWord2) (h_number:Has P w K mg base 1 "_law_number" ["_law_cell"] spNumber) (h_knot:Has P w K mg base 2 "_law_knot" ["_law_cell", "_law_many", "_law_head"] spKnot)
    (D:Def K mg "_law_term" s_term ["_law_cell", "_law_many", "_law_head"]):Has P w K mg base 3 "_law_term" ["_law_cell", "_law_many", "_law_head"] spTermM:=by
  refine D.has sc_term (fun vs H Q E h => ?_) (fun f cdv A outer s H vs Q E hr h => ?_)
  · obtain ⟨c,many,h',rfl,_⟩:=h;rfl
  obtain ⟨c,many,hd,rfl,hb,q⟩:=h
  refine ⟨_,(pss_cons (ps_set (i:=3) sc_term.nd rfl (Or.inl rfl) (pe_op op_mod (pe_op op_mul (pv 0) pe_int) pe_int))
    (pss_cons (ps_if (pt_cmpR op_lt (pe_op op_mod (pv 3) pe_int) pe_int (nomark _)) (pss_one (ps_ret (pe_tup (pa_cons pe_str (pa_cons (pe_callH h_number hr (by omega) rfl (pa_cons (pv 0) pa_nil)) pa_nil))))) pss_nil)
    (pss_cons (ps_if (PW.pt (pw_or (pt_cmpR op_lt (pe_op op_mod (pv 3) pe_int) pe_int (nomark _)) (pw_or1 (pt_cmpR op_eq (pv 1) pe_int (nomark _))))) (pss_cons (ps_if (pt_cmpR op_eq (pe_op op_mod (pe_op op_fdiv (pv 3) pe_int) pe_int) pe_int (nomark _)) (pss_one (ps_ret (pe_tup (pa_cons pe_str (pa_cons (pe_callH h_word hr (by omega) rfl (pa_cons (pe_op op_mod (pe_op op_fdiv (pv 3) pe_int) pe_int) (pa_cons (pv 2) pa_nil))) pa_nil))))) pss_nil)
    (pss_cons (ps_if (pt_cmpR op_eq (pe_op op_mod (pe_op op_fdiv (pv 3) pe_int) pe_int) pe_int (nomark _)) (pss_one (ps_ret (pe_tup (pa_cons pe_str (pa_cons (pe_ix ix_list (pe_lst (pa_strsB (L := ["plus", "times", "neg", "bind"]) (by decide +kernel))) (pe_op op_mod (pe_op op_fdiv (pv 3) pe_int) pe_int) (fun _ _=>rfl)) pa_nil))))) pss_nil)
    (pss_one (ps_ret (pe_tup (pa_cons pe_str (pa_cons (pe_callH h_word hr (by omega) rfl (pa_cons (pv 0) (pa_cons (pv 2) pa_nil))) pa_nil))))))) pss_nil)
    (pss_one (ps_ret (pe_callH h_knot hr (by omega) rfl (pa_cons (pv 0) (pa_cons (pv 1) (pa_cons (pv 2) pa_nil))))))))),?_⟩
  try dsimp only [cxOf]
  refine ⟨_,rfl,_,_,rfl,rfl,.inr ⟨by decide,by decide⟩,_,_,rfl,rfl,pos',?_⟩
  dsimp only [gName]
  generalize c * 48271 % 2147483647=m
  refine ⟨_,rfl,_,_,rfl,rfl,pos',_,_,rfl,rfl,_,rfl,iteD (fun _ => ?_) (fun _ => ?_)⟩
  · refine ⟨_,rfl,c,rfl,hb,fun n _ => ?_⟩
    exact ⟨(show 2≤sizeLine by decide),fun t ht=>q _ _ (.num n) (same_new ht _) ⟨t,rfl,upd_same⟩ leaf_num⟩
  have nm:∀ z:Str,(2:Nat)≤sizeLine∧∀ p,H p=none→Q (.ref p) (upd H p (.tup [.str "name",.str z])):=fun z=>⟨by decide,fun t ht=>q _ _ (.name z) (same_new ht _) ⟨t,rfl,upd_same⟩ leaf_name⟩
  have b0:0≤m / 50 % 4:=Int.emod_nonneg _ (by decide)
  have b1:m / 50 % 4 < 4:=Int.emod_lt_of_pos _ (by decide)
  by_cases h4:m % 10 < 4∨many=0
  · dsimp only [tNext]
    show tIfS _ _ _ _ _ _
    refine rd_if2 (fun b H'=>b=true∧H'=H) (fun Q' hQ' => ?_) (fun H' hR => ?_) (fun H' hR => ?_)
    · refine ⟨_,rfl,_,_,rfl,rfl,pos',_,_,rfl,rfl,_,rfl,iteD (fun _=>hQ' _ _ ⟨rfl,rfl⟩) (fun z => ?_)⟩
      refine ⟨_,rfl,rfl,_,rfl,?_⟩
      have hm:many=0:=by rcases h4 with h | h;exact absurd h z;exact h
      subst hm
      exact hQ' _ _ ⟨by rw [decide_eq_true_iff];rfl,rfl⟩
    · obtain ⟨_,rfl⟩:=hR
      refine ⟨_,rfl,_,_,rfl,rfl,div',_,_,rfl,rfl,pos',rfl,_,rfl,iteD (fun _ => ?_) (fun _ => ?_)⟩
      · exact ⟨_,rfl,_,_,rfl,rfl,div',_,_,rfl,rfl,pos',_,rfl,_,_,rfl,fun z _=>nm z⟩
      refine ⟨_,rfl,_,_,rfl,rfl,div',_,_,rfl,rfl,pos',rfl,_,rfl,iteD (fun _ => ?_) (fun _ => ?_)⟩
      · refine ⟨(show 4≤sizeLine by decide),fun p hp => ?_⟩
        obtain ⟨v,hv,hvm⟩:=atI_ex (xs:=(["plus", "times", "neg", "bind"]:List Str).map V.str) b0 (by show m / 50 % 4 < 4;exact b1)
        obtain ⟨z,_,rfl⟩:=List.mem_map.mp hvm
        refine ⟨_,rfl,_,_,rfl,rfl,div',_,_,rfl,rfl,pos',p,_,_,_,rfl,rfl,SqL.of upd_same,hv,?_⟩
        exact ⟨(show 2≤sizeLine by decide),fun t ht=>q _ _ (.name z) ((same_new hp _).trans (same_new ht _)) ⟨t,rfl,upd_same⟩ leaf_name⟩
      · exact ⟨_,rfl,_,rfl,_,_,rfl,fun z _=>nm z⟩
    · cases hR.1
  · dsimp only [tNext]
    show tIfS _ _ _ _ _ _
    refine rd_if2 (fun b H'=>b=false∧H'=H) (fun Q' hQ' => ?_) (fun H' hR => ?_) (fun H' hR => ?_)
    · refine ⟨_,rfl,_,_,rfl,rfl,pos',_,_,rfl,rfl,_,rfl,iteD (fun z=>absurd (.inl z) h4) (fun z => ?_)⟩
      refine ⟨_,rfl,rfl,_,rfl,?_⟩
      refine hQ' _ _ ⟨?_,rfl⟩
      rw [decide_eq_false_iff_not]
      intro e
      have:=V.int.inj e
      exact h4 (.inr (by omega))
    · cases hR.1
    · obtain ⟨_,rfl⟩:=hR
      exact ⟨_,rfl,_,rfl,_,rfl,c,many,hd,rfl,by omega,q⟩
theorem tsok_snoc {ts:List Tm} {t:Tm} (h:TsOk ts) (ht:TmOk ts.length t) (hn:tmD t ∉ ts.map tmD):TsOk (ts ++ [t]):=by
  have key:∀ (i:Nat) y as,(ts ++ [t])[i]? = some (.of y as)→ts[i]? = some (.of y as)∨(i=ts.length∧t = .of y as):=fun i y as e=>by
    by_cases hi:i < ts.length
    · rw [List.getElem?_append_left hi] at e;exact .inl e
    · rw [List.getElem?_append_right (by omega)] at e
      by_cases h0:i - ts.length=0
      · rw [h0] at e
        exact .inr ⟨by omega,by simpa using e⟩
      · rw [List.getElem?_eq_none (by simp;omega)] at e;cases e
  refine ⟨fun i y as e a ha => ?_,fun i y as e => ?_,?_⟩
  · rcases key i y as e with e' | ⟨rfl,e'⟩
    · exact h.1 i y as e' a ha
    · exact (ht _ _ e').2.2 a ha
  · rcases key i y as e with e' | ⟨rfl,e'⟩
    · exact h.2.1 i y as e'
    · exact ⟨(ht _ _ e').1,(ht _ _ e').2.1⟩
  · rw [List.nodup_append]
    refine ⟨h.2.2,by simp,fun a ha b hb => ?_⟩
    rw [List.mem_singleton.mp hb]
    intro e
    exact hn (List.mem_map.mpr ⟨a,ha,by rw [e]⟩)
noncomputable def EdgeAt4 (H:Hp) (v:V) (e:Nat × Nat):Prop := ∃ a x y,v = .ref a∧H a=some (.tup [nV e.1,nV e.2,x,y])
theorem EdgeAt4.keep {H H':Hp} {v:V} {e:Nat × Nat} (ht:∀ b ys,H b=some (.tup ys)→H' b=some (.tup ys)) (h:EdgeAt4 H v e):EdgeAt4 H' v e:=by
  obtain ⟨a,x,y,z,h⟩:=h
  exact ⟨a,x,y,z,ht _ _ h⟩
theorem EdgeAt4.plain {H:Hp} {v:V} {e:Nat × Nat} (h:EdgeAt4 H v e):EdgeAt H v e:=by
  obtain ⟨a,x,y,z,h⟩:=h
  exact ⟨a,_,z,h⟩
noncomputable abbrev Edges4 (H:Hp):List V→List (Nat × Nat)→Prop:=Paired (EdgeAt4 H)
theorem edges4_keep {H H':Hp} {us:List V} {es:List (Nat × Nat)} (ht:∀ b ys,H b=some (.tup ys)→H' b=some (.tup ys)) (h:Edges4 H us es):Edges4 H' us es:=Paired.mapP h fun _ _ z=>z.keep ht
theorem edges4_plain {H:Hp} {us:List V} {es:List (Nat × Nat)} (h:Edges4 H us es):Edges H us es:=Paired.mapP h fun _ _ z=>z.plain
structure MadeOk (H H':Hp) (T E:Addr) (us evs:List V) (ts:List Tm) (es:List (Nat × Nat)):Prop where
  same:Same H H'
  t0:H T=none
  e0:H E=none
  te:T≠E
  hT:H' T=some (.lst us)
  tms:Tms H' us ts
  hE:H' E=some (.lst evs)
  eds:Edges4 H' evs es
  ok:TsOk ts
  few:ts.length≤24
  lt:∀ a b:Nat,(a,b)∈es→a < ts.length∧b < ts.length
theorem paired_snoc_lt {ts:List Tm} {es:List (Nat × Nat)} {a b:Nat} (h:∀ a b:Nat,(a,b)∈es→a < ts.length∧b < ts.length) (ha:a < ts.length) (hb:b < ts.length):∀ x y:Nat,(x,y)∈es ++ [(a,b)]→x < ts.length∧y < ts.length:=fun x y hm=>by
  rcases List.mem_append.mp hm with hm | hm
  · exact h x y hm
  · have:=List.mem_singleton.mp hm
    cases this
    exact ⟨ha,hb⟩
inductive SpMade (K:PySem.W.Frag) (vs:List V) (H:Hp) (Q:VK):Prop
  | mk (a:Addr) (ns:List Int) (z0:vs = [.ref a]) (z1:SqL K H a (ns.map V.int)) (z2:ns.length≤63) (z3:(∀ c∈ns,BitsOk c)) (z4:∀ p T E us evs ts es H',MadeOk H H' T E us evs ts es→H' p=some (.tup [.ref T,.ref E])→(ns.length=0→ts.length=0)→evs.length≤63→Q (.ref p) H'):SpMade K vs H Q
noncomputable def spMade (K:PySem.W.Frag):Sp:=fun vs H Q _=>SpMade K vs H Q
theorem ok_made (B:Blt mg) (h_term:Has P w K mg base 3 "_law_term" ["_law_cell", "_law_many", "_law_head"] spTermM) (D:Def K mg "_law_made" s_made ["_law_script"]):Has P w K mg base 4 "_law_made" ["_law_script"] (spMade K):=by
  refine D.has sc_made (fun vs H Q E h => ?_) (fun f cdv A outer s H vs Q E hr h => ?_)
  · obtain ⟨a,ns,rfl,_⟩:=h;rfl
  obtain ⟨a,ns,rfl,hS,h63,hbits,q⟩:=h
  refine ⟨_,(pss_cons (ps_set (i:=1) sc_made.nd rfl (Or.inl rfl) pe_int)
    (pss_cons (ps_if (pt_cmpR op_gt (pe_callB call_len_seq rfl B.len_ PySem.boot_len (pa_cons (pv 0) pa_nil)) pe_int (nomark _)) (pss_one (ps_set (i:=1) sc_made.nd rfl (Or.inl rfl) (pe_op op_mod (pe_ix ix_list (pv 0) pe_int (fun _ _=>rfl)) pe_int))) pss_nil)
    (pss_cons (ps_set (i:=2) sc_made.nd rfl (Or.inl rfl) (pe_ix ix_list (pe_lst (pa_cons pe_int (pa_cons pe_int (pa_cons pe_int pa_nil)))) (pe_op op_mod (pv 1) pe_int) (fun _ _=>rfl)))
    (pss_cons (ps_set (i:=3) sc_made.nd rfl (Or.inl rfl) (pe_lst pa_nil))
    (pss_cons (ps_set (i:=4) sc_made.nd rfl (Or.inl rfl) (pe_lst pa_nil))
    (pss_cons (ps_for PassesOwn.never rfl (pi_list (pe_slice sl_list (pv 0) po_none (po_some pe_int))) (pg_name (i:=5) sc_made.nd rfl (Or.inl rfl))
    (pss_cons (ps_if (pt_cmpR op_lt (pe_callB call_len_seq rfl B.len_ PySem.boot_len (pa_cons (pv 3) pa_nil)) pe_int (nomark _)) (pss_cons (ps_set (i:=6) sc_made.nd rfl (Or.inl rfl) (pe_callH h_term hr (by omega) rfl (pa_cons (pv 5) (pa_cons (pe_callB call_len_seq rfl B.len_ PySem.boot_len (pa_cons (pv 3) pa_nil)) (pa_cons (pv 1) pa_nil)))))
    (pss_one (ps_if (pt_cmpR (op_notInD (un101 hr)) (pv 6) (pv 3) (by with_unfolding_all rfl)) (pss_one (ps_expr (pe_bm PySem.F.plainAttrs_list PySem.F.slot_list_append PySem.F.type_list_append mt_append (pv 3) (pa_cons (pv 6) pa_nil)))) pss_nil))) pss_nil)
    (pss_cons (ps_set (i:=7) sc_made.nd rfl (Or.inl rfl) (pe_op op_mod (pe_op op_mul (pv 5) pe_int) pe_int))
    (pss_one (ps_if (pt_cmpR op_eq (pe_op op_mod (pv 7) (pv 2)) pe_int (nomark _)) (pss_cons (ps_set (i:=8) sc_made.nd rfl (Or.inl rfl) (pe_op op_mod (pe_op op_fdiv (pv 7) pe_int) (pe_callB call_len_seq rfl B.len_ PySem.boot_len (pa_cons (pv 3) pa_nil))))
    (pss_cons (ps_set (i:=9) sc_made.nd rfl (Or.inl rfl) (pe_op op_mod (pe_op op_mod (pe_op op_mul (pv 5) pe_int) pe_int) (pe_callB call_len_seq rfl B.len_ PySem.boot_len (pa_cons (pv 3) pa_nil))))
    (pss_one (ps_expr (pe_bm PySem.F.plainAttrs_list PySem.F.slot_list_append PySem.F.type_list_append mt_append (pv 4) (pa_cons (pe_tup (pa_cons (pv 8) (pa_cons (pv 9) (pa_cons (pe_op op_add pe_int (pe_op op_mod (pv 5) (pe_op op_pow pe_int pe_int))) (pa_cons (pe_tup (pa_cons pe_str pa_nil)) pa_nil))))) pa_nil)))))) pss_nil)))))
    (pss_one (ps_ret (pe_tup (pa_cons (pv 3) (pa_cons (pv 4) pa_nil))))))))))),?_⟩
  try dsimp only [cxOf]
  have hnl:(ns.map V.int).length=ns.length:=List.length_map ..
  refine rd_cut (fun σ' H' => σ' = [some (.ref a),some (.int 0),none,none,none,none,none,none,none,none]∧H'=H) ?_ (fun key=>key _ _ ⟨rfl,rfl⟩)
  rintro σ0 H ⟨rfl,rfl⟩
  refine rd_cut (fun σ' H'=>∃ hd:Int, σ' = [some (.ref a),some (.int hd),none,none,none,none,none,none,none,none]∧H'=H) ?_ (fun key => ?_)
  rotate_left
  · refine ⟨_,rfl,a,_,rfl,.inl hS,_,_,rfl,rfl,_,rfl,iteD (fun z => ?_) (fun _ => ?_)⟩
    · rw [hnl] at z
      obtain ⟨v,hv,hvm⟩:=atI_ex (xs:=ns.map V.int) (i:=0) (Int.le_refl _) (by rw [hnl];exact z)
      obtain ⟨c,_,rfl⟩:=List.mem_map.mp hvm
      refine ⟨_,rfl,a,_,_,_,rfl,rfl,hS,hv,_,_,rfl,rfl,pos',?_⟩
      exact key _ _ ⟨_,rfl,rfl⟩
    · exact key _ _ ⟨_,rfl,rfl⟩
  rintro σ' H ⟨hd,rfl,rfl⟩
  refine ⟨(show 3≤sizeLine by decide),fun p hp => ?_⟩
  have b0:0≤hd % 3:=Int.emod_nonneg _ (by decide)
  have b1:hd % 3 < 3:=Int.emod_lt_of_pos _ (by decide)
  have hr3:∃ r:Int,0 < r∧atI ([V.int 3,V.int 7,V.int 20]) (hd % 3)=some (.int r):=by
    rcases (show hd % 3=0∨hd % 3=1∨hd % 3=2 by omega) with e | e | e <;> rw [e]
    · exact ⟨3,by decide,rfl⟩
    · exact ⟨7,by decide,rfl⟩
    · exact ⟨20,by decide,rfl⟩
  obtain ⟨r,hr0,hv⟩:=hr3
  have s0:=same_new hp (.lst [V.int 3,V.int 7,V.int 20])
  refine ⟨_,rfl,_,_,rfl,rfl,pos',p,_,_,_,rfl,rfl,SqL.of upd_same,hv,?_⟩
  dsimp only [gName]
  generalize upd H p (.lst [V.int 3,V.int 7,V.int 20])=H0 at s0 ⊢
  refine ⟨Nat.zero_le _,fun T hT => ?_⟩
  dsimp only [gName]
  have s1:=same_new hT (.lst [])
  have hT1:=upd_same (H:=H0) (a:=T) (o := .lst [])
  generalize upd H0 T (.lst [])=H1 at s1 hT1 ⊢
  refine ⟨Nat.zero_le _,fun E1 hE => ?_⟩
  dsimp only [gName]
  have s2:=same_new hE (.lst [])
  have hE2:=upd_same (H:=H1) (a:=E1) (o := .lst [])
  generalize upd H1 E1 (.lst [])=H2 at s2 hE2 ⊢
  have hTE:T≠E1:=fun e=>by rw [e,hE] at hT1;cases hT1
  have g2:=s0.trans (s1.trans s2)
  have hT0:H T=none:=s0.free hT
  have hE0:H E1=none:=(s0.trans s1).free hE
  refine ⟨_,rfl,_,rfl,a,_,rfl,g2.seq hS,fun sl hsl => ?_⟩
  have hcm:∀ x∈cutV (ns.map V.int) none (some 90),∃ c:Int,x = .int c∧BitsOk c:=fun x hx=>by
    obtain ⟨c,hc,rfl⟩:=List.mem_map.mp (cutV_mem hx)
    exact ⟨c,rfl,hbits c hc⟩
  have hcl:=cutV_length (ns.map V.int) none (some 90)
  rw [hnl] at hcl
  generalize cutV (ns.map V.int) none (some 90)=cs at hcm hcl ⊢
  have s3:=same_new hsl (.lst cs)
  have hsl3:=upd_same (H:=H2) (a:=sl) (o := .lst cs)
  have hTsl:T≠sl:=fun e=>by rw [e] at hT1;have:=s2 _ _ hT1;rw [hsl] at this;cases this
  have hEsl:E1≠sl:=fun e=>by rw [e,hsl] at hE2;cases hE2
  have hT3:=s3 _ _ (s2 _ _ hT1)
  have hE3:=s3 _ _ hE2
  have g3:=g2.trans s3
  generalize upd H2 sl (.lst cs)=H3 at s3 hsl3 hT3 hE3 g3 ⊢
  refine ⟨sl,rfl,⟨_,SqL.of hsl3⟩,?_⟩
  refine for_list (xs:=cs) (fun i σ H'=>∃ (us evs:List V) (ts:List Tm) (es:List (Nat × Nat)) (x5 x6 x7 x8 x9:Option V), σ = [some (.ref a),some (.int hd),some (.int r),some (.ref T),some (.ref E1),x5,x6,x7,x8,x9]∧MadeOk H H' T E1 us evs ts es∧H' sl=some (.lst cs)∧ts.length≤i∧evs.length≤i)
    ⟨[], [], [], [],none,none,none,none,none,rfl,⟨g3,hT0,hE0,hTE,hT3,.nil,hE3,.nil,tsok_nil,Nat.zero_le _,fun a b h=>nomatch h⟩,hsl3,Nat.le_refl _,Nat.le_refl _⟩ ?_ ?_ ?_
  · rintro i σ H' _ ⟨us,evs,ts,es,x5,x6,x7,x8,x9,rfl,mo,h1,_⟩
    exact SqL.of h1
  · rintro i x σ H' hx ⟨us,evs,ts,es,x5,x6,x7,x8,x9,rfl,mo,h1,hti,hei⟩
    obtain ⟨c,rfl,hbc⟩:=hcm x (List.mem_of_getElem? hx)
    have hlen:=Paired.length mo.tms
    have hi:i < cs.length:=(List.getElem?_eq_some_iff.mp hx).1
    show tSeq _ _ _ _ _
    refine rd_cut (fun σ' H4=>∃ (us:List V) (ts:List Tm) (x6 x7:Option V), σ' = [some (.ref a),some (.int hd),some (.int r),some (.ref T),some (.ref E1),some (.int c),x6,x7,x8,x9]∧MadeOk H H4 T E1 us evs ts es∧H4 sl=some (.lst cs)∧ts.length≤i+1∧0 < ts.length) ?_ (fun key => ?_)
    rotate_left
    · refine ⟨_,rfl,T,us,rfl,.inl (SqL.of mo.hT),_,_,rfl,rfl,_,rfl,iteD (fun z => ?_) (fun z => ?_)⟩
      · refine ⟨_,rfl,_,rfl,T,us,rfl,.inl (SqL.of mo.hT),_,rfl,c,us.length,hd,rfl,hbc,fun v H4 t s4 hv htm => ?_⟩
        dsimp only [gName]
        have hT4:=s4 _ _ mo.hT
        have h3':=tms_same s4 mo.tms
        rw [hlen] at htm z
        refine ⟨_,rfl,_,rfl,_,_,hv.den,.inl (by rw [Den];exact ⟨T,us,rfl,hT4,tms_den h3'⟩),Nat.le_trans (tms_deep ts) (by decide),_,rfl,?_⟩
        by_cases hm:tmD t∈ts.map tmD
        · rw [decide_eq_true hm]
          refine iteF (key _ _ ⟨us,ts,_,_,rfl, { mo with same:=mo.same.trans s4,hT:=hT4,tms:=h3',hE:=s4 _ _ mo.hE,eds:=edges4_keep (fun b ys=>s4 _ _) mo.eds },s4 _ _ h1,by omega,?_⟩)
          cases ts with
          | nil=>cases hm
          | cons=>exact Nat.succ_pos _
        · rw [decide_eq_false hm]
          have kp:∀ b ys,H4 b=some (.tup ys)→(upd H4 T (.lst (us ++ [v]))) b=some (.tup ys):=fun b ys e=>by rw [upd_ne (ne_of e hT4 (fun z=>nomatch z))];exact e
          refine iteT ⟨_,rfl,.inl ⟨rfl,_,SqL.of hT4⟩,_,rfl,T,us,v,rfl,rfl,hT4,small1000 (by omega),?_⟩
          refine key _ _ ⟨us ++ [v],ts ++ [t],_,_,rfl,⟨(mo.same.trans s4).put mo.t0,mo.t0,mo.e0,mo.te,upd_same,tms_snoc (tms_keep kp h3') (hv.keep kp),by rw [upd_ne (Ne.symm mo.te)];exact s4 _ _ mo.hE,edges4_keep kp (edges4_keep (fun b ys=>s4 _ _) mo.eds),tsok_snoc mo.ok htm hm,?_,fun x y hxy => ?_⟩,?_,?_,?_⟩
          · rw [List.length_append];show ts.length+1≤24;omega
          · have:=mo.lt x y hxy;rw [List.length_append];omega
          · rw [upd_ne (Ne.symm hTsl)];exact s4 _ _ h1
          · rw [List.length_append];show ts.length+1≤i+1;omega
          · rw [List.length_append];exact Nat.succ_pos _
      · refine key _ _ ⟨us,ts,_,_,rfl,mo,h1,by omega,?_⟩
        rw [hlen] at z
        omega
    rintro σ' H4 ⟨us,ts,x6,x7,rfl,mo,h1,hti,hpos⟩
    have hlen:=Paired.length mo.tms
    refine ⟨_,rfl,_,_,rfl,rfl,.inr ⟨by decide,by decide⟩,_,_,rfl,rfl,pos',?_⟩
    dsimp only [gName]
    generalize c * 45991 % 2147483543=m
    refine ⟨_,rfl,_,rfl,_,_,rfl,rfl,hr0,rfl,_,rfl,iteD (fun _ => ?_) (fun _ => ?_)⟩
    · have hp0:(0:Int) < ((us.length:Nat):Int):=by omega
      have a0:0≤m / 60 % ((us.length:Nat):Int):=Int.emod_nonneg _ (by omega)
      have a1:m / 60 % ((us.length:Nat):Int) < ((us.length:Nat):Int):=Int.emod_lt_of_pos _ hp0
      have c0:0≤c * 62089911 % 4294967291 % ((us.length:Nat):Int):=Int.emod_nonneg _ (by omega)
      have c1:c * 62089911 % 4294967291 % ((us.length:Nat):Int) < ((us.length:Nat):Int):=Int.emod_lt_of_pos _ hp0
      refine ⟨_,rfl,_,_,rfl,rfl,div',_,rfl,T,us,rfl,.inl (SqL.of mo.hT),_,_,rfl,rfl,hp0,?_⟩
      dsimp only [gName]
      refine ⟨_,rfl,_,_,rfl,rfl,.inr ⟨by decide,by decide⟩,_,_,rfl,rfl,pos',_,rfl,T,us,rfl,.inl (SqL.of mo.hT),_,_,rfl,rfl,hp0,?_⟩
      dsimp only [gName]
      obtain ⟨na,ena⟩:∃ na:Nat,m / 60 % ((us.length:Nat):Int)=(na:Int):=⟨_,(Int.toNat_of_nonneg a0).symm⟩
      obtain ⟨nb,enb⟩:∃ nb:Nat,c * 62089911 % 4294967291 % ((us.length:Nat):Int)=(nb:Int):=⟨_,(Int.toNat_of_nonneg c0).symm⟩
      rw [ena] at a1 ⊢
      rw [enb] at c1 ⊢
      refine ⟨_,rfl,.inl ⟨rfl,_,SqL.of mo.hE⟩,?_⟩
      refine ⟨_,rfl,_,rfl,_,rfl,10,12,rfl,rfl,⟨by decide,by decide,by decide⟩,_,_,rfl,rfl,(by show (0:Int) < 10 ^ 12;decide),_,_,rfl,rfl,(show 1≤sizeLine by decide),fun tp htp=>⟨(show 4≤sizeLine by decide),fun te hte => ?_⟩⟩
      have s5:=(same_new htp (.tup [.str "told"])).trans (same_new hte (.tup [nV na,nV nb,.int (1+c % 10 ^ (12:Int).toNat),.ref tp]))
      have hte5:=upd_same (H:=upd H4 tp (.tup [.str "told"])) (a:=te) (o := .tup [nV na,nV nb,.int (1+c % 10 ^ (12:Int).toNat),.ref tp])
      generalize upd (upd H4 tp (.tup [.str "told"])) te (.tup [nV na,nV nb,.int (1+c % 10 ^ (12:Int).toNat),.ref tp])=H5 at s5 hte5 ⊢
      have hE5:=s5 _ _ mo.hE
      have kp:∀ b ys,H5 b=some (.tup ys)→(upd H5 E1 (.lst (evs ++ [.ref te]))) b=some (.tup ys):=fun b ys e=>by rw [upd_ne (ne_of e hE5 (fun z=>nomatch z))];exact e
      refine ⟨E1,evs,_,rfl,rfl,hE5,small1000 (by omega),?_⟩
      refine ⟨us,evs ++ [.ref te],ts,es ++ [(na,nb)],_,_,_,_,_,rfl,⟨(mo.same.trans s5).put mo.e0,mo.t0,mo.e0,mo.te,by rw [upd_ne mo.te];exact s5 _ _ mo.hT,tms_keep kp (tms_same s5 mo.tms),upd_same,Paired.snoc (edges4_keep kp (edges4_keep (fun b ys=>s5 _ _) mo.eds)) ⟨te,_,_,rfl,kp _ _ hte5⟩,mo.ok,mo.few,paired_snoc_lt mo.lt (by omega) (by omega)⟩,?_,hti,?_⟩
      · rw [upd_ne (Ne.symm hEsl)];exact s5 _ _ h1
      · rw [List.length_append];show evs.length+1≤i+1;omega
    · exact ⟨us,evs,ts,es,_,_,_,_,_,rfl,mo,h1,hti,by omega⟩
  · rintro σ H' ⟨us,evs,ts,es,x5,x6,x7,x8,x9,rfl,mo,h1,hti,hei⟩
    refine ⟨_,rfl,_,rfl,(show 2≤sizeLine by decide),fun p hp => ?_⟩
    have s5:=same_new hp (.tup [.ref T,.ref E1])
    refine q p T E1 us evs ts es _ { mo with same:=mo.same.trans s5,hT:=s5 _ _ mo.hT,tms:=tms_same s5 mo.tms,hE:=s5 _ _ mo.hE,eds:=edges4_keep (fun b ys=>s5 _ _) mo.eds } upd_same (fun z=>by omega) (by omega)
end

end K39
namespace K39
open PySem L2 Sw
section
variable {P:Program} {w:World} {K:PySem.W.Frag} {mg:Str→Option Value} {base:Heap} {CS tB:Addr}
noncomputable def isOp (x:Str) (n:Nat):Tm→Bool
  | .of y as=>decide (y=x) && decide (as.length=n)
  | _=>false
structure TopS (K:PySem.W.Frag) (mg:Str→Option Value) (CS tB:Addr):Prop where
  cS:Cls K CS
  nTerms:NoAttr K CS "terms"
  nLeads:NoAttr K CS "leads"
  g_NEGATIVE:∃ t,mg "NEGATIVE" = some (.int 1 t)
  g_NOUGHT:∃ t,mg "NOUGHT" = some (.int 2 t)
  g_POSITIVE:∃ t,mg "POSITIVE" = some (.int 4 t)
  g_ANY_SIGN:∃ t,mg "ANY_SIGN" = some (.int 7 t)
  g_SIGN_BITS:mg "SIGN_BITS" = some (.ref tB)
  bits:∀ H,SqT K H tB [.int 1,.int 2,.int 4]
inductive SpIsOp (x:Str) (n:Nat) (vs:List V) (H:Hp) (Q:VK):Prop
  | mk (v:V) (t:Tm) (z0:vs = [v]) (z1:IsTm H t v) (z2:Q (.bl (isOp x n t)) H):SpIsOp x n vs H Q
noncomputable def spIsOp (x:Str) (n:Nat):Sp:=fun vs H Q _=>SpIsOp x n vs H Q
theorem dec_int {a:Nat} {n:Nat}:decide (V.int ((a:Nat):Int)=V.int ((n:Nat):Int))=decide (a=n):=by
  refine decide_eq_decide.mpr ⟨fun z => ?_,fun z=>by rw [z]⟩
  have:=V.int.inj z;omega
theorem ok_is_sum (B:Blt mg) (D:Def K mg "is_sum" s_is_sum ["term"]):Has P w K mg base 1 "is_sum" ["term"] (spIsOp "plus" 2):=by
  refine D.has sc_is_sum (fun vs H Q E h => ?_) (fun f cdv A outer s H vs Q E hr h => ?_)
  · obtain ⟨v,t,rfl,_⟩:=h;rfl
  obtain ⟨v,t,rfl,hT,q⟩:=h
  refine ⟨_,(pss_one (ps_ret (pe_and (pe_cmpR op_eq (pe_ix ix_tup (pv 0) pe_int (fun _ _=>rfl)) pe_str (nomark _)) (pe_and (pe_cmpR op_eq (pe_ix ix_tup (pv 0) pe_int (fun _ _=>rfl)) pe_str (nomark _)) (pe_one (pe_cmpR op_eq (pe_callB call_len_seq rfl B.len_ PySem.boot_len (pa_cons (pe_ix ix_tup (pv 0) pe_int (fun _ _=>rfl)) pa_nil)) pe_int (nomark _))))))),?_⟩
  try dsimp only [cxOf]
  cases t with
  | num n =>
    obtain ⟨a,rfl,h⟩:=id hT
    exact ⟨_,rfl,a,_,0,_,rfl,rfl,SqT.of h,atI_nat (j:=0) rfl,rfl,_,rfl,iteD (fun z=>absurd (V.str.inj z) (by decide)) (fun _=>q)⟩
  | name n =>
    obtain ⟨a,rfl,h⟩:=id hT
    exact ⟨_,rfl,a,_,0,_,rfl,rfl,SqT.of h,atI_nat (j:=0) rfl,rfl,_,rfl,iteD (fun z=>absurd (V.str.inj z) (by decide)) (fun _=>q)⟩
  | of x as =>
    obtain ⟨a,b,rfl,h,h2⟩:=id hT
    refine ⟨_,rfl,a,_,0,_,rfl,rfl,SqT.of h,atI_nat (j:=0) rfl,rfl,_,rfl,iteD (fun _ => ?_) (fun z=>absurd rfl z)⟩
    have eop:isOp "plus" 2 (.of x as)=(decide (x = "plus") && decide (as.length=2)):=rfl
    rw [eop] at q
    refine ⟨_,rfl,a,_,1,_,rfl,rfl,SqT.of h,atI_nat (j:=1) rfl,rfl,_,rfl,iteD (fun hx => ?_) (fun hx => ?_)⟩
    · refine ⟨_,rfl,a,_,2,_,rfl,rfl,SqT.of h,atI_nat (j:=2) rfl,b,_,rfl,.inr (SqT.of h2),rfl,?_⟩
      have e:decide (V.int (((as.map nV).length:Nat):Int)=V.int 2)=decide (as.length=2):=by rw [List.length_map];exact dec_int (n:=2)
      rw [e]
      rw [decide_eq_true (V.str.inj hx),Bool.true_and] at q
      exact q
    · rw [decide_eq_false (fun z=>hx (by rw [z])),Bool.false_and] at q
      exact q
theorem ok_is_product (B:Blt mg) (D:Def K mg "is_product" s_is_product ["term"]):Has P w K mg base 1 "is_product" ["term"] (spIsOp "times" 2):=by
  refine D.has sc_is_product (fun vs H Q E h => ?_) (fun f cdv A outer s H vs Q E hr h => ?_)
  · obtain ⟨v,t,rfl,_⟩:=h;rfl
  obtain ⟨v,t,rfl,hT,q⟩:=h
  refine ⟨_,(pss_one (ps_ret (pe_and (pe_cmpR op_eq (pe_ix ix_tup (pv 0) pe_int (fun _ _=>rfl)) pe_str (nomark _)) (pe_and (pe_cmpR op_eq (pe_ix ix_tup (pv 0) pe_int (fun _ _=>rfl)) pe_str (nomark _)) (pe_one (pe_cmpR op_eq (pe_callB call_len_seq rfl B.len_ PySem.boot_len (pa_cons (pe_ix ix_tup (pv 0) pe_int (fun _ _=>rfl)) pa_nil)) pe_int (nomark _))))))),?_⟩
  try dsimp only [cxOf]
  cases t with
  | num n =>
    obtain ⟨a,rfl,h⟩:=id hT
    exact ⟨_,rfl,a,_,0,_,rfl,rfl,SqT.of h,atI_nat (j:=0) rfl,rfl,_,rfl,iteD (fun z=>absurd (V.str.inj z) (by decide)) (fun _=>q)⟩
  | name n =>
    obtain ⟨a,rfl,h⟩:=id hT
    exact ⟨_,rfl,a,_,0,_,rfl,rfl,SqT.of h,atI_nat (j:=0) rfl,rfl,_,rfl,iteD (fun z=>absurd (V.str.inj z) (by decide)) (fun _=>q)⟩
  | of x as =>
    obtain ⟨a,b,rfl,h,h2⟩:=id hT
    refine ⟨_,rfl,a,_,0,_,rfl,rfl,SqT.of h,atI_nat (j:=0) rfl,rfl,_,rfl,iteD (fun _ => ?_) (fun z=>absurd rfl z)⟩
    have eop:isOp "times" 2 (.of x as)=(decide (x = "times") && decide (as.length=2)):=rfl
    rw [eop] at q
    refine ⟨_,rfl,a,_,1,_,rfl,rfl,SqT.of h,atI_nat (j:=1) rfl,rfl,_,rfl,iteD (fun hx => ?_) (fun hx => ?_)⟩
    · refine ⟨_,rfl,a,_,2,_,rfl,rfl,SqT.of h,atI_nat (j:=2) rfl,b,_,rfl,.inr (SqT.of h2),rfl,?_⟩
      have e:decide (V.int (((as.map nV).length:Nat):Int)=V.int 2)=decide (as.length=2):=by rw [List.length_map];exact dec_int (n:=2)
      rw [e]
      rw [decide_eq_true (V.str.inj hx),Bool.true_and] at q
      exact q
    · rw [decide_eq_false (fun z=>hx (by rw [z])),Bool.false_and] at q
      exact q
theorem ok_is_opposite (B:Blt mg) (D:Def K mg "is_opposite" s_is_opposite ["term"]):Has P w K mg base 1 "is_opposite" ["term"] (spIsOp "neg" 1):=by
  refine D.has sc_is_opposite (fun vs H Q E h => ?_) (fun f cdv A outer s H vs Q E hr h => ?_)
  · obtain ⟨v,t,rfl,_⟩:=h;rfl
  obtain ⟨v,t,rfl,hT,q⟩:=h
  refine ⟨_,(pss_one (ps_ret (pe_and (pe_cmpR op_eq (pe_ix ix_tup (pv 0) pe_int (fun _ _=>rfl)) pe_str (nomark _)) (pe_and (pe_cmpR op_eq (pe_ix ix_tup (pv 0) pe_int (fun _ _=>rfl)) pe_str (nomark _)) (pe_one (pe_cmpR op_eq (pe_callB call_len_seq rfl B.len_ PySem.boot_len (pa_cons (pe_ix ix_tup (pv 0) pe_int (fun _ _=>rfl)) pa_nil)) pe_int (nomark _))))))),?_⟩
  try dsimp only [cxOf]
  cases t with
  | num n =>
    obtain ⟨a,rfl,h⟩:=id hT
    exact ⟨_,rfl,a,_,0,_,rfl,rfl,SqT.of h,atI_nat (j:=0) rfl,rfl,_,rfl,iteD (fun z=>absurd (V.str.inj z) (by decide)) (fun _=>q)⟩
  | name n =>
    obtain ⟨a,rfl,h⟩:=id hT
    exact ⟨_,rfl,a,_,0,_,rfl,rfl,SqT.of h,atI_nat (j:=0) rfl,rfl,_,rfl,iteD (fun z=>absurd (V.str.inj z) (by decide)) (fun _=>q)⟩
  | of x as =>
    obtain ⟨a,b,rfl,h,h2⟩:=id hT
    refine ⟨_,rfl,a,_,0,_,rfl,rfl,SqT.of h,atI_nat (j:=0) rfl,rfl,_,rfl,iteD (fun _ => ?_) (fun z=>absurd rfl z)⟩
    have eop:isOp "neg" 1 (.of x as)=(decide (x = "neg") && decide (as.length=1)):=rfl
    rw [eop] at q
    refine ⟨_,rfl,a,_,1,_,rfl,rfl,SqT.of h,atI_nat (j:=1) rfl,rfl,_,rfl,iteD (fun hx => ?_) (fun hx => ?_)⟩
    · refine ⟨_,rfl,a,_,2,_,rfl,rfl,SqT.of h,atI_nat (j:=2) rfl,b,_,rfl,.inr (SqT.of h2),rfl,?_⟩
      have e:decide (V.int (((as.map nV).length:Nat):Int)=V.int 1)=decide (as.length=1):=by rw [List.length_map];exact dec_int (n:=1)
      rw [e]
      rw [decide_eq_true (V.str.inj hx),Bool.true_and] at q
      exact q
    · rw [decide_eq_false (fun z=>hx (by rw [z])),Bool.false_and] at q
      exact q
noncomputable def sgnF (n:Int):Int:=if n < 0 then 1 else if n=0 then 2 else 4
inductive SpSgn (vs:List V) (H:Hp) (Q:VK):Prop
  | mk (n:Int) (z0:vs = [.int n]) (z1:Q (.int (sgnF n)) H):SpSgn  vs H Q
noncomputable def spSgn:Sp:=fun vs H Q _=>SpSgn  vs H Q
theorem ok_sign_of_number (Z:TopS K mg CS tB) (D:Def K mg "sign_of_number" s_sign_of_number ["number"]):Has P w K mg base 1 "sign_of_number" ["number"] spSgn:=by
  have g_NEGATIVE:=Z.g_NEGATIVE
  have g_NOUGHT:=Z.g_NOUGHT
  have g_POSITIVE:=Z.g_POSITIVE
  refine D.has sc_sign_of_number (fun vs H Q E h => ?_) (fun f cdv A outer s H vs Q E hr h => ?_)
  · obtain ⟨n,rfl,_⟩:=h;rfl
  obtain ⟨n,rfl,q⟩:=h
  refine ⟨_,(pss_cons (ps_if (pt_cmpR op_lt (pv 0) pe_int (nomark _)) (pss_one (ps_ret (pe_globI g_NEGATIVE rfl))) pss_nil)
    (pss_cons (ps_if (pt_cmpR op_eq (pv 0) pe_int (nomark _)) (pss_one (ps_ret (pe_globI g_NOUGHT rfl))) pss_nil)
    (pss_one (ps_ret (pe_globI g_POSITIVE rfl))))),?_⟩
  try dsimp only [cxOf]
  unfold sgnF at q
  refine ⟨_,rfl,_,_,rfl,rfl,_,rfl,iteD (fun h => ?_) (fun h => ?_)⟩
  · rw [if_pos h] at q;exact q
  · rw [if_neg h] at q
    refine ⟨_,rfl,rfl,_,rfl,iteD (fun h' => ?_) (fun h' => ?_)⟩
    · rw [if_pos (V.int.inj h')] at q;exact q
    · rw [if_neg (fun z=>h' (by rw [z]))] at q;exact q
noncomputable def addS (a b:Int):Int:=if a=2∨a=b then b else if b=2 then a else 7
noncomputable def mulS (a b:Int):Int:=if a=2∨b=2 then 2 else if a=b then 4 else 1
inductive SpCmb (f:Int→Int→Int) (vs:List V) (H:Hp) (Q:VK):Prop
  | mk (a b:Int) (z0:vs = [.int a,.int b]) (z1:Q (.int (f a b)) H):SpCmb f vs H Q
noncomputable def spCmb (f:Int→Int→Int):Sp:=fun vs H Q _=>SpCmb f vs H Q
theorem ok_add_signs (Z:TopS K mg CS tB) (D:Def K mg "add_signs" s_add_signs ["one", "other"]):Has P w K mg base 1 "add_signs" ["one", "other"] (spCmb addS):=by
  have g_NOUGHT:=Z.g_NOUGHT
  have g_ANY_SIGN:=Z.g_ANY_SIGN
  refine D.has sc_add_signs (fun vs H Q E h => ?_) (fun f cdv A outer s H vs Q E hr h => ?_)
  · obtain ⟨a,b,rfl,_⟩:=h;rfl
  obtain ⟨a,b,rfl,q⟩:=h
  refine ⟨_,(pss_cons (ps_if (PW.pt (pw_or (pt_cmpR op_eq (pv 0) (pe_globI g_NOUGHT rfl) (nomark _)) (pw_or1 (pt_cmpR op_eq (pv 0) (pv 1) (nomark _))))) (pss_one (ps_ret (pv 1))) pss_nil)
    (pss_cons (ps_if (pt_cmpR op_eq (pv 1) (pe_globI g_NOUGHT rfl) (nomark _)) (pss_one (ps_ret (pv 0))) pss_nil)
    (pss_one (ps_ret (pe_globI g_ANY_SIGN rfl))))),?_⟩
  try dsimp only [cxOf]
  unfold addS at q
  refine ⟨_,rfl,rfl,_,rfl,iteD (fun h=>iteT ?_) (fun h=>⟨_,rfl,_,rfl,rfl,_,rfl,iteD (fun h' => ?_) (fun h' => ?_)⟩)⟩
  · rw [if_pos (.inl (V.int.inj h))] at q;exact ⟨_,rfl,q⟩
  · rw [if_pos (.inr (V.int.inj h'))] at q;exact ⟨_,rfl,q⟩
  · rw [if_neg (by rintro (z | z);exact h (by rw [z]);exact h' (by rw [z]))] at q
    refine ⟨_,rfl,rfl,_,rfl,iteD (fun h2 => ?_) (fun h2 => ?_)⟩
    · rw [if_pos (V.int.inj h2)] at q;exact ⟨_,rfl,q⟩
    · rw [if_neg (fun z=>h2 (by rw [z]))] at q;exact q
theorem ok_multiply_signs (Z:TopS K mg CS tB) (D:Def K mg "multiply_signs" s_multiply_signs ["one", "other"]):Has P w K mg base 1 "multiply_signs" ["one", "other"] (spCmb mulS):=by
  have g_NEGATIVE:=Z.g_NEGATIVE
  have g_NOUGHT:=Z.g_NOUGHT
  have g_POSITIVE:=Z.g_POSITIVE
  refine D.has sc_multiply_signs (fun vs H Q E h => ?_) (fun f cdv A outer s H vs Q E hr h => ?_)
  · obtain ⟨a,b,rfl,_⟩:=h;rfl
  obtain ⟨a,b,rfl,q⟩:=h
  refine ⟨_,(pss_cons (ps_if (PW.pt (pw_or (pt_cmpR op_eq (pv 0) (pe_globI g_NOUGHT rfl) (nomark _)) (pw_or1 (pt_cmpR op_eq (pv 1) (pe_globI g_NOUGHT rfl) (nomark _))))) (pss_one (ps_ret (pe_globI g_NOUGHT rfl))) pss_nil)
    (pss_cons (ps_if (pt_cmpR op_eq (pv 0) (pv 1) (nomark _)) (pss_one (ps_ret (pe_globI g_POSITIVE rfl))) pss_nil)
    (pss_one (ps_ret (pe_globI g_NEGATIVE rfl))))),?_⟩
  try dsimp only [cxOf]
  unfold mulS at q
  refine ⟨_,rfl,rfl,_,rfl,iteD (fun h=>iteT ?_) (fun h=>⟨_,rfl,rfl,_,rfl,iteD (fun h' => ?_) (fun h' => ?_)⟩)⟩
  · rw [if_pos (.inl (V.int.inj h))] at q;exact q
  · rw [if_pos (.inr (V.int.inj h'))] at q;exact q
  · rw [if_neg (by rintro (z | z);exact h (by rw [z]);exact h' (by rw [z]))] at q
    refine ⟨_,rfl,_,rfl,rfl,_,rfl,iteD (fun h2 => ?_) (fun h2 => ?_)⟩
    · rw [if_pos (V.int.inj h2)] at q;exact q
    · rw [if_neg (fun z=>h2 (by rw [z]))] at q;exact q
noncomputable def stepS (cmb:Int→Int→Int) (f g acc a b:Int):Int:=if (Builtin.bitAnd f a != 0)=true then (if (Builtin.bitAnd g b != 0)=true then Builtin.bitOr acc (cmb a b) else acc) else acc
noncomputable def innS (cmb:Int→Int→Int) (f g acc a:Int) (bs:List Int):Int:=bs.foldl (fun acc b=>stepS cmb f g acc a b) acc
noncomputable def pairS' (cmb:Int→Int→Int) (f g:Int) (as:List Int):Int:=as.foldl (fun acc a=>innS cmb f g acc a [1,2,4]) 0
noncomputable def pairS (cmb:Int→Int→Int) (f g:Int):Int:=pairS' cmb f g [1,2,4]
noncomputable def bitsL:List Int := [1,2,4]
theorem take_foldl {α β : Type} (F : β → α → β) (z : β) {l:List α} {i:Nat} {x : α} (h:l[i]? = some x):(l.take (i+1)).foldl F z=F ((l.take i).foldl F z) x:=by
  rw [List.take_add_one,h,List.foldl_append];rfl
inductive SpPair (P:Program) (w:World) (K:PySem.W.Frag) (mg:Str→Option Value) (base:Heap) (vs:List V) (H:Hp) (Q:VK):Prop
  | mk (f:Addr) (cmb:Int→Int→Int) (a b:Int) (z0:vs = [.ref f,.int a,.int b]) (z1:HasV P w K mg base 1 f ["one", "other"] (spCmb cmb)) (z2:Q (.int (pairS cmb a b)) H):SpPair P w K mg base vs H Q
noncomputable def spPair (P:Program) (w:World) (K:PySem.W.Frag) (mg:Str→Option Value) (base:Heap):Sp:=fun vs H Q _=>SpPair P w K mg base vs H Q
theorem ok_sign_of_pair (Z:TopS K mg CS tB) (D:Def K mg "sign_of_pair" s_sign_of_pair ["combine", "fact", "other_fact"]):Has P w K mg base 2 "sign_of_pair" ["combine", "fact", "other_fact"] (spPair P w K mg base):=by
  have g_SIGN_BITS:=Z.g_SIGN_BITS
  let t_SIGN_BITS:=tB
  refine D.has sc_sign_of_pair (fun vs H Q E h => ?_) (fun f cdv A outer s H vs Q E hr h => ?_)
  · obtain ⟨f,cmb,a,b,rfl,_⟩:=h;rfl
  obtain ⟨f,cmb,a,b,rfl,hf,q⟩:=h
  refine ⟨_,(pss_cons (ps_set (i:=3) sc_sign_of_pair.nd rfl (Or.inl rfl) pe_int)
    (pss_cons (ps_for PassesOwn.never rfl (pi_tup (pe_glob (v := .ref t_SIGN_BITS) rfl g_SIGN_BITS rfl)) (pg_name (i:=4) sc_sign_of_pair.nd rfl (Or.inl rfl))
    (pss_one (ps_for PassesOwn.never rfl (pi_tup (pe_glob (v := .ref t_SIGN_BITS) rfl g_SIGN_BITS rfl)) (pg_name (i:=5) sc_sign_of_pair.nd rfl (Or.inl rfl))
    (pss_one (ps_if (PW.pt (pw_and (pt_truth (pe_op op_and (pv 1) (pv 4)) (fun _=>rfl)) (pw_and1 (pt_truth (pe_op op_and (pv 2) (pv 5)) (fun _=>rfl))))) (pss_one (ps_set (i:=3) sc_sign_of_pair.nd rfl (Or.inl rfl) (pe_op op_or (pv 3) (pe_callV (pv 0) hr (pa_cons (pv 4) (pa_cons (pv 5) pa_nil)))))) pss_nil)))))
    (pss_one (ps_ret (pv 3))))),?_⟩
  try dsimp only [cxOf]
  have hb:=Z.bits H
  refine ⟨tB,rfl,⟨_,hb⟩,?_⟩
  refine for_tup (xs:=bitsL.map V.int) (fun i σ H'=>∃ x4 x5:Option V, σ = [some (.ref f),some (.int a),some (.int b),some (.int (pairS' cmb a b (bitsL.take i))),x4,x5]∧H'=H) ⟨none,none,rfl,rfl⟩ ?_ ?_ ?_
  · rintro i σ H' _ ⟨x4,x5,rfl,rfl⟩
    exact hb
  · rintro i y σ H hy ⟨x4,x5,rfl,rfl⟩
    rw [List.getElem?_map] at hy
    cases e:bitsL[i]? with
    | none=>rw [e] at hy;cases hy
    | some o =>
      rw [e] at hy
      have e1:V.int o=y:=Option.some.inj hy
      subst e1
      have es:pairS' cmb a b (bitsL.take (i+1))=innS cmb a b (pairS' cmb a b (bitsL.take i)) o [1,2,4]:=take_foldl _ _ e
      rw [es]
      generalize pairS' cmb a b (bitsL.take i)=acc
      show tFor _ _ _ _ _ _
      refine ⟨tB,rfl,⟨_,hb⟩,?_⟩
      refine for_tup (xs:=bitsL.map V.int) (fun j σ H'=>∃ x5:Option V, σ = [some (.ref f),some (.int a),some (.int b),some (.int (innS cmb a b acc o (bitsL.take j))),some (.int o),x5]∧H'=H) ⟨x5,rfl,rfl⟩ ?_ ?_ ?_
      · rintro j σ H' _ ⟨x5,rfl,rfl⟩
        exact hb
      · rintro j y σ H' hy ⟨x5,rfl,rfl⟩
        rw [List.getElem?_map] at hy
        cases e':bitsL[j]? with
        | none=>rw [e'] at hy;cases hy
        | some u =>
          rw [e'] at hy
          have e1:V.int u=y:=Option.some.inj hy
          subst e1
          have es:innS cmb a b acc o (bitsL.take (j+1))=stepS cmb a b (innS cmb a b acc o (bitsL.take j)) o u:=take_foldl _ _ e'
          rw [es]
          generalize innS cmb a b acc o (bitsL.take j)=acc2
          show tIfS _ _ _ _ _ _
          refine ⟨_,rfl,_,rfl,_,_,rfl,rfl,_,rfl,?_⟩
          cases h1:(Builtin.bitAnd a o != 0) with
          | false =>
            refine iteF (iteF ⟨some (.int u),?_,rfl⟩)
            unfold stepS
            rw [if_neg (by rw [h1];decide)]
            rfl
          | true =>
            refine iteT ⟨_,rfl,_,rfl,_,_,rfl,rfl,_,rfl,?_⟩
            cases h2:(Builtin.bitAnd b u != 0) with
            | false =>
              refine iteF ⟨some (.int u),?_,rfl⟩
              unfold stepS
              rw [if_pos h1,if_neg (by rw [h2];decide)]
              rfl
            | true =>
              refine iteT ⟨_,rfl,_,rfl,f,_,_,rfl,hf,_,rfl,_,rfl,o,u,rfl,_,_,rfl,rfl,⟨some (.int u),?_,rfl⟩⟩
              unfold stepS
              rw [if_pos h1,if_pos h2]
              rfl
      · rintro σ H' ⟨x5,rfl,rfl⟩
        exact ⟨_,_,rfl,rfl⟩
  · rintro σ H' ⟨x4,x5,rfl,rfl⟩
    exact ⟨_,rfl,q⟩
end

end K39
namespace K39
open PySem L2 Sw
section
variable {P:Program} {w:World} {K:PySem.W.Frag} {mg:Str→Option Value} {base:Heap} {CS tB:Addr}
noncomputable def kgF (ks:List Int) (as:List Nat) (i:Nat):Int:=ks.getD (as.getD i 0) 0
noncomputable def worthS (ks:List Int):Tm→Int
  | .num n=>sgnF n
  | .name _=>7
  | .of x as=>if x = "plus" ∧ as.length=2 then pairS addS (kgF ks as 0) (kgF ks as 1) else if x = "times" ∧ as.length=2 then pairS mulS (kgF ks as 0) (kgF ks as 1) else if x = "neg" ∧ as.length=1 then pairS mulS 1 (kgF ks as 0) else 7
theorem worthS_of (ks:List Int) (x:Str) (as:List Nat):worthS ks (.of x as)=if x = "plus" ∧ as.length=2 then pairS addS (kgF ks as 0) (kgF ks as 1) else if x = "times" ∧ as.length=2 then pairS mulS (kgF ks as 0) (kgF ks as 1) else if x = "neg" ∧ as.length=1 then pairS mulS 1 (kgF ks as 0) else 7:=rfl
theorem isOp_iff {x y:Str} {n:Nat} {as:List Nat}:isOp x n (.of y as)=true↔y=x∧as.length=n:=by
  unfold isOp
  rw [Bool.and_eq_true,decide_eq_true_iff,decide_eq_true_iff]
inductive SpKInit (CS:Addr) (vs:List V) (H:Hp) (Q:VK):Prop
  | mk (o dx T L:Addr) (us ls:List V) (z0:vs = [.ref o,.ref T,.ref L]) (z1:H o=some (.ins CS dx [])) (z2:H T=some (.lst us)) (z3:H L=some (.lst ls)) (z4:∀ H' A1 A2,But o H H'→H A1=none→H A2=none→H' A1=some (.lst us)→H' A2=some (.lst ls)→H' o=some (.ins CS dx [("terms",.ref A1),("leads",.ref A2)])→Q .non H'):SpKInit CS vs H Q
noncomputable def spKInit (CS:Addr):Sp:=fun vs H Q _=>SpKInit CS vs H Q
theorem ok_kinit (B:Blt mg) (Z:TopS K mg CS tB) (D:DefC K mg "Signs" CS "Kind.__init__" s_kinit ["self", "terms", "leads"]):HasC P w K mg base 1 "Signs" CS ["self", "terms", "leads"] (spKInit CS):=by
  refine D.has sc_kinit (fun vs H Q E h => ?_) (fun f cdv A outer s H vs Q E hr h => ?_)
  · obtain ⟨o,dx,T,L,us,ls,rfl,_⟩:=h;rfl
  obtain ⟨o,dx,T,L,us,ls,rfl,ho,hT,hL,q⟩:=h
  refine ⟨_,(pss_cons (ps_fld (pv 0) (pe_callTy call_list_of rfl B.list_ boot_list_ (pa_cons (pv 1) pa_nil)) rfl)
    (pss_one (ps_fld (pv 0) (pe_callTy call_list_of rfl B.list_ boot_list_ (pa_cons (pv 2) pa_nil)) rfl))),?_⟩
  try dsimp only [cxOf]
  refine ⟨_,rfl,T,us,rfl,.inl (SqL.of hT),fun A1 hA1 => ?_⟩
  have hA1o:A1≠o:=fun e=>by rw [e,ho] at hA1;cases hA1
  have hTo:T≠o:=fun e=>by rw [e,ho] at hT;cases hT
  have hLo:L≠o:=fun e=>by rw [e,ho] at hL;cases hL
  have hLA1:L≠A1:=fun e=>by rw [e,hA1] at hL;cases hL
  refine ⟨_,rfl,o,CS,dx,_,rfl,(by rw [upd_ne (Ne.symm hA1o)];exact ho),Z.cS,Z.nTerms,by decide,?_⟩
  have hL2:(upd (upd H A1 (.lst us)) o (.ins CS dx [("terms",.ref A1)])) L=some (.lst ls):=by rw [upd_ne hLo,upd_ne hLA1];exact hL
  refine ⟨_,rfl,L,ls,rfl,.inl (SqL.of hL2),fun A2 hA2 => ?_⟩
  have hA2o:A2≠o:=fun e=>by rw [e,upd_same] at hA2;cases hA2
  have hA2A1:A2≠A1:=fun e=>by rw [e,upd_ne hA1o,upd_same] at hA2;cases hA2
  have hA20:H A2=none:=by rw [upd_ne hA2o,upd_ne hA2A1] at hA2;exact hA2
  refine ⟨_,rfl,o,CS,dx, [("terms",.ref A1)],rfl,(by rw [upd_ne (Ne.symm hA2o),upd_same];rfl),Z.cS,Z.nLeads,(show 1 < 1000 by decide),?_⟩
  refine q _ A1 A2 (fun c u n h => ?_) hA1 hA20 ?_ ?_ upd_same
  · have h1:c≠A1:=fun e=>by rw [e,hA1] at h;cases h
    have h2:c≠A2:=fun e=>by rw [e,hA20] at h;cases h
    rw [upd_ne n,upd_ne h2,upd_ne n,upd_ne h1];exact h
  · rw [upd_ne hA1o,upd_ne (Ne.symm hA2A1),upd_ne hA1o,upd_same]
  · rw [upd_ne hA2o,upd_same]
inductive SpTopS (CS:Addr) (vs:List V) (H:Hp) (Q:VK):Prop
  | mk (o dx:Addr) (fs:List (Str × V)) (z0:vs = [.ref o]) (z1:H o=some (.ins CS dx fs)) (z2:Q (.int 7) H):SpTopS CS vs H Q
noncomputable def spTopS (CS:Addr):Sp:=fun vs H Q _=>SpTopS CS vs H Q
theorem ok_top (Z:TopS K mg CS tB) (D:DefM K CS "top" "Signs.top" s_stop ["self"]):HasM P w K mg base 1 CS "top" ["self"] (spTopS CS):=by
  have g_ANY_SIGN:=Z.g_ANY_SIGN
  refine D.has sc_stop (fun vs H Q E h => ?_) (fun f cdv A outer s H vs Q E hr h => ?_)
  · obtain ⟨o,dx,fs,rfl,_⟩:=h;rfl
  obtain ⟨o,dx,fs,rfl,ho,q⟩:=h
  refine ⟨_,(pss_one (ps_ret (pe_globI g_ANY_SIGN rfl))),?_⟩
  try dsimp only [cxOf]
  exact q
noncomputable def TmIn (n:Nat) (t:Tm):Prop := ∀ a∈armsF t,a < n
theorem known_at {ks:List Int} {as:List Nat} {i:Nat} (hi:i < as.length) (h:∀ a∈as,a < ks.length):as[i]? = some (as.getD i 0)∧atI (ks.map V.int) (((as.getD i 0:Nat)):Int)=some (.int (kgF ks as i)):=by
  have e:=getD_at hi
  have hl:=h _ (List.mem_of_getElem? e)
  refine ⟨e,atI_nat ?_⟩
  rw [List.getElem?_map,List.getElem?_eq_getElem hl]
  unfold kgF
  rw [List.getD_eq_getElem?_getD (l:=ks),List.getElem?_eq_getElem hl]
  rfl
inductive SpWorth (K:PySem.W.Frag) (CS:Addr) (vs:List V) (H:Hp) (Q:VK):Prop
  | mk (o dx L:Addr) (fs:List (Str × V)) (v:V) (t:Tm) (ks:List Int) (z0:vs = [.ref o,v,.ref L]) (z1:H o=some (.ins CS dx fs)) (z2:IsTm H t v) (z3:SqL K H L (ks.map V.int)) (z4:TmIn ks.length t) (z5:Q (.int (worthS ks t)) H):SpWorth K CS vs H Q
noncomputable def spWorth (K:PySem.W.Frag) (CS:Addr):Sp:=fun vs H Q _=>SpWorth K CS vs H Q
theorem ok_worth (Z:TopS K mg CS tB) (h_is_sum:Has P w K mg base 1 "is_sum" ["term"] (spIsOp "plus" 2)) (h_is_product:Has P w K mg base 1 "is_product" ["term"] (spIsOp "times" 2)) (h_is_opposite:Has P w K mg base 1 "is_opposite" ["term"] (spIsOp "neg" 1))
    (h_sign_of_number:Has P w K mg base 1 "sign_of_number" ["number"] spSgn) (h_sign_of_pair:Has P w K mg base 2 "sign_of_pair" ["combine", "fact", "other_fact"] (spPair P w K mg base)) (h_add_signs:Has P w K mg base 1 "add_signs" ["one", "other"] (spCmb addS)) (h_multiply_signs:Has P w K mg base 1 "multiply_signs" ["one", "other"] (spCmb mulS))
    (D:DefM K CS "worth" "Signs.worth" s_sworth ["self", "term", "known"]):HasM P w K mg base 3 CS "worth" ["self", "term", "known"] (spWorth K CS):=by
  have g_ANY_SIGN:=Z.g_ANY_SIGN
  have g_NEGATIVE:=Z.g_NEGATIVE
  obtain ⟨f_add_signs,m_add_signs,v_add⟩:=h_add_signs.val
  obtain ⟨f_multiply_signs,m_multiply_signs,v_mul⟩:=h_multiply_signs.val
  refine D.has sc_sworth (fun vs H Q E h => ?_) (fun f cdv A outer s H vs Q E hr h => ?_)
  · obtain ⟨o,dx,L,fs,v,t,ks,rfl,_⟩:=h;rfl
  obtain ⟨o,dx,L,fs,v,t,ks,rfl,ho,hT,hL,hin,q⟩:=h
  refine ⟨_,(pss_cons (ps_if (pt_cmpR op_eq (pe_ix ix_tup (pv 1) pe_int (fun _ _=>rfl)) pe_str (nomark _)) (pss_one (ps_ret (pe_callH h_sign_of_number hr (by omega) rfl (pa_cons (pe_ix ix_tup (pv 1) pe_int (fun _ _=>rfl)) pa_nil)))) pss_nil)
    (pss_cons (ps_if (pt_val (pe_callH h_is_sum hr (by omega) rfl (pa_cons (pv 1) pa_nil))) (pss_one (ps_ret (pe_callH h_sign_of_pair hr (by omega) rfl (pa_cons (pe_glob (v := .ref f_add_signs) rfl m_add_signs rfl) (pa_cons (pe_ix ix_list (pv 2) (pe_ix ix_tup (pe_ix ix_tup (pv 1) pe_int (fun _ _=>rfl)) pe_int (fun _ _=>rfl)) (fun _ _=>rfl)) (pa_cons (pe_ix ix_list (pv 2) (pe_ix ix_tup (pe_ix ix_tup (pv 1) pe_int (fun _ _=>rfl)) pe_int (fun _ _=>rfl)) (fun _ _=>rfl)) pa_nil)))))) pss_nil)
    (pss_cons (ps_if (pt_val (pe_callH h_is_product hr (by omega) rfl (pa_cons (pv 1) pa_nil))) (pss_one (ps_ret (pe_callH h_sign_of_pair hr (by omega) rfl (pa_cons (pe_glob (v := .ref f_multiply_signs) rfl m_multiply_signs rfl) (pa_cons (pe_ix ix_list (pv 2) (pe_ix ix_tup (pe_ix ix_tup (pv 1) pe_int (fun _ _=>rfl)) pe_int (fun _ _=>rfl)) (fun _ _=>rfl)) (pa_cons (pe_ix ix_list (pv 2) (pe_ix ix_tup (pe_ix ix_tup (pv 1) pe_int (fun _ _=>rfl)) pe_int (fun _ _=>rfl)) (fun _ _=>rfl)) pa_nil)))))) pss_nil)
    (pss_cons (ps_if (pt_val (pe_callH h_is_opposite hr (by omega) rfl (pa_cons (pv 1) pa_nil))) (pss_one (ps_ret (pe_callH h_sign_of_pair hr (by omega) rfl (pa_cons (pe_glob (v := .ref f_multiply_signs) rfl m_multiply_signs rfl) (pa_cons (pe_globI g_NEGATIVE rfl) (pa_cons (pe_ix ix_list (pv 2) (pe_ix ix_tup (pe_ix ix_tup (pv 1) pe_int (fun _ _=>rfl)) pe_int (fun _ _=>rfl)) (fun _ _=>rfl)) pa_nil)))))) pss_nil)
    (pss_one (ps_ret (pe_globI g_ANY_SIGN rfl))))))),?_⟩
  try dsimp only [cxOf]
  cases t with
  | num n =>
    obtain ⟨a,rfl,h⟩:=id hT
    exact ⟨_,rfl,a,_,0,_,rfl,rfl,SqT.of h,atI_nat (j:=0) rfl,rfl,_,rfl,iteD (fun _=>⟨_,rfl,a,_,1,_,rfl,rfl,SqT.of h,atI_nat (j:=1) rfl,n,rfl,q⟩) (fun z=>absurd rfl z)⟩
  | name n =>
    obtain ⟨a,rfl,h⟩:=id hT
    refine ⟨_,rfl,a,_,0,_,rfl,rfl,SqT.of h,atI_nat (j:=0) rfl,rfl,_,rfl,iteD (fun z=>absurd (V.str.inj z) (by decide)) (fun _ => ?_)⟩
    exact ⟨_,rfl,.ref a,.name n,rfl,hT,_,rfl,iteF ⟨_,rfl,.ref a,.name n,rfl,hT,_,rfl,iteF ⟨_,rfl,.ref a,.name n,rfl,hT,_,rfl,iteF q⟩⟩⟩
  | of x as =>
    obtain ⟨a,b,rfl,h,h2⟩:=id hT
    have hin':∀ y∈as,y < ks.length:=hin
    refine ⟨_,rfl,a,_,0,_,rfl,rfl,SqT.of h,atI_nat (j:=0) rfl,rfl,_,rfl,iteD (fun z=>absurd (V.str.inj z) (by decide)) (fun _ => ?_)⟩
    rw [worthS_of] at q
    refine ⟨_,rfl,.ref a,.of x as,rfl,hT,_,rfl,?_⟩
    by_cases c1:x = "plus" ∧ as.length=2
    · rw [isOp_iff.mpr c1]
      rw [if_pos c1] at q
      obtain ⟨e0,k0⟩:=known_at (i:=0) (by omega) hin'
      obtain ⟨e1,k1⟩:=known_at (i:=1) (by omega) hin'
      exact iteT ⟨_,rfl,_,rfl,a,_,2,_,rfl,rfl,SqT.of h,atI_nat (j:=2) rfl,b,_,0,_,rfl,rfl,SqT.of h2,nV_at (k:=0) e0,L,_,_,_,rfl,rfl,hL,k0,_,rfl,_,rfl,a,_,2,_,rfl,rfl,SqT.of h,atI_nat (j:=2) rfl,b,_,1,_,rfl,rfl,SqT.of h2,nV_at (k:=1) e1,L,_,_,_,rfl,rfl,hL,k1,f_add_signs,addS,_,_,rfl,v_add,q⟩
    rw [if_neg c1] at q
    rw [Bool.eq_false_iff.mpr (fun z=>c1 (isOp_iff.mp z))]
    refine iteF ⟨_,rfl,.ref a,.of x as,rfl,hT,_,rfl,?_⟩
    by_cases c2:x = "times" ∧ as.length=2
    · rw [isOp_iff.mpr c2]
      rw [if_pos c2] at q
      obtain ⟨e0,k0⟩:=known_at (i:=0) (by omega) hin'
      obtain ⟨e1,k1⟩:=known_at (i:=1) (by omega) hin'
      exact iteT ⟨_,rfl,_,rfl,a,_,2,_,rfl,rfl,SqT.of h,atI_nat (j:=2) rfl,b,_,0,_,rfl,rfl,SqT.of h2,nV_at (k:=0) e0,L,_,_,_,rfl,rfl,hL,k0,_,rfl,_,rfl,a,_,2,_,rfl,rfl,SqT.of h,atI_nat (j:=2) rfl,b,_,1,_,rfl,rfl,SqT.of h2,nV_at (k:=1) e1,L,_,_,_,rfl,rfl,hL,k1,f_multiply_signs,mulS,_,_,rfl,v_mul,q⟩
    rw [if_neg c2] at q
    rw [Bool.eq_false_iff.mpr (fun z=>c2 (isOp_iff.mp z))]
    refine iteF ⟨_,rfl,.ref a,.of x as,rfl,hT,_,rfl,?_⟩
    by_cases c3:x = "neg" ∧ as.length=1
    · rw [isOp_iff.mpr c3]
      rw [if_pos c3] at q
      obtain ⟨e0,k0⟩:=known_at (i:=0) (by omega) hin'
      exact iteT ⟨_,rfl,_,rfl,a,_,2,_,rfl,rfl,SqT.of h,atI_nat (j:=2) rfl,b,_,0,_,rfl,rfl,SqT.of h2,nV_at (k:=0) e0,L,_,_,_,rfl,rfl,hL,k0,f_multiply_signs,mulS,_,_,rfl,v_mul,q⟩
    rw [if_neg c3] at q
    rw [Bool.eq_false_iff.mpr (fun z=>c3 (isOp_iff.mp z))]
    exact iteF q
end

end K39
namespace K39
open PySem L2 Sw
section
variable {P:Program} {w:World} {K:PySem.W.Frag} {mg:Str→Option Value} {base:Heap} {CN:Addr}
structure TopN (K:PySem.W.Frag) (CN:Addr):Prop where
  cN:Cls K CN
  nTerms:NoAttr K CN "terms"
  nLeads:NoAttr K CN "leads"
  nHeld:NoAttr K CN "held"
  nBits:NoAttr K CN "bits"
  nStanding:NoAttr K CN "standing"
theorem ok_is_binder (B:Blt mg) (D:Def K mg "is_binder" s_is_binder ["term"]):Has P w K mg base 1 "is_binder" ["term"] (spIsOp "bind" 2):=by
  refine D.has sc_is_binder (fun vs H Q E h => ?_) (fun f cdv A outer s H vs Q E hr h => ?_)
  · obtain ⟨v,t,rfl,_⟩:=h;rfl
  obtain ⟨v,t,rfl,hT,q⟩:=h
  refine ⟨_,(pss_one (ps_ret (pe_and (pe_cmpR op_eq (pe_ix ix_tup (pv 0) pe_int (fun _ _=>rfl)) pe_str (nomark _)) (pe_and (pe_cmpR op_eq (pe_ix ix_tup (pv 0) pe_int (fun _ _=>rfl)) pe_str (nomark _)) (pe_one (pe_cmpR op_eq (pe_callB call_len_seq rfl B.len_ PySem.boot_len (pa_cons (pe_ix ix_tup (pv 0) pe_int (fun _ _=>rfl)) pa_nil)) pe_int (nomark _))))))),?_⟩
  try dsimp only [cxOf]
  cases t with
  | num n =>
    obtain ⟨a,rfl,h⟩:=id hT
    exact ⟨_,rfl,a,_,0,_,rfl,rfl,SqT.of h,atI_nat (j:=0) rfl,rfl,_,rfl,iteD (fun z=>absurd (V.str.inj z) (by decide)) (fun _=>q)⟩
  | name n =>
    obtain ⟨a,rfl,h⟩:=id hT
    exact ⟨_,rfl,a,_,0,_,rfl,rfl,SqT.of h,atI_nat (j:=0) rfl,rfl,_,rfl,iteD (fun z=>absurd (V.str.inj z) (by decide)) (fun _=>q)⟩
  | of x as =>
    obtain ⟨a,b,rfl,h,h2⟩:=id hT
    refine ⟨_,rfl,a,_,0,_,rfl,rfl,SqT.of h,atI_nat (j:=0) rfl,rfl,_,rfl,iteD (fun _ => ?_) (fun z=>absurd rfl z)⟩
    have eop:isOp "bind" 2 (.of x as)=(decide (x = "bind") && decide (as.length=2)):=rfl
    rw [eop] at q
    refine ⟨_,rfl,a,_,1,_,rfl,rfl,SqT.of h,atI_nat (j:=1) rfl,rfl,_,rfl,iteD (fun hx => ?_) (fun hx => ?_)⟩
    · refine ⟨_,rfl,a,_,2,_,rfl,rfl,SqT.of h,atI_nat (j:=2) rfl,b,_,rfl,.inr (SqT.of h2),rfl,?_⟩
      have e:decide (V.int (((as.map nV).length:Nat):Int)=V.int 2)=decide (as.length=2):=by rw [List.length_map];exact dec_int (n:=2)
      rw [e]
      rw [decide_eq_true (V.str.inj hx),Bool.true_and] at q
      exact q
    · rw [decide_eq_false (fun z=>hx (by rw [z])),Bool.false_and] at q
      exact q
theorem ok_kinitK (B:Blt mg) (Z:TopN K CN) (D:DefK K mg "Kind" "__init__" "Kind.__init__" s_kinit ["self", "terms", "leads"]):HasK P w K mg base 1 "Kind" "__init__" ["self", "terms", "leads"] (spKInit CN):=by
  refine D.has sc_kinit (fun vs H Q E h => ?_) (fun f cdv A outer s H vs Q E hr h => ?_)
  · obtain ⟨o,dx,T,L,us,ls,rfl,_⟩:=h;rfl
  obtain ⟨o,dx,T,L,us,ls,rfl,ho,hT,hL,q⟩:=h
  refine ⟨_,(pss_cons (ps_fld (pv 0) (pe_callTy call_list_of rfl B.list_ boot_list_ (pa_cons (pv 1) pa_nil)) rfl)
    (pss_one (ps_fld (pv 0) (pe_callTy call_list_of rfl B.list_ boot_list_ (pa_cons (pv 2) pa_nil)) rfl))),?_⟩
  try dsimp only [cxOf]
  refine ⟨_,rfl,T,us,rfl,.inl (SqL.of hT),fun A1 hA1 => ?_⟩
  have hA1o:A1≠o:=fun e=>by rw [e,ho] at hA1;cases hA1
  have hTo:T≠o:=fun e=>by rw [e,ho] at hT;cases hT
  have hLo:L≠o:=fun e=>by rw [e,ho] at hL;cases hL
  have hLA1:L≠A1:=fun e=>by rw [e,hA1] at hL;cases hL
  refine ⟨_,rfl,o,CN,dx,_,rfl,(by rw [upd_ne (Ne.symm hA1o)];exact ho),Z.cN,Z.nTerms,by decide,?_⟩
  have hL2:(upd (upd H A1 (.lst us)) o (.ins CN dx [("terms",.ref A1)])) L=some (.lst ls):=by rw [upd_ne hLo,upd_ne hLA1];exact hL
  refine ⟨_,rfl,L,ls,rfl,.inl (SqL.of hL2),fun A2 hA2 => ?_⟩
  have hA2o:A2≠o:=fun e=>by rw [e,upd_same] at hA2;cases hA2
  have hA2A1:A2≠A1:=fun e=>by rw [e,upd_ne hA1o,upd_same] at hA2;cases hA2
  have hA20:H A2=none:=by rw [upd_ne hA2o,upd_ne hA2A1] at hA2;exact hA2
  refine ⟨_,rfl,o,CN,dx, [("terms",.ref A1)],rfl,(by rw [upd_ne (Ne.symm hA2o),upd_same];rfl),Z.cN,Z.nLeads,(show 1 < 1000 by decide),?_⟩
  refine q _ A1 A2 (fun c u n h => ?_) hA1 hA20 ?_ ?_ upd_same
  · have h1:c≠A1:=fun e=>by rw [e,hA1] at h;cases h
    have h2:c≠A2:=fun e=>by rw [e,hA20] at h;cases h
    rw [upd_ne n,upd_ne h2,upd_ne n,upd_ne h1];exact h
  · rw [upd_ne hA1o,upd_ne (Ne.symm hA2A1),upd_ne hA1o,upd_same]
  · rw [upd_ne hA2o,upd_same]

noncomputable def nmV (H:Hp) (v:V):Option V:=match v with
  | .ref a=>(match H a with
    | some (.tup (.str x :: .str z :: _))=>if x = "name" then some (.str z) else none
    | _=>none)
  | _=>none
theorem nm_tm {H:Hp} {t:Tm} {v:V} (hT:IsTm H t v):nmV H v=(nameT t).map V.str:=by
  cases t with
  | num n =>
    obtain ⟨a,rfl,h⟩:=id hT
    unfold nmV
    dsimp only
    rw [h]
    rfl
  | name n =>
    obtain ⟨a,rfl,h⟩:=id hT
    unfold nmV
    dsimp only
    rw [h]
    dsimp only
    rw [if_pos rfl]
    rfl
  | of x as =>
    obtain ⟨a,b,rfl,h,h2⟩:=id hT
    unfold nmV
    dsimp only
    rw [h]
    dsimp only
    rw [if_neg (by decide)]
    rfl
theorem nm_all {H:Hp}:∀ {us:List V} {ts:List Tm},Tms H us ts→us.filterMap (nmV H)=(heldF ts).map V.str
  | _,_,.nil=>rfl
  | v :: us,t :: ts,.cons h r=>by
    unfold heldF
    rw [List.filterMap_cons,List.filterMap_cons,nm_tm h]
    cases nameT t with
    | none=>exact nm_all r
    | some z=>exact congrArg (V.str z :: ·) (nm_all r)
theorem tm_mem {H:Hp}:∀ {us:List V} {ts:List Tm} {v:V},Tms H us ts→v∈us→∃ t,IsTm H t v
  | _,_,_,.nil,h=>nomatch h
  | _,_,_,.cons h r,hv=>by
    rcases List.mem_cons.mp hv with rfl | hv
    · exact ⟨_,h⟩
    · exact tm_mem r hv
inductive TmTwo (H:Hp) (t:Tm) (v:V):Prop
  | mk:∀ (a:Addr) (xs:List V) (x:Str) (y:V),v = .ref a→H a=some (.tup xs)→atI xs 0=some (.str x)→atI xs 1=some y→(x = "name" ↔ (nameT t).isSome=true)→(∀ z,nameT t=some z→y = .str z)→TmTwo H t v
theorem tm_two {H:Hp} {t:Tm} {v:V} (hT:IsTm H t v):TmTwo H t v:=by
  cases t with
  | num n =>
    obtain ⟨a,rfl,h⟩:=id hT
    exact ⟨a,_,_,_,rfl,h,rfl,rfl,⟨fun z=>absurd z (by decide),fun z=>nomatch z⟩,fun z e=>nomatch e⟩
  | name n =>
    obtain ⟨a,rfl,h⟩:=id hT
    exact ⟨a,_,_,_,rfl,h,rfl,rfl,⟨fun _=>rfl,fun _=>rfl⟩,fun z e=>by cases e;rfl⟩
  | of x as =>
    obtain ⟨a,b,rfl,h,h2⟩:=id hT
    exact ⟨a,_,_,_,rfl,h,rfl,rfl,⟨fun z=>absurd z (by decide),fun z=>nomatch z⟩,fun z e=>nomatch e⟩
theorem but_same {L:Addr} {H H1 H2:Hp} (a:But L H H1) (b:Same H1 H2):But L H H2:=fun c u n h=>b c u (a c u n h)
theorem but_put {L x:Addr} {H H1:Hp} {u:HO} (a:But L H H1) (hx:H x=none):But L H (upd H1 x u):=fun c v n h=>by
  rw [upd_ne (fun e=>by rw [e,hx] at h;cases h)]
  exact a c v n h
theorem but_own {L:Addr} {H H1:Hp} {u:HO} (a:But L H H1):But L H (upd H1 L u):=fun c v n h=>by
  rw [upd_ne n]
  exact a c v n h
theorem but_new {L x:Addr} {H H1:Hp} (a:But L H H1) (hx:H1 x=none) (hn:x≠L):H x=none:=by
  cases e:H x with
  | none=>rfl
  | some u=>have:=a x u hn e;rw [hx] at this;cases this
theorem ne_new {H:Hp} {x y:Addr} {u:HO} (hx:H x=none) (hy:H y=some u):x≠y:=fun e=>by rw [e,hy] at hx;cases hx
structure NamesAt (CN:Addr) (H:Hp) (o:Addr) (ts:List Tm) (ls:List Nat):Prop where
  ex:∃ dx A1 A2 A3 A4 A5 kb ks,H o=some (.ins CN dx [("terms",.ref A1),("leads",.ref A2),("held",.ref A3),("bits",.ref A4),("standing",.ref A5)])∧H A2=some (.lst (ls.map nV)) ∧
    H A3=some (.lst ((heldF ts).map V.str))∧H A4=some (.dK kb)∧BitsTo (heldF ts) (heldF ts).length kb∧H A5=some (.dK ks)∧StandTo (heldF ts) ts ls ts.length ks∧∃ us,H A1=some (.lst us)∧Tms H us ts
theorem NamesAt.same {CN:Addr} {H H':Hp} {o:Addr} {ts:List Tm} {ls:List Nat} (h:NamesAt CN H o ts ls) (s:Same H H'):NamesAt CN H' o ts ls:=by
  obtain ⟨dx,A1,A2,A3,A4,A5,kb,ks,h1,h2,h3,h4,h5,h6,h7,us,h8,h9⟩:=h.ex
  exact ⟨dx,A1,A2,A3,A4,A5,kb,ks,s _ _ h1,s _ _ h2,s _ _ h3,s _ _ h4,h5,s _ _ h6,h7,us,s _ _ h8,tms_same s h9⟩
structure NamesNew (CN:Addr) (H0 H:Hp) (o:Addr) (ts:List Tm) (ls:List Nat):Prop where
  ex:∃ dx A1 A2 A3 A4 A5 kb ks,H o=some (.ins CN dx [("terms",.ref A1),("leads",.ref A2),("held",.ref A3),("bits",.ref A4),("standing",.ref A5)])∧H A2=some (.lst (ls.map nV)) ∧
    H A3=some (.lst ((heldF ts).map V.str))∧H A4=some (.dK kb)∧BitsTo (heldF ts) (heldF ts).length kb∧H A5=some (.dK ks)∧StandTo (heldF ts) ts ls ts.length ks∧(∃ us,H A1=some (.lst us)∧Tms H us ts)∧H0 A1=none∧H0 A2=none∧H0 A3=none
inductive SpNInit (CN:Addr) (vs:List V) (H:Hp) (Q:VK):Prop
  | mk (o dx T L:Addr) (us:List V) (ts:List Tm) (ls:List Nat) (z0:vs = [.ref o,.ref T,.ref L]) (z1:H o=some (.ins CN dx [])) (z2:H T=some (.lst us)) (z3:Tms H us ts) (z4:H L=some (.lst (ls.map nV))) (z5:ts.Nodup) (z6:ls.length=ts.length) (z7:ts.length≤24) (z8:∀ H',But o H H'→NamesNew CN H H' o ts ls→Q .non H'):SpNInit CN vs H Q
noncomputable def spNInit (CN:Addr):Sp:=fun vs H Q _=>SpNInit CN vs H Q
inductive Iv_ninit1 (CN:Addr) (o:Addr) (dx:Addr) (T:Addr) (L:Addr) (A1:Addr) (A2:Addr) (H:Hp) (us:List V) (ts:List Tm) (ls:List Nat) (σ':St) (H':Hp):Prop
  | mk:∀ (A3:Addr),(σ' = [some (.ref o),some (.ref T),some (.ref L),none,none,none,none])→(A3≠o)→(H A3=none)→(But o H H')→(H' o=some (.ins CN dx [("terms",.ref A1),("leads",.ref A2),("held",.ref A3)]))→(H' A3=some (.lst ((heldF ts).map V.str)))→(H' A2=some (.lst (ls.map nV)))→(H' A1=some (.lst us))→Iv_ninit1 CN o dx T L A1 A2 H us ts ls σ' H'
inductive Iv_ninit2 (CN:Addr) (o:Addr) (dx:Addr) (T:Addr) (L:Addr) (A1:Addr) (A2:Addr) (A3:Addr) (H:Hp) (us:List V) (ts:List Tm) (ls:List Nat) (σ':St) (H':Hp):Prop
  | mk:∀ (A4:Addr),(σ' = [some (.ref o),some (.ref T),some (.ref L),none,none,none,none])→(A4≠o)→(A4≠A3)→(A4≠A2)→(A4≠A1)→(H A4=none)→(But o H H')→(H' o=some (.ins CN dx [("terms",.ref A1),("leads",.ref A2),("held",.ref A3),("bits",.ref A4)]))→(H' A3=some (.lst ((heldF ts).map V.str)))→(H' A2=some (.lst (ls.map nV)))→(H' A4=some (.dK []))→(H' A1=some (.lst us))→Iv_ninit2 CN o dx T L A1 A2 A3 H us ts ls σ' H'
inductive Iv_ninit3 (CN:Addr) (o:Addr) (dx:Addr) (T:Addr) (L:Addr) (A1:Addr) (A2:Addr) (A3:Addr) (A4:Addr) (H:Hp) (us:List V) (ts:List Tm) (ls:List Nat) (σ':St) (H':Hp):Prop
  | mk:∀ (x3 x4:Option V) (kb:DK),(σ' = [some (.ref o),some (.ref T),some (.ref L),x3,x4,none,none])→(But o H H')→(H' o=some (.ins CN dx [("terms",.ref A1),("leads",.ref A2),("held",.ref A3),("bits",.ref A4)]))→(H' A3=some (.lst ((heldF ts).map V.str)))→(H' A2=some (.lst (ls.map nV)))→(H' A4=some (.dK kb))→(BitsTo (heldF ts) (heldF ts).length kb)→(H' A1=some (.lst us))→Iv_ninit3 CN o dx T L A1 A2 A3 A4 H us ts ls σ' H'
inductive Iv_ninit4 (CN:Addr) (o:Addr) (dx:Addr) (T:Addr) (L:Addr) (A1:Addr) (A2:Addr) (A3:Addr) (A4:Addr) (H:Hp) (us:List V) (ts:List Tm) (ls:List Nat) (i:Nat) (σ':St) (H':Hp):Prop
  | mk:∀ (x3 x4:Option V) (kb:DK),(σ' = [some (.ref o),some (.ref T),some (.ref L),x3,x4,none,none])→(But o H H')→(H' o=some (.ins CN dx [("terms",.ref A1),("leads",.ref A2),("held",.ref A3),("bits",.ref A4)]))→(H' A3=some (.lst ((heldF ts).map V.str)))→(H' A2=some (.lst (ls.map nV)))→(H' A4=some (.dK kb))→(BitsTo (heldF ts) i kb)→(H' A1=some (.lst us))→Iv_ninit4 CN o dx T L A1 A2 A3 A4 H us ts ls i σ' H'
inductive Iv_ninit5 (CN:Addr) (o:Addr) (dx:Addr) (T:Addr) (L:Addr) (A1:Addr) (A2:Addr) (A3:Addr) (A4:Addr) (H:Hp) (us:List V) (ts:List Tm) (ls:List Nat) (x3:Option V) (x4:Option V) (kb:DK) (σ':St) (H':Hp):Prop
  | mk:∀ (A5:Addr),(σ' = [some (.ref o),some (.ref T),some (.ref L),x3,x4,none,none])→(A5≠o)→(A5≠A3)→(A5≠A2)→(A5≠A4)→(A5≠A1)→(H A5=none)→(But o H H')→(H' o=some (.ins CN dx [("terms",.ref A1),("leads",.ref A2),("held",.ref A3),("bits",.ref A4),("standing",.ref A5)]))→(H' A3=some (.lst ((heldF ts).map V.str)))→(H' A2=some (.lst (ls.map nV)))→(H' A4=some (.dK kb))→(H' A5=some (.dK []))→(H' A1=some (.lst us))→Iv_ninit5 CN o dx T L A1 A2 A3 A4 H us ts ls x3 x4 kb σ' H'
inductive Iv_ninit6 (CN:Addr) (o:Addr) (dx:Addr) (T:Addr) (L:Addr) (A1:Addr) (A2:Addr) (A3:Addr) (A4:Addr) (A5:Addr) (H:Hp) (us:List V) (ts:List Tm) (ls:List Nat) (x3:Option V) (x4:Option V) (kb:DK) (i:Nat) (σ':St) (H':Hp):Prop
  | mk:∀ (x5 x6:Option V) (ks:DK),(σ' = [some (.ref o),some (.ref T),some (.ref L),x3,x4,x5,x6])→(But o H H')→(H' o=some (.ins CN dx [("terms",.ref A1),("leads",.ref A2),("held",.ref A3),("bits",.ref A4),("standing",.ref A5)]))→(H' A3=some (.lst ((heldF ts).map V.str)))→(H' A2=some (.lst (ls.map nV)))→(H' A4=some (.dK kb))→(H' A5=some (.dK ks))→(StandTo (heldF ts) ts ls i ks)→(H' A1=some (.lst us))→Iv_ninit6 CN o dx T L A1 A2 A3 A4 A5 H us ts ls x3 x4 kb i σ' H'
theorem ok_ninit (B:Blt mg) (Z:TopN K CN) (h_kinit:HasK P w K mg base 1 "Kind" "__init__" ["self", "terms", "leads"] (spKInit CN)) (D:DefC K mg "Names" CN "Names.__init__" s_ninit ["self", "terms", "leads"]):HasC P w K mg base 2 "Names" CN ["self", "terms", "leads"] (spNInit CN):=by
  refine D.has sc_ninit (fun vs H Q E h => ?_) (fun f cdv A outer s H vs Q E hr h => ?_)
  · obtain ⟨o,dx,T,L,us,ts,ls,rfl,_⟩:=h;rfl
  obtain ⟨o,dx,T,L,us,ts,ls,rfl,ho,hT,hts,hL,hnd,hll,few,q⟩:=h
  refine ⟨_,(pss_cons (ps_expr (pe_callC h_kinit hr (by omega) (passE fun _ _ _ z=>z) rfl (pa_cons (pv 0) (pa_cons (pv 1) (pa_cons (pv 2) pa_nil)))))
    (pss_cons (ps_fld (pv 0) (pe_compI (te:=(tOp (rIxT K) _ _)) (ct:=(tTest (tOp _ (tOp (rIxT K) _ _) _))) (own := ["term"]) (caps := []) (comp_scope (defScope s_ninit) ["self", "terms", "leads", "place", "word", "k", "term"] rfl rfl rfl (by decide +kernel)) (pi_list (pv 1)) rfl (fun _ _ _=>pg_name (i:=0) (show (["term"]:List Str).Nodup by decide +kernel) rfl (Or.inl rfl)) (fun _ _ _=>(pt_cmpR op_eq (pe_ix ix_tup (pv 0) pe_int (fun _ _=>rfl)) pe_str (nomark _))) (fun _ _ _=>(pe_ix ix_tup (pv 0) pe_int (fun _ _=>rfl)))) rfl)
    (pss_cons (ps_fld (pv 0) pe_dnewK rfl)
    (pss_cons (ps_for PassesOwn.leaving rfl (pi_enum rfl B.enumerate_ (pa_cons (pe_fld (pv 0) rfl) pa_nil)) (pg_tup rfl (pgs_cons (pg_name (i:=3) sc_ninit.nd rfl (Or.inl rfl)) (pgs_cons (pg_name (i:=4) sc_ninit.nd rfl (Or.inl rfl)) pgs_nil)))
    (pss_one (ps_dput (hu_of hr) (pe_fld (pv 0) rfl) (pv 4) (pe_op op_shl pe_int (pv 3)) rfl)))
    (pss_cons (ps_fld (pv 0) pe_dnewK rfl)
    (pss_one (ps_for PassesOwn.leaving rfl (pi_enum rfl B.enumerate_ (pa_cons (pv 1) pa_nil)) (pg_tup rfl (pgs_cons (pg_name (i:=5) sc_ninit.nd rfl (Or.inl rfl)) (pgs_cons (pg_name (i:=6) sc_ninit.nd rfl (Or.inl rfl)) pgs_nil)))
    (pss_one (ps_if (pt_cmpR op_eq (pe_ix ix_tup (pv 6) pe_int (fun _ _=>rfl)) pe_str (nomark _)) (pss_one (ps_dput (hu_of hr) (pe_fld (pv 0) rfl) (pe_ix ix_list (pv 2) (pv 5) (fun _ _=>rfl)) (pe_op op_or (pe_dget2 (hu_of hr) (pe_fld (pv 0) rfl) (pe_ix ix_list (pv 2) (pv 5) (fun _ _=>rfl)) pe_int ⟨rfl,rfl,rfl,rfl⟩) (pe_dget (hu_of hr) (pe_fld (pv 0) rfl) (pe_ix ix_tup (pv 6) pe_int (fun _ _=>rfl)) (fun _ _=>rfl))) rfl)) pss_nil))))))))),?_⟩
  try dsimp only [cxOf]
  have hTo:T≠o:=fun e=>by rw [e,ho] at hT;cases hT
  have hLo:L≠o:=fun e=>by rw [e,ho] at hL;cases hL
  have hut:=Paired.length hts
  have hsn:=held_nodup hnd
  have hsl:=held_len ts
  refine ⟨_,rfl,_,rfl,_,rfl,o,dx,T,L,us,ls.map nV,rfl,ho,hT,hL,fun H1 A1 A2 bt1 hA10 hA20 hA1 hA2 ho1 => ?_⟩
  have kp1:∀ b ys,H b=some (.tup ys)→H1 b=some (.tup ys):=fun b ys e=>bt1 _ _ (fun z=>by rw [z,ho] at e;cases e) e
  have hts1:=tms_keep kp1 hts
  have hT1:=bt1 _ _ hTo hT
  have hL1:=bt1 _ _ hLo hL
  have oA2:=ne_new hA20 ho
  have oA1:=ne_new hA10 ho
  dsimp only
  refine rd_cut (Iv_ninit1 CN o dx T L A1 A2 H us ts ls) ?_ (fun key => ?_)
  rotate_left
  · refine ⟨_,rfl,T,rfl,⟨us,SqL.of hT1⟩,?_⟩
    show CompBodyI _ _ _ _ _ H1 _
    refine compI_listS (xs:=us) (nmV H1) (SqL.of hT1) (by omega) (fun x hx H' sm R r => ?_) (fun x v hx e H' sm Q' q' => ?_) (fun A3 H2 hA3 s2 hA32 => ?_)
    · obtain ⟨t,ht⟩:=tm_mem hts1 hx
      rw [nm_tm ht,Option.isSome_map] at r
      obtain ⟨a,xs,x0,y,rfl,h,h0,h1,hn,hz⟩:=tm_two (ht.same sm)
      refine ⟨_,rfl,a,_,_,_,rfl,rfl,SqT.of h,h0,rfl,_,rfl,?_⟩
      have r1:=r H' (Same.refl _)
      have e:(decide (V.str x0=V.str "name"))=(nameT t).isSome:=by
        rw [Bool.eq_iff_iff,decide_eq_true_iff, ← hn]
        exact ⟨fun z=>V.str.inj z,fun z=>by rw [z]⟩
      rw [← e] at r1
      exact r1
    · obtain ⟨t,ht⟩:=tm_mem hts1 hx
      rw [nm_tm ht] at e
      obtain ⟨z,e1,rfl⟩:=Option.map_eq_some_iff.mp e
      obtain ⟨a,xs,x0,y,rfl,h,h0,h1,hn,hz⟩:=tm_two (ht.same sm)
      rw [hz z e1] at h1
      exact ⟨_,rfl,a,_,_,_,rfl,rfl,SqT.of h,h1,q' _ (Same.refl _)⟩
    rw [nm_all hts1] at hA32
    have ho2:=s2 _ _ ho1
    have oA3:=ne_new hA3 ho1
    refine ⟨_,rfl,o,CN,dx,_,rfl,ho2,Z.cN,Z.nHeld,(show 2 < 1000 by decide),key _ _ ⟨A3,rfl,oA3,but_new bt1 hA3 oA3,but_own (but_same bt1 s2),upd_same,(upd_ne oA3).trans hA32,(upd_ne oA2).trans (s2 _ _ hA2),(upd_ne oA1).trans (s2 _ _ hA1)⟩⟩
  rintro σ' H3 ⟨A3,rfl,oA3,hA30,bt3,ho3,hA33,hA23,h13⟩
  refine rd_cut (Iv_ninit2 CN o dx T L A1 A2 A3 H us ts ls) ?_ (fun key => ?_)
  rotate_left
  · intro A4 hA4
    have oA4:=ne_new hA4 ho3
    have hA40:H A4=none:=but_new bt3 hA4 oA4
    have a43:=ne_new hA4 hA33
    have a42:=ne_new hA4 hA23
    have a41:=ne_new hA4 h13
    refine ⟨_,rfl,o,CN,dx,_,rfl,(upd_ne (Ne.symm oA4)).trans ho3,Z.cN,Z.nBits,(show 3 < 1000 by decide),key _ _ ⟨A4,rfl,oA4,a43,a42,a41,hA40,but_own (but_put bt3 hA40),upd_same,(upd_ne oA3).trans ((upd_ne (Ne.symm a43)).trans hA33),(upd_ne oA2).trans ((upd_ne (Ne.symm a42)).trans hA23),(upd_ne oA4).trans upd_same,(upd_ne oA1).trans ((upd_ne (Ne.symm a41)).trans h13)⟩⟩
  rintro σ' H4 ⟨A4,rfl,oA4,a43,a42,a41,hA40,bt4,ho4,hA34,hA24,hA44,h14⟩
  refine rd_cut (Iv_ninit3 CN o dx T L A1 A2 A3 A4 H us ts ls) ?_ (fun key => ?_)
  rotate_left
  · refine ⟨_,rfl,o,CN,dx,_,_,rfl,ho4,Z.cN,Z.nHeld,rfl,A3,rfl,⟨_,SqL.of hA34⟩,?_⟩
    refine for_enum (xs:=(heldF ts).map V.str) (Iv_ninit4 CN o dx T L A1 A2 A3 A4 H us ts ls) ⟨none,none, [],rfl,bt4,ho4,hA34,hA24,hA44,bits_nil _,h14⟩ ?_ ?_ ?_
    · rintro i σ H' _ ⟨x3,x4,kb,rfl,_,_,h,_⟩
      exact SqL.of h
    · rintro i x a0 σ H' hx ⟨x3,x4,kb,rfl,bt,hho,hh3,hh2,hh4,hb,hh1⟩ ha0
      rw [List.getElem?_map] at hx
      obtain ⟨z,hz,rfl⟩:=Option.map_eq_some_iff.mp hx
      have hi:i < (heldF ts).length:=(List.getElem?_eq_some_iff.mp hz).1
      have s5:=same_new ha0 (.tup [.int (i:Int),.str z])
      have bt5:=but_same bt s5
      have hbl:=hb.len
      refine ⟨a0,_,rfl,SqT.of upd_same,rfl,_,_,rfl,_,_,rfl,rfl,?_⟩
      generalize upd H' a0 (.tup [.int (i:Int),.str z])=H5 at s5 bt5 ⊢
      refine ⟨_,rfl,_,_,rfl,rfl,⟨by omega,by omega,by decide⟩,_,rfl,o,CN,dx,_,_,rfl,s5 _ _ hho,Z.cN,Z.nBits,rfl,_,rfl,A4,_,rfl,DPut.k (k:=Sum.inr z) (s5 _ _ hh4) (small1000 (by omega)),?_⟩
      have ev:V.int (1 * 2 ^ ((i:Int)).toNat)=nV (2 ^ i):=by
        rw [Int.toNat_natCast,Int.one_mul];exact congrArg V.int (by norm_cast)
      have hb2:=bits_step hsn hb hz
      rw [← ev] at hb2
      refine ⟨some (.int (i:Int)),some (.str z),_,rfl,but_put bt5 hA40,(upd_ne (Ne.symm oA4)).trans (s5 _ _ hho),(upd_ne (Ne.symm a43)).trans (s5 _ _ hh3),(upd_ne (Ne.symm a42)).trans (s5 _ _ hh2),upd_same,hb2,(upd_ne (Ne.symm a41)).trans (s5 _ _ hh1)⟩
    · rintro σ H' ⟨x3,x4,kb,e,bt,hho,hh3,hh2,hh4,hb,hh1⟩
      rw [List.length_map] at hb
      exact key _ _ ⟨x3,x4,kb,e,bt,hho,hh3,hh2,hh4,hb,hh1⟩
  rintro σ' H5 ⟨x3,x4,kb,rfl,bt5,ho5,hA35,hA25,hA45,hkb,h15⟩
  refine rd_cut (Iv_ninit5 CN o dx T L A1 A2 A3 A4 H us ts ls x3 x4 kb) ?_ (fun key => ?_)
  rotate_left
  · intro A5 hA5
    have oA5:=ne_new hA5 ho5
    have hA50:H A5=none:=but_new bt5 hA5 oA5
    have a53:=ne_new hA5 hA35
    have a52:=ne_new hA5 hA25
    have a54:=ne_new hA5 hA45
    have a51:=ne_new hA5 h15
    refine ⟨_,rfl,o,CN,dx,_,rfl,(upd_ne (Ne.symm oA5)).trans ho5,Z.cN,Z.nStanding,(show 4 < 1000 by decide),key _ _ ⟨A5,rfl,oA5,a53,a52,a54,a51,hA50,but_own (but_put bt5 hA50),upd_same,(upd_ne oA3).trans ((upd_ne (Ne.symm a53)).trans hA35),(upd_ne oA2).trans ((upd_ne (Ne.symm a52)).trans hA25),(upd_ne oA4).trans ((upd_ne (Ne.symm a54)).trans hA45),(upd_ne oA5).trans upd_same,(upd_ne oA1).trans ((upd_ne (Ne.symm a51)).trans h15)⟩⟩
  rintro σ' H6 ⟨A5,rfl,oA5,a53,a52,a54,a51,hA50,bt6,ho6,hA36,hA26,hA46,hA56,h16⟩
  have hT6:=bt6 _ _ hTo hT
  refine ⟨_,rfl,T,rfl,⟨us,SqL.of hT6⟩,?_⟩
  refine for_enum (xs:=us) (Iv_ninit6 CN o dx T L A1 A2 A3 A4 A5 H us ts ls x3 x4 kb) ⟨none,none, [],rfl,bt6,ho6,hA36,hA26,hA46,hA56,stand_nil _ _ _,h16⟩ ?_ ?_ ?_
  · rintro i σ H' _ ⟨x5,x6,ks,rfl,bt,_⟩
    exact SqL.of (bt _ _ hTo hT)
  · rintro i x a0 σ H' hx ⟨x5,x6,ks,rfl,bt,hho,hh3,hh2,hh4,hh5,hst,hh1⟩ ha0
    obtain ⟨t,ht,hxt⟩:=tms_at hts hx
    have hi:i < ts.length:=(List.getElem?_eq_some_iff.mp ht).1
    have hli:=getD_at (ls:=ls) (k:=i) (by rw [hll];exact hi)
    have s5:=same_new ha0 (.tup [.int (i:Int),x])
    have bt':=but_same bt s5
    have hstl:=hst.len
    refine ⟨a0,_,rfl,SqT.of upd_same,rfl,_,_,rfl,_,_,rfl,rfl,?_⟩
    generalize upd H' a0 (.tup [.int (i:Int),x])=H7 at s5 bt' ⊢
    have kp7:∀ b ys,H b=some (.tup ys)→H7 b=some (.tup ys):=fun b ys e=>bt' _ _ (fun z=>by rw [z,ho] at e;cases e) e
    have hxt7:=hxt.keep kp7
    have hL7:=bt' _ _ hLo hL
    obtain ⟨a,xs,x0,y,rfl,h,h0,h1,hn,hz⟩:=tm_two hxt7
    refine ⟨_,rfl,a,_,_,_,rfl,rfl,SqT.of h,h0,rfl,_,rfl,iteD (fun w1 => ?_) (fun w1 => ?_)⟩
    · obtain ⟨z,ez⟩:=Option.isSome_iff_exists.mp (hn.mp (V.str.inj w1))
      have ey:=hz z ez
      subst ey
      rw [nameT_some ez] at ht
      obtain ⟨nz,hnz⟩:=held_at ht
      have eb:=bits_of hnd hkb hnz
      have hd:DGet H7 A4 (.str z) (some (nV (bitW (heldF ts) z))):=by rw [← eb];exact DGet.k (k:=Sum.inr z) (s5 _ _ hh4)
      have e5:=hst.at_ (ls.getD i 0)
      refine ⟨_,rfl,o,CN,dx,_,_,rfl,s5 _ _ hho,Z.cN,Z.nStanding,rfl,A5,rfl,.inl ⟨_,.inl (s5 _ _ hh5)⟩,_,rfl,_,rfl,L,_,_,_,rfl,rfl,SqL.of hL7,nV_at hli,_,DGet.k (k:=lk (ls.getD i 0)) (s5 _ _ hh5),?_⟩
      refine ⟨_,rfl,o,CN,dx,_,_,rfl,s5 _ _ hho,Z.cN,Z.nBits,rfl,_,rfl,a,_,_,_,rfl,rfl,SqT.of h,h1,A4,_,rfl,hd,_,_,e5,rfl,?_⟩
      refine ⟨_,rfl,o,CN,dx,_,_,rfl,s5 _ _ hho,Z.cN,Z.nStanding,rfl,_,rfl,_,rfl,L,_,_,_,rfl,rfl,SqL.of hL7,nV_at hli,A5,_,rfl,DPut.k (k:=lk (ls.getD i 0)) (s5 _ _ hh5) (small1000 (by omega)),?_⟩
      have hst2:=stand_put hst ht
      rw [show nV (stand (heldF ts) ts ls (ls.getD i 0) i ||| bitW (heldF ts) z)=V.int (Builtin.bitOr ((stand (heldF ts) ts ls (ls.getD i 0) i:Nat):Int) ((bitW (heldF ts) z:Nat):Int)) by rw [bor_nat]] at hst2
      exact ⟨_,_,_,rfl,but_put bt' hA50,(upd_ne (Ne.symm oA5)).trans (s5 _ _ hho),(upd_ne (Ne.symm a53)).trans (s5 _ _ hh3),(upd_ne (Ne.symm a52)).trans (s5 _ _ hh2),(upd_ne (Ne.symm a54)).trans (s5 _ _ hh4),upd_same,hst2,(upd_ne (Ne.symm a51)).trans (s5 _ _ hh1)⟩
    · have hne:nameT t=none:=by
        cases e:nameT t with
        | none=>rfl
        | some z=>exact absurd (by rw [hn.mpr (by rw [e];rfl)]) w1
      exact ⟨_,_,_,rfl,bt',s5 _ _ hho,s5 _ _ hh3,s5 _ _ hh2,s5 _ _ hh4,s5 _ _ hh5,stand_skip hst ht hne,s5 _ _ hh1⟩
  · rintro σ H' ⟨x5,x6,ks,rfl,bt,hho,hh3,hh2,hh4,hh5,hst,hh1⟩
    rw [hut] at hst
    exact q H' bt ⟨dx,A1,A2,A3,A4,A5,kb,ks,hho,hh2,hh3,hh4,hkb,hh5,hst,⟨us,hh1,tms_keep (fun b ys e=>bt _ _ (fun z=>by rw [z,ho] at e;cases e) e) hts⟩,hA10,hA20,hA30⟩
end

end K39
namespace K39
open PySem L2 Sw
section
variable {P:Program} {w:World} {K:PySem.W.Frag} {mg:Str→Option Value} {base:Heap} {CN:Addr}
inductive SpTopN (CN:Addr) (vs:List V) (H:Hp) (Q:VK):Prop
  | mk (o:Addr) (ts:List Tm) (ls:List Nat) (z0:vs = [.ref o]) (z1:NamesAt CN H o ts ls) (z2:ts.length≤24) (z3:Q (nV (2 ^ (heldF ts).length - 1)) H):SpTopN CN vs H Q
noncomputable def spTopN (CN:Addr):Sp:=fun vs H Q _=>SpTopN CN vs H Q
theorem ok_topN (B:Blt mg) (Z:TopN K CN) (D:DefM K CN "top" "Names.top" s_ntop ["self"]):HasM P w K mg base 1 CN "top" ["self"] (spTopN CN):=by
  refine D.has sc_ntop (fun vs H Q E h => ?_) (fun f cdv A outer s H vs Q E hr h => ?_)
  · obtain ⟨o,ts,ls,rfl,_⟩:=h;rfl
  obtain ⟨o,ts,ls,rfl,hN,few,q⟩:=h
  obtain ⟨dx,A1,A2,A3,A4,A5,kb,ks,h1,h2,h3,h4,h5,h6,h7,h8⟩:=hN.ex
  refine ⟨_,(pss_one (ps_ret (pe_op op_sub (pe_op op_shl pe_int (pe_callB call_len_seq rfl B.len_ PySem.boot_len (pa_cons (pe_fld (pv 0) rfl) pa_nil))) pe_int))),?_⟩
  try dsimp only [cxOf]
  have hl:=held_len ts
  refine ⟨_,rfl,o,CN,dx,_,_,rfl,h1,Z.cN,Z.nHeld,rfl,A3,_,rfl,.inl (SqL.of h3),_,_,rfl,rfl,⟨by omega,by rw [List.length_map];omega,by decide⟩,_,_,rfl,rfl,?_⟩
  rw [List.length_map]
  have e:(1:Int) * 2 ^ (((heldF ts).length:Nat):Int).toNat - 1=((2 ^ (heldF ts).length - 1:Nat):Int):=by
    rw [Int.toNat_natCast,Int.one_mul]
    have:=Nat.two_pow_pos (heldF ts).length
    push_cast [Int.ofNat_sub this]
    omega
  show Q (V.int (1 * 2 ^ (((heldF ts).length:Nat):Int).toNat - 1)) H
  rw [e]
  exact q
inductive SpWorthN (K:PySem.W.Frag) (CN:Addr) (vs:List V) (H:Hp) (Q:VK):Prop
  | mk (o L:Addr) (ts:List Tm) (ls ks:List Nat) (v:V) (t:Tm) (k:Nat) (z0:vs = [.ref o,v,.ref L]) (z1:NamesAt CN H o ts ls) (z2:ts.Nodup) (z3:IsTm H t v) (z4:SqL K H L (ks.map nV)) (z5:ts[k]? = some t) (z6:TmIn ks.length t) (z7:ks.length=ls.length) (z8:(∀ x as,t = .of x as→as.length≤4)) (z9:Q (nV (worthN ts ls ks t)) H):SpWorthN K CN vs H Q
noncomputable def spWorthN (K:PySem.W.Frag) (CN:Addr):Sp:=fun vs H Q _=>SpWorthN K CN vs H Q
theorem iz_bind {x:Str} {as:List Nat}:isOp "bind" 2 (.of x as)=true↔x = "bind" ∧ as.length=2:=by
  unfold isOp
  rw [Bool.and_eq_true,decide_eq_true_iff,decide_eq_true_iff]
theorem ok_worthN (B:Blt mg) (Z:TopN K CN) (h_is_binder:Has P w K mg base 1 "is_binder" ["term"] (spIsOp "bind" 2)) (D:DefM K CN "worth" "Names.worth" s_nworth ["self", "term", "known"]):HasM P w K mg base 2 CN "worth" ["self", "term", "known"] (spWorthN K CN):=by
  refine D.has sc_nworth (fun vs H Q E h => ?_) (fun f cdv A outer s H vs Q E hr h => ?_)
  · obtain ⟨o,L,ts,ls,ks,v,t,k,rfl,_⟩:=h;rfl
  obtain ⟨o,L,ts,ls,ks,v,t,k,rfl,hN,hnd,hT,hL,htk,hin,hkl,h4as,q⟩:=h
  obtain ⟨dx,A1,A2,A3,A4,A5,kb,kst,h1,h2,h3,h4,h5,h6,h7,h8⟩:=hN.ex
  refine ⟨_,(pss_cons (ps_if (pt_cmpR op_eq (pe_ix ix_tup (pv 1) pe_int (fun _ _=>rfl)) pe_str (nomark _)) (pss_one (ps_ret pe_int)) pss_nil)
    (pss_cons (ps_if (pt_cmpR op_eq (pe_ix ix_tup (pv 1) pe_int (fun _ _=>rfl)) pe_str (nomark _)) (pss_one (ps_ret (pe_dget2 (hu_of hr) (pe_fld (pv 0) rfl) (pe_ix ix_tup (pv 1) pe_int (fun _ _=>rfl)) pe_int ⟨rfl,rfl,rfl,rfl⟩))) pss_nil)
    (pss_cons (ps_if (pt_val (pe_callH h_is_binder hr (by omega) rfl (pa_cons (pv 1) pa_nil))) (pss_cons (ps_set (i:=3) sc_nworth.nd rfl (Or.inl rfl) (pe_dget2 (hu_of hr) (pe_fld (pv 0) rfl) (pe_ix ix_list (pe_fld (pv 0) rfl) (pe_ix ix_tup (pe_ix ix_tup (pv 1) pe_int (fun _ _=>rfl)) pe_int (fun _ _=>rfl)) (fun _ _=>rfl)) pe_int ⟨rfl,rfl,rfl,rfl⟩))
    (pss_one (ps_ret (pe_op op_and (pe_ix ix_list (pv 2) (pe_ix ix_tup (pe_ix ix_tup (pv 1) pe_int (fun _ _=>rfl)) pe_int (fun _ _=>rfl)) (fun _ _=>rfl)) (pe_un un_inv (pv 3)))))) pss_nil)
    (pss_cons (ps_set (i:=4) sc_nworth.nd rfl (Or.inl rfl) pe_int)
    (pss_cons (ps_for PassesOwn.leaving rfl (pi_tup (pe_ix ix_tup (pv 1) pe_int (fun _ _=>rfl))) (pg_name (i:=5) sc_nworth.nd rfl (Or.inl rfl))
    (pss_one (ps_set (i:=4) sc_nworth.nd rfl (Or.inl rfl) (pe_op op_or (pv 4) (pe_ix ix_list (pv 2) (pv 5) (fun _ _=>rfl))))))
    (pss_one (ps_ret (pv 4)))))))),?_⟩
  try dsimp only [cxOf]
  cases t with
  | num n =>
    obtain ⟨a,rfl,h⟩:=id hT
    exact ⟨_,rfl,a,_,0,_,rfl,rfl,SqT.of h,atI_nat (j:=0) rfl,rfl,_,rfl,iteD (fun _=>q) (fun z=>absurd rfl z)⟩
  | name z =>
    obtain ⟨a,rfl,h⟩:=id hT
    refine ⟨_,rfl,a,_,0,_,rfl,rfl,SqT.of h,atI_nat (j:=0) rfl,rfl,_,rfl,iteD (fun z=>absurd (V.str.inj z) (by decide)) (fun _ => ?_)⟩
    dsimp only [tNext]
    obtain ⟨nz,hnz⟩:=held_at htk
    have eb:=bits_of hnd h5 hnz
    refine ⟨_,rfl,a,_,0,_,rfl,rfl,SqT.of h,atI_nat (j:=0) rfl,rfl,_,rfl,iteD (fun _ => ?_) (fun z=>absurd rfl z)⟩
    refine ⟨_,rfl,o,CN,dx,_,_,rfl,h1,Z.cN,Z.nBits,rfl,A4,rfl,.inl ⟨_,.inl h4⟩,_,rfl,a,_,1,_,rfl,rfl,SqT.of h,atI_nat (j:=1) rfl,_,DGet.k (k:=Sum.inr z) h4,?_⟩
    rw [eb]
    exact q
  | of x as =>
    obtain ⟨a,b,rfl,h,hb⟩:=id hT
    refine ⟨_,rfl,a,_,0,_,rfl,rfl,SqT.of h,atI_nat (j:=0) rfl,rfl,_,rfl,iteD (fun z=>absurd (V.str.inj z) (by decide)) (fun _ => ?_)⟩
    dsimp only [tNext]
    refine ⟨_,rfl,a,_,0,_,rfl,rfl,SqT.of h,atI_nat (j:=0) rfl,rfl,_,rfl,iteD (fun z=>absurd (V.str.inj z) (by decide)) (fun _ => ?_)⟩
    dsimp only [tNext]
    refine ⟨_,rfl,_,_,rfl,hT,_,rfl,?_⟩
    dsimp only
    rw [worth_of] at q
    cases e:isOp "bind" 2 (.of x as) with
    | true =>
      obtain ⟨ex,ea⟩:=iz_bind.mp e
      rw [if_pos ⟨ex,ea⟩] at q
      have g0:=getD_at (ls:=as) (k:=0) (by omega)
      have g1:=getD_at (ls:=as) (k:=1) (by omega)
      have i0:as.getD 0 0 < ls.length:=by have:=hin _ (List.mem_of_getElem? g0);omega
      have i1:as.getD 1 0 < ks.length:=hin _ (List.mem_of_getElem? g1)
      have e5:=h7.at_ (ls.getD (as.getD 0 0) 0)
      refine iteT ⟨_,rfl,o,CN,dx,_,_,rfl,h1,Z.cN,Z.nStanding,rfl,A5,rfl,.inl ⟨_,.inl h6⟩,_,rfl,o,CN,dx,_,_,rfl,h1,Z.cN,Z.nLeads,rfl,_,rfl,a,_,2,_,rfl,rfl,SqT.of h,atI_nat (j:=2) rfl,b,_,0,_,rfl,rfl,SqT.of hb,nV_at g0,A2,_,_,_,rfl,rfl,SqL.of h2,nV_at (getD_at i0),_,DGet.k (k:=lk (ls.getD (as.getD 0 0) 0)) h6,?_⟩
      dsimp only [gName]
      refine ⟨_,rfl,_,rfl,a,_,2,_,rfl,rfl,SqT.of h,atI_nat (j:=2) rfl,b,_,1,_,rfl,rfl,SqT.of hb,nV_at g1,L,_,_,_,rfl,rfl,hL,nV_at (getD_at i1),_,rfl,_,e5,_,_,rfl,rfl,?_⟩
      show Q (V.int (Builtin.bitAnd _ (Builtin.bitNot _))) H
      rw [bclr_nat]
      exact q
    | false =>
      rw [if_neg (fun z=>by rw [iz_bind.mpr z] at e;cases e)] at q
      refine iteF ?_
      dsimp only [tNext]
      have h4:=h4as x as rfl
      refine rd_cut (fun σ' H' => σ' = [some (.ref o),some (.ref a),some (.ref L),none,some (nV (orF ks (as.take 0))),none]∧H'=H) ?_ (fun key=>key _ _ ⟨rfl,rfl⟩)
      rintro σ0 H ⟨rfl,rfl⟩
      refine rd_cut (fun σ' H'=>∃ o5, σ' = [some (.ref o),some (.ref a),some (.ref L),none,some (nV (orF ks as)),o5]∧H'=H) ?_ (fun key => ?_)
      · rintro σ1 H1 ⟨o5,rfl,rfl⟩
        exact ⟨_,rfl,q⟩
      · refine ⟨_,rfl,a,_,2,_,rfl,rfl,SqT.of h,atI_nat (j:=2) rfl,b,rfl,⟨_,SqT.of hb⟩,?_⟩
        refine for_tup (xs:=as.map nV) (fun i σ' H'=>∃ o5, σ' = [some (.ref o),some (.ref a),some (.ref L),none,some (nV (orF ks (as.take i))),o5]∧H'=H) ⟨none,rfl,rfl⟩ ?_ ?_ ?_
        · rintro i σ' H' _ ⟨o5,rfl,rfl⟩
          exact SqT.of hb
        · rintro i x σ' H' hx ⟨o5,rfl,rfl⟩
          rw [List.getElem?_map] at hx
          obtain ⟨y,hy,rfl⟩:=Option.map_eq_some_iff.mp hx
          have iy:y < ks.length:=hin _ (List.mem_of_getElem? hy)
          refine ⟨_,rfl,_,rfl,_,rfl,L,_,_,_,rfl,rfl,hL,nV_at (getD_at iy),_,_,rfl,rfl,?_⟩
          refine ⟨some (nV y),?_,rfl⟩
          rw [or_take hy]
          show _ = [some (.ref o),some (.ref a),some (.ref L),none,some (V.int (((orF ks (as.take i) ||| ks.getD y 0:Nat)):Int)),_]
          rw [← bor_nat]
          rfl
        · rintro σ' H' ⟨o5,rfl,rfl⟩
          rw [List.length_map,List.take_length]
          exact key _ _ ⟨o5,rfl,rfl⟩
end

end K39
namespace K39
open PySem L2 Sw
section
variable {P:Program} {w:World} {K:PySem.W.Frag} {mg:Str→Option Value} {base:Heap} {CS CN tB:Addr}
theorem dec_vint {a b:Int}:decide (V.int a=V.int b)=decide (a=b):=decide_eq_decide.mpr ⟨fun z=>V.int.inj z,fun z=>by rw [z]⟩
noncomputable def freeF (ts:List Tm) (f:Nat) (z:Str):Bool:=if z∈heldF ts then decide (f &&& bitW (heldF ts) z=0) else true
inductive SpNFree (K:PySem.W.Frag) (CN:Addr) (vs:List V) (H:Hp) (Q:VK):Prop
  | mk (o L:Addr) (ts:List Tm) (ls ks:List Nat) (k:Nat) (z:Str) (z0:vs = [.ref o,.ref L,nV k,.str z]) (z1:NamesAt CN H o ts ls) (z2:ts.Nodup) (z3:SqL K H L (ks.map nV)) (z4:k < ks.length) (z5:Q (.bl (freeF ts (ks.getD k 0) z)) H):SpNFree K CN vs H Q
noncomputable def spNFree (K:PySem.W.Frag) (CN:Addr):Sp:=fun vs H Q _=>SpNFree K CN vs H Q
theorem and_zero {f b:Nat}:decide (V.int (Builtin.bitAnd ((f:Nat):Int) ((b:Nat):Int))=V.int 0)=decide (f &&& b=0):=by
  rw [dec_vint,band_nat]
  refine decide_eq_decide.mpr ⟨fun z=>by omega,fun z=>by rw [z];rfl⟩
theorem ok_nfree (Z:TopN K CN) (D:DefM K CN "free" "Names.free" s_nfree ["self", "known", "k", "name"]):HasM P w K mg base 1 CN "free" ["self", "known", "k", "name"] (spNFree K CN):=by
  refine D.has sc_nfree (fun vs H Q E h => ?_) (fun f cdv A outer s H vs Q E hr h => ?_)
  · obtain ⟨o,L,ts,ls,ks,k,z,rfl,_⟩:=h;rfl
  obtain ⟨o,L,ts,ls,ks,k,z,rfl,hN,hnd,hL,hk,q⟩:=h
  obtain ⟨dx,A1,A2,A3,A4,A5,kb,kst,h1,h2,h3,h4,h5,h6,h7,h8⟩:=hN.ex
  refine ⟨_,(pss_one (ps_ret (pe_or (pe_cmp (pc_dnotin (hu_of hr) (pv 3) (pe_fld (pv 0) rfl)) (by with_unfolding_all rfl)) (pe_one (pe_cmpR op_eq (pe_op op_and (pe_ix ix_list (pv 1) (pv 2) (fun _ _=>rfl)) (pe_dget (hu_of hr) (pe_fld (pv 0) rfl) (pv 3) (fun _ _=>rfl))) pe_int (nomark _)))))),?_⟩
  try dsimp only [cxOf]
  refine ⟨_,rfl,_,rfl,o,CN,dx,_,_,rfl,h1,Z.cN,Z.nBits,rfl,A4,_,rfl,DGet.k (k:=Sum.inr z) h4,?_⟩
  unfold freeF at q
  by_cases hz:z∈heldF ts
  · obtain ⟨nz,hnz⟩:=List.getElem?_of_mem hz
    have eb:=bits_of hnd h5 hnz
    rw [if_pos hz] at q
    rw [eb]
    have hd:DGet H A4 (.str z) (some (nV (bitW (heldF ts) z))):=by rw [← eb];exact DGet.k (k:=Sum.inr z) h4
    refine ⟨_,rfl,iteF ⟨_,rfl,_,rfl,L,_,_,_,rfl,rfl,hL,nV_at (getD_at hk),_,rfl,o,CN,dx,_,_,rfl,h1,Z.cN,Z.nBits,rfl,_,rfl,A4,_,rfl,hd,_,_,rfl,rfl,rfl,?_⟩⟩
    show Q (.bl (decide (V.int (Builtin.bitAnd ((ks.getD k 0:Nat):Int) ((bitW (heldF ts) z:Nat):Int))=V.int 0))) H
    rw [and_zero]
    exact q
  · rw [if_neg hz] at q
    rw [bits_none h5 hz]
    exact ⟨_,rfl,iteT q⟩
end

end K39
namespace K39
open PySem L2 Sw
section
variable {P:Program} {w:World} {K:PySem.W.Frag} {mg:Str→Option Value} {base:Heap}
theorem filt_map (f:Nat→Bool) (n:Nat):(List.range n).filterMap (fun i:Nat=>if f i=true then some (nV i) else none)=((List.range n).filter f).map nV:=by
  induction n with
  | zero=>rfl
  | succ n ih =>
    rw [List.range_succ,List.filterMap_append,List.filter_append,List.map_append,ih]
    congr 1
    cases h:f n <;> simp [h]
inductive SpMembers (K:PySem.W.Frag) (vs:List V) (H:Hp) (Q:VK):Prop
  | mk (L:Addr) (ls:List Nat) (k:Nat) (z0:vs = [.ref L,nV k]) (z1:SqL K H L (ls.map nV)) (z2:ls.length≤900) (z3:k < ls.length) (z4:∀ D,H D=none→Q (.ref D) (upd H D (.lst ((classF ls k).map nV)))):SpMembers K vs H Q
noncomputable def spMembers (K:PySem.W.Frag):Sp:=fun vs H Q _=>SpMembers K vs H Q
theorem ok_members (B:Blt mg) (D:Def K mg "members" s_members ["leads", "k"]):Has P w K mg base 1 "members" ["leads", "k"] (spMembers K):=by
  refine D.has sc_members (fun vs H Q E h => ?_) (fun f cdv A outer s H vs Q E hr h => ?_)
  · obtain ⟨L,ls,k,rfl,_⟩:=h;rfl
  obtain ⟨L,ls,k,rfl,hL,hz,hk,q⟩:=h
  refine ⟨_,(pss_one (ps_ret (pe_compI (te:=_) (ct:=(tTest (tOp _ (tOp (rIxL K) _ _) (tOp (rIxL K) _ _)))) (own := ["number"]) (caps := [("leads",0),("k",1)]) (comp_scope (defScope s_members) ["leads", "k"] rfl rfl rfl (by decide +kernel)) (pi_range1 rfl B.range_ (pa_cons (pe_callB call_len_seq rfl B.len_ PySem.boot_len (pa_cons (pv 0) pa_nil)) pa_nil)) rfl (fun _ _ _=>pg_name (i:=0) (show (["number", "leads", "k"]:List Str).Nodup by decide +kernel) rfl (Or.inl rfl)) (fun _ _ _=>(pt_cmpR op_eq (pe_ix ix_list (pv 1) (pv 0) (fun _ _=>rfl)) (pe_ix ix_list (pv 1) (pv 2) (fun _ _=>rfl)) (nomark _))) (fun _ _ _=>(pv 0))))),?_⟩
  try dsimp only [cxOf]
  have hl:(ls.map nV).length=ls.length:=List.length_map ..
  refine ⟨_,rfl,L,_,rfl,.inl hL,_,rfl,by omega,by omega,?_⟩
  rw [Int.toNat_natCast,hl]
  refine compI_range (lo:=0) (fun i=>if decide (ls.getD i.toNat 0=ls.getD k 0)=true then some (nV i.toNat) else none) (by omega) (fun i hi H' sm R q' => ?_) (fun i v hi e H' sm Q' q' => ?_) (fun D1 hD1 => ?_)
  · have e1:ls[i]? = some (ls.getD i 0):=getD_at hi
    have e2:ls[k]? = some (ls.getD k 0):=getD_at hk
    have ei:(0+(i:Int))=((i:Nat):Int):=by omega
    rw [ei] at q' ⊢
    refine ⟨_,rfl,_,rfl,L,_,_,_,rfl,rfl,sm.seq hL,nV_at e1,_,rfl,_,rfl,L,_,_,_,rfl,rfl,sm.seq hL,nV_at e2,rfl,_,rfl,?_⟩
    rw [Int.toNat_natCast] at q'
    have e3:decide (nV (ls.getD i 0)=nV (ls.getD k 0))=decide (ls.getD i 0=ls.getD k 0):=decide_eq_decide.mpr ⟨fun z=>by have:=V.int.inj z;omega,fun z=>by rw [z]⟩
    rw [e3]
    cases hd:decide (ls.getD i 0=ls.getD k 0) with
    | true=>rw [hd] at q';exact q'
    | false=>rw [hd] at q';exact q'
  · have ei:(0+(i:Int))=((i:Nat):Int):=by omega
    rw [ei] at e ⊢
    rw [Int.toNat_natCast] at e
    split at e
    · have:=Option.some.inj e
      subst this
      exact ⟨_,rfl,q'⟩
    · cases e
  · have e:((List.range ls.length).filterMap fun i:Nat=>(fun i:Int=>if decide (ls.getD i.toNat 0=ls.getD k 0)=true then some (nV i.toNat) else none) (0+(i:Int)))=(classF ls k).map nV:=by
      rw [classF, ← filt_map]
      congr 1
      funext i
      have ei:(0+(i:Int)).toNat=i:=by omega
      show (if decide (ls.getD (0+(i:Int)).toNat 0=ls.getD k 0)=true then some (nV (0+(i:Int)).toNat) else none)=_
      rw [ei]
    rw [e]
    exact q D1 hD1
end

section
variable {P:Program} {w:World} {K:PySem.W.Frag} {mg:Str→Option Value} {base:Heap}
theorem tm_num {H:Hp} {t:Tm} {v:V} (h:IsTm H t v):∃ a xs,v = .ref a∧H a=some (.tup xs)∧∃ z:Str,atI xs 0=some (.str z)∧(z = "num" ↔ (numT t).isSome=true)∧∀ n,numT t=some n→atI xs 1=some (.int n):=by
  cases t with
  | num n =>
    obtain ⟨a,rfl,h⟩:=h
    exact ⟨a,_,rfl,h, "num",atI_nat (j:=0) rfl,⟨fun _=>rfl,fun _=>rfl⟩,fun m e=>by rw [← Option.some.inj e];exact atI_nat (j:=1) rfl⟩
  | name x =>
    obtain ⟨a,rfl,h⟩:=h
    exact ⟨a,_,rfl,h, "name",atI_nat (j:=0) rfl,⟨fun z=>absurd z (by decide),fun z=>(by cases z)⟩,fun m e=>(by cases e)⟩
  | of x as =>
    obtain ⟨a,b,rfl,h,_⟩:=h
    exact ⟨a,_,rfl,h, "of",atI_nat (j:=0) rfl,⟨fun z=>absurd z (by decide),fun z=>(by cases z)⟩,fun m e=>(by cases e)⟩
inductive SpNumbers (vs:List V) (H:Hp) (Q:VK):Prop
  | mk (T L:Addr) (us:List V) (ts:List Tm) (ls:List Nat) (k:Nat) (z0:vs = [.ref T,.ref L,nV k]) (z1:H T=some (.lst us)) (z2:Tms H us ts) (z3:H L=some (.lst (ls.map nV))) (z4:ls.length=ts.length) (z5:ts.length≤900) (z6:k < ts.length) (z7:∀ N H',Same H H'→H N=none→H' N=some (.lst ((numsF ts ls k).map V.int))→Q (.ref N) H'):SpNumbers  vs H Q
noncomputable def spNumbers:Sp:=fun vs H Q _=>SpNumbers  vs H Q
theorem filt_nums (ts:List Tm) (l:List Nat):((l.map nV).filterMap fun x=>(numAtF ts (vI x).toNat).map V.int)=(l.filterMap (numAtF ts)).map V.int:=by
  induction l with
  | nil=>rfl
  | cons j l ih =>
    rw [List.map_cons,List.filterMap_cons,List.filterMap_cons]
    have ev:(vI (nV j)).toNat=j:=by show ((j:Nat):Int).toNat=j;omega
    rw [ev]
    cases numAtF ts j with
    | none=>exact ih
    | some n =>
      show V.int n :: _=_
      rw [ih];rfl
theorem ok_numbers (h_members:Has P w K mg base 1 "members" ["leads", "k"] (spMembers K)) (D:Def K mg "numbers" s_numbers ["terms", "leads", "k"]):Has P w K mg base 2 "numbers" ["terms", "leads", "k"] spNumbers:=by
  refine D.has sc_numbers (fun vs H Q E h => ?_) (fun f cdv A outer s H vs Q E hr h => ?_)
  · obtain ⟨T,L,us,ts,ls,k,rfl,_⟩:=h;rfl
  obtain ⟨T,L,us,ts,ls,k,rfl,hT,hts,hL,hll,hz,hk,q⟩:=h
  refine ⟨_,(pss_one (ps_ret (pe_compI (te:=(tOp (rIxT K) (tOp (rIxL K) _ _) _)) (ct:=(tTest (tOp _ (tOp (rIxT K) (tOp (rIxL K) _ _) _) _))) (own := ["member"]) (caps := [("terms",0)]) (comp_scope (defScope s_numbers) ["terms", "leads", "k"] rfl rfl rfl (by decide +kernel)) (pi_list (pe_callH h_members hr (by omega) rfl (pa_cons (pv 1) (pa_cons (pv 2) pa_nil)))) rfl (fun _ _ _=>pg_name (i:=0) (show (["member", "terms"]:List Str).Nodup by decide +kernel) rfl (Or.inl rfl)) (fun _ _ _=>(pt_cmpR op_eq (pe_ix ix_tup (pe_ix ix_list (pv 1) (pv 0) (fun _ _=>rfl)) pe_int (fun _ _=>rfl)) pe_str (nomark _))) (fun _ _ _=>(pe_ix ix_tup (pe_ix ix_list (pv 1) (pv 0) (fun _ _=>rfl)) pe_int (fun _ _=>rfl)))))),?_⟩
  try dsimp only [cxOf]
  have hut:=Paired.length hts
  refine ⟨_,rfl,_,rfl,L,ls,k,rfl,SqL.of hL,by omega,by omega,fun M hM => ?_⟩
  have s1:=same_new hM (.lst ((classF ls k).map nV))
  have hM1:=upd_same (H:=H) (a:=M) (o := .lst ((classF ls k).map nV))
  generalize upd H M (.lst ((classF ls k).map nV))=H1 at s1 hM1 ⊢
  refine ⟨M,rfl,⟨_,SqL.of hM1⟩,?_⟩
  have look:∀ x∈(classF ls k).map nV,∃ j v t,x=nV j∧us[j]? = some v∧ts[j]? = some t∧IsTm H1 t v:=fun x hx=>by
    obtain ⟨j,hj,rfl⟩:=List.mem_map.mp hx
    have hjl:=List.mem_range.mp (List.mem_filter.mp hj).1
    have hv:us[j]? = some us[j]:=List.getElem?_eq_getElem (by omega)
    obtain ⟨t,e,r⟩:=tms_at hts hv
    exact ⟨j,_,t,rfl,hv,e,r.same s1⟩
  refine compI_listS (xs:=(classF ls k).map nV) (fun x=>(numAtF ts (vI x).toNat).map V.int) (SqL.of hM1) ?_ (fun x hx H' sm R r => ?_) (fun x y hx e H' sm Q' q' => ?_) (fun D1 H' hD1 sm hD => ?_)
  · rw [List.length_map]
    refine Nat.le_trans (List.length_filter_le _ _) ?_
    rw [List.length_range];omega
  · obtain ⟨j,v,t,rfl,hv,ht,hvt⟩:=look x hx
    obtain ⟨a,xs,rfl,ha,z,h0,hz0,h1⟩:=tm_num (hvt.same sm)
    refine ⟨_,rfl,_,rfl,T,_,_,_,rfl,rfl,SqL.of ((s1.trans sm) _ _ hT),atI_nat hv,a,_,0,_,rfl,rfl,SqT.of ha,h0,rfl,_,rfl,?_⟩
    have r1:=r H' (Same.refl _)
    have ev:(vI (nV j)).toNat=j:=by show ((j:Nat):Int).toNat=j;omega
    have en:numAtF ts j=numT t:=by unfold numAtF;rw [ht];rfl
    rw [ev,en,Option.isSome_map] at r1
    have eb:decide (V.str z=V.str "num")=(numT t).isSome:=by
      cases e:(numT t).isSome with
      | true=>exact decide_eq_true (by rw [hz0.mpr e])
      | false=>exact decide_eq_false (fun w=>by have:=hz0.mp (V.str.inj w);rw [e] at this;cases this)
    rw [eb]
    exact r1
  · obtain ⟨j,v,t,rfl,hv,ht,hvt⟩:=look x hx
    obtain ⟨a,xs,rfl,ha,z,h0,hz0,h1⟩:=tm_num (hvt.same sm)
    have ev:(vI (nV j)).toNat=j:=by show ((j:Nat):Int).toNat=j;omega
    have en:numAtF ts j=numT t:=by unfold numAtF;rw [ht];rfl
    have e:(numAtF ts (vI (nV j)).toNat).map V.int=some y:=e
    rw [ev,en] at e
    cases e2:numT t with
    | none=>rw [e2] at e;cases e
    | some n =>
      rw [e2] at e
      have ey:=Option.some.inj e
      subst ey
      exact ⟨_,rfl,_,rfl,T,_,_,_,rfl,rfl,SqL.of ((s1.trans sm) _ _ hT),atI_nat hv,a,_,1,_,rfl,rfl,SqT.of ha,h1 n e2,q' _ (Same.refl _)⟩
  · refine q D1 H' (s1.trans sm) (s1.free hD1) ?_
    rw [hD,filt_nums]
    rfl
noncomputable def Stored (H:Hp) (v:V):Option (Int × Int)→Prop
  | none=>v = .non
  | some p=>TupAt H v [p.1,p.2]
theorem Stored.same {H H':Hp} {v:V} {r:Option (Int × Int)} (h:Stored H v r) (sm:Same H H'):Stored H' v r:=by
  cases r with
  | none=>exact h
  | some p=>obtain ⟨t,e,h⟩:=h;exact ⟨t,e,sm _ _ h⟩
inductive SpOdds (vs:List V) (H:Hp) (Q:VK):Prop
  | mk (T L:Addr) (us:List V) (ts:List Tm) (ls:List Nat) (z0:vs = [.ref T,.ref L]) (z1:H T=some (.lst us)) (z2:Tms H us ts) (z3:H L=some (.lst (ls.map nV))) (z4:ls.length=ts.length) (z5:ts.length≤60) (z6:ts.Nodup) (z7:GoodL ls) (z8:∀ v r H',Same H H'→Stored H' v r→LeastOf ts ls (fun a b=>a < ts.length∧b < ts.length) r→Q v H'):SpOdds  vs H Q
noncomputable def spOdds:Sp:=fun vs H Q _=>SpOdds  vs H Q
theorem pairs_keep {H H':Hp} {us:List V} {ps:List (List Int)} (kp:∀ b ys,H b=some (.tup ys)→H' b=some (.tup ys)) (h:Paired (TupAt H) us ps):Paired (TupAt H') us ps:=Paired.mapP h fun _ _ ⟨t,e,z⟩=>⟨t,e,kp _ _ z⟩
theorem ok_odds (B:Blt mg) (b_sorted:mg "sorted" = none) (h_numbers:Has P w K mg base 2 "numbers" ["terms", "leads", "k"] spNumbers) (D:Def K mg "odds" s_odds ["terms", "leads"]):Has P w K mg base 3 "odds" ["terms", "leads"] spOdds:=by
  refine D.has sc_odds (fun vs H Q E h => ?_) (fun f cdv A outer s H vs Q E hr h => ?_)
  · obtain ⟨T,L,us,ts,ls,rfl,_⟩:=h;rfl
  obtain ⟨T,L,us,ts,ls,rfl,hT,hts,hL,hll,hz,hnd,hgood,q⟩:=h
  refine ⟨_,(pss_cons (ps_set (i:=2) sc_odds.nd rfl (Or.inl rfl) (pe_lst pa_nil))
    (pss_cons (ps_for PassesOwn.never rfl (pi_range1 rfl B.range_ (pa_cons (pe_callB call_len_seq rfl B.len_ PySem.boot_len (pa_cons (pv 1) pa_nil)) pa_nil)) (pg_name (i:=3) sc_odds.nd rfl (Or.inl rfl))
    (pss_one (ps_if (pt_cmpR op_eq (pe_ix ix_list (pv 1) (pv 3) (fun _ _=>rfl)) (pv 3) (nomark _)) (pss_cons (ps_set (i:=4) sc_odds.nd rfl (Or.inl rfl) (pe_callB call_sortedL rfl b_sorted boot_sorted_ (pa_cons (pe_callH h_numbers hr (by omega) rfl (pa_cons (pv 0) (pa_cons (pv 1) (pa_cons (pv 3) pa_nil)))) pa_nil)))
    (pss_one (ps_if (pt_cmpR op_gt (pe_callB call_len_seq rfl B.len_ PySem.boot_len (pa_cons (pv 4) pa_nil)) pe_int (nomark _)) (pss_one (ps_expr (pe_bm PySem.F.plainAttrs_list PySem.F.slot_list_append PySem.F.type_list_append mt_append (pv 2) (pa_cons (pe_tup (pa_cons (pe_ix ix_list (pv 4) pe_int (fun _ _=>rfl)) (pa_cons (pe_ix ix_list (pv 4) pe_int (fun _ _=>rfl)) pa_nil))) pa_nil)))) pss_nil))) pss_nil)))
    (pss_one (ps_ret (pe_minD (un10 hr) rfl rfl B.min_ (pv 2)))))),?_⟩
  try dsimp only [cxOf]
  have hlm:(ls.map nV).length=ls.length:=List.length_map ..
  refine ⟨Nat.zero_le _,fun Pr hPr => ?_⟩
  dsimp only [gName]
  have s0:=same_new hPr (.lst [])
  have hP0:=upd_same (H:=H) (a:=Pr) (o := .lst [])
  generalize upd H Pr (.lst [])=H0 at s0 hP0 ⊢
  refine ⟨_,rfl,L,_,rfl,.inl (SqL.of (s0 _ _ hL)),_,rfl,by omega,by omega,?_⟩
  rw [Int.toNat_natCast,hlm]
  refine for_range (lo:=0) (fun i σ H'=>∃ (vs:List V) (ps:List (List Int)) (x3 x4:Option V), σ = [some (.ref T),some (.ref L),some (.ref Pr),x3,x4]∧Same H H'∧H' Pr=some (.lst vs)∧Paired (TupAt H') vs ps∧vs.length≤i ∧
      (∀ p∈ps,∃ x y,p = [x,y]∧∃ a b,Qual ts ls a b x y)∧∀ a b x y,ls.getD a 0 < i→Qual ts ls a b x y→∃ p∈ps,HT.lexLt [x,y] p=false)
    ⟨[], [],none,none,rfl,s0,hP0,.nil,Nat.le_refl _,(fun p h=>nomatch h),fun a b x y h=>absurd h (Nat.not_lt_zero _)⟩ ?_ ?_
  · rintro i σ H' hi ⟨vs,ps,x3,x4,rfl,sm,hP,hps,hvl,hin,hall⟩
    have ei:(0:Int)+(i:Int)=((i:Nat):Int):=by omega
    rw [ei]
    have hli:=getD_at (ls:=ls) hi
    show tIfS _ _ _ _ _ _
    refine ⟨_,rfl,_,rfl,L,_,_,_,rfl,rfl,SqL.of (sm _ _ hL),nV_at hli,_,rfl,rfl,_,rfl,iteD (fun z => ?_) (fun z => ?_)⟩
    · have hlead:ls.getD i 0=i:=by have:=V.int.inj z;omega
      refine ⟨_,rfl,_,rfl,_,rfl,T,L,us,ts,ls,i,rfl,sm _ _ hT,tms_same sm hts,sm _ _ hL,hll,by omega,by omega,fun N H1 s1 hN0 hN => ?_⟩
      have nl:=nums_len ts ls i
      refine ⟨N,_,rfl,SqL.of hN,by omega,fun s l hperm hs hl0 => ?_⟩
      dsimp only [gName]
      have s2:=same_new hl0 (.lst (s.map V.int))
      have hl2:=upd_same (H:=H1) (a:=l) (o := .lst (s.map V.int))
      generalize upd H1 l (.lst (s.map V.int))=H2 at s2 hl2 ⊢
      have sm2:=sm.trans (s1.trans s2)
      have hP2:=(s1.trans s2) _ _ hP
      have hps2:=pairs_keep (fun b ys=>(s1.trans s2) _ _) hps
      obtain ⟨g1,g2⟩:=sorted_pair hnd hperm hs hll
      refine ⟨_,rfl,l,_,rfl,.inl (SqL.of hl2),_,_,rfl,rfl,_,rfl,iteD (fun z2 => ?_) (fun z2 => ?_)⟩
      · rw [List.length_map] at z2
        match s,z2 with
        | [],z2=>exact absurd z2 (by decide)
        | [x],z2=>exact absurd z2 (show ¬ (1:Int) < ((1:Nat):Int) by decide)
        | x :: y :: r,_ =>
          obtain ⟨g3,g4⟩:=g2 x y r rfl
          refine ⟨_,rfl,.inl ⟨rfl,_,SqL.of hP2⟩,_,rfl,l,_,0,_,rfl,rfl,SqL.of hl2,atI_nat (j:=0) rfl,_,rfl,l,_,1,_,rfl,rfl,SqL.of hl2,atI_nat (j:=1) rfl,(show 2≤sizeLine by decide),fun tp htp => ?_⟩
          have s3:=same_new htp (.tup [.int x,.int y])
          have htp3:=upd_same (H:=H2) (a:=tp) (o := .tup [.int x,.int y])
          generalize upd H2 tp (.tup [.int x,.int y])=H3 at s3 htp3 ⊢
          have hP3:=s3 _ _ hP2
          have kp:∀ b ys,H3 b=some (.tup ys)→(upd H3 Pr (.lst (vs ++ [.ref tp]))) b=some (.tup ys):=fun b ys e=>by rw [upd_ne (ne_of e hP3 (fun z=>nomatch z))];exact e
          refine ⟨Pr,vs,_,rfl,rfl,hP3,small1000 (by omega),?_⟩
          refine ⟨vs ++ [.ref tp],ps ++ [[x,y]],_,_,rfl,(sm2.trans s3).put hPr,upd_same,Paired.snoc (pairs_keep kp (pairs_keep (fun b ys=>s3 _ _) hps2)) ⟨tp,rfl,kp _ _ htp3⟩,by rw [List.length_append];show vs.length+1≤i+1;omega,fun p hp => ?_,fun a b u v hlt hq => ?_⟩
          · rcases List.mem_append.mp hp with hp | hp
            · exact hin p hp
            · exact ⟨x,y,List.mem_singleton.mp hp,g3⟩
          · by_cases hlt':ls.getD a 0 < i
            · obtain ⟨p,hp,hx⟩:=hall a b u v hlt' hq
              exact ⟨p,List.mem_append_left _ hp,hx⟩
            · exact ⟨[x,y],List.mem_append_right _ (List.mem_singleton_self _),g4 a b u v (by rw [hlead];omega) hq⟩
      · rw [List.length_map] at z2
        refine ⟨vs,ps,_,_,rfl,sm2,hP2,hps2,by omega,hin,fun a b u v hlt hq => ?_⟩
        by_cases hlt':ls.getD a 0 < i
        · exact hall a b u v hlt' hq
        · exact absurd hq (g1 (by omega) a b u v (by rw [hlead];omega))
    · refine ⟨vs,ps,_,_,rfl,sm,hP,hps,by omega,hin,fun a b u v hlt hq => ?_⟩
      by_cases hlt':ls.getD a 0 < i
      · exact hall a b u v hlt' hq
      · have ha:a < ls.length:=by have:=(List.getElem?_eq_some_iff.mp hq.1).1;omega
        have hg:=(hgood a _ (getD_at ha)).2
        have e:ls.getD a 0=i:=by omega
        rw [e] at hg
        rw [hli] at hg
        exact absurd (by rw [Option.some.inj hg]) z
  · rintro σ H' ⟨vs,ps,x3,x4,rfl,sm,hP,hps,hvl,hin,hall⟩
    have lt_of:∀ {a b:Nat} {x y:Int},Qual ts ls a b x y→ls.getD a 0 < ls.length:=fun {a b x y} hq=>by
      have ha:a < ls.length:=by have:=(List.getElem?_eq_some_iff.mp hq.1).1;omega
      have:=(hgood a _ (getD_at ha)).1
      omega
    refine ⟨_,rfl,Pr,vs,ps,rfl,hP,hps,fun e => ?_,fun i v p hv hp hmin => ?_⟩
    · refine q .non none H' sm rfl fun a b x y _ hq => ?_
      obtain ⟨p,hp,_⟩:=hall a b x y (lt_of hq) hq
      have hl:=Paired.length hps
      rw [e] at hl
      have:ps = []:=List.eq_nil_of_length_eq_zero hl.symm
      rw [this] at hp
      cases hp
    · have ht:=paired_at2 hps hv hp
      obtain ⟨x,y,rfl,a,b,hq⟩:=hin p (List.mem_of_getElem? hp)
      refine q v (some (x,y)) H' sm ht ⟨⟨a,b,hq⟩,fun a' b' u z _ hq' => ?_⟩
      obtain ⟨p',hp',hx⟩:=hall a' b' u z (lt_of hq') hq'
      exact lex_trans hx (hmin p' hp')
end

end K39
namespace K39
open PySem L2 Sw
section
variable {P:Program} {w:World} {K:PySem.W.Frag} {mg:Str→Option Value} {base:Heap} {CS tB:Addr}
noncomputable abbrev Lo (a:Int):Prop:=0≤a∧a < 8
theorem lo_nat {a:Int} (h:Lo a):∃ n:Nat,n∈List.range 8∧a=((n:Nat):Int):=⟨a.toNat,List.mem_range.mpr (by have:=h.1;have:=h.2;omega),by have:=h.1;omega⟩
theorem all1 {p:Int→Bool} (h:((List.range 8).all fun a=>p ((a:Nat):Int))=true) {a:Int} (ha:Lo a):p a=true:=by
  obtain ⟨n,hn,rfl⟩:=lo_nat ha
  exact List.all_eq_true.mp h n hn
theorem all2 {p:Int→Int→Bool} (h:((List.range 8).all fun a=>(List.range 8).all fun b=>p ((a:Nat):Int) ((b:Nat):Int))=true) {a b:Int} (ha:Lo a) (hb:Lo b):p a b=true :=
  all1 (p:=p a) (by
    obtain ⟨n,hn,rfl⟩:=lo_nat ha
    exact List.all_eq_true.mp h n hn) hb
theorem all3 {p:Int→Int→Int→Bool} (h:((List.range 8).all fun a=>(List.range 8).all fun b=>(List.range 8).all fun c=>p ((a:Nat):Int) ((b:Nat):Int) ((c:Nat):Int))=true) {a b c:Int} (ha:Lo a) (hb:Lo b) (hc:Lo c):p a b c=true :=
  all2 (p:=p a) (by
    obtain ⟨n,hn,rfl⟩:=lo_nat ha
    exact List.all_eq_true.mp h n hn) hb hc
noncomputable abbrev ba (a b:Int):Int:=Builtin.bitAnd a b
noncomputable abbrev Sub (a b:Int):Prop:=ba a b=a
theorem sub_trans {a b c:Int} (ha:Lo a) (hb:Lo b) (hc:Lo c) (h1:Sub a b) (h2:Sub b c):Sub a c:=by
  have:=all3 (p:=fun a b c=>decide (ba a b=a→ba b c=b→ba a c=a)) (by decide +kernel) ha hb hc
  exact of_decide_eq_true this h1 h2
theorem pair_lo {f:Int→Int→Int} (h:((List.range 8).all fun a=>(List.range 8).all fun b=>decide (0≤pairS f ((a:Nat):Int) ((b:Nat):Int)) && decide (pairS f ((a:Nat):Int) ((b:Nat):Int) < 8))=true) {a b:Int} (ha:Lo a) (hb:Lo b):Lo (pairS f a b):=by
  have:=all2 (p:=fun a b=>decide (0≤pairS f a b) && decide (pairS f a b < 8)) h ha hb
  rw [Bool.and_eq_true,decide_eq_true_iff,decide_eq_true_iff] at this
  exact this
theorem add_lo:((List.range 8).all fun a=>(List.range 8).all fun b=>decide (0≤pairS addS ((a:Nat):Int) ((b:Nat):Int)) && decide (pairS addS ((a:Nat):Int) ((b:Nat):Int) < 8))=true:=by decide +kernel
theorem mul_lo:((List.range 8).all fun a=>(List.range 8).all fun b=>decide (0≤pairS mulS ((a:Nat):Int) ((b:Nat):Int)) && decide (pairS mulS ((a:Nat):Int) ((b:Nat):Int) < 8))=true:=by decide +kernel
theorem pair_mono {f:Int→Int→Int} (h0:((List.range 8).all fun a=>(List.range 8).all fun b=>decide (0≤pairS f ((a:Nat):Int) ((b:Nat):Int)) && decide (pairS f ((a:Nat):Int) ((b:Nat):Int) < 8))=true)
    (h1:((List.range 8).all fun a=>(List.range 8).all fun b=>(List.range 8).all fun c=>decide (ba ((a:Nat):Int) ((b:Nat):Int)=((a:Nat):Int)→ba (pairS f ((a:Nat):Int) ((c:Nat):Int)) (pairS f ((b:Nat):Int) ((c:Nat):Int))=pairS f ((a:Nat):Int) ((c:Nat):Int)))=true)
    (h2:((List.range 8).all fun a=>(List.range 8).all fun b=>(List.range 8).all fun c=>decide (ba ((a:Nat):Int) ((b:Nat):Int)=((a:Nat):Int)→ba (pairS f ((c:Nat):Int) ((a:Nat):Int)) (pairS f ((c:Nat):Int) ((b:Nat):Int))=pairS f ((c:Nat):Int) ((a:Nat):Int)))=true)
    {a b c d:Int} (ha:Lo a) (hb:Lo b) (hc:Lo c) (hd:Lo d) (s1:Sub a b) (s2:Sub c d):Sub (pairS f a c) (pairS f b d):=by
  have z1:=of_decide_eq_true (all3 (p:=fun a b c=>decide (ba a b=a→ba (pairS f a c) (pairS f b c)=pairS f a c)) h1 ha hb hc) s1
  have z2:=of_decide_eq_true (all3 (p:=fun a b c=>decide (ba a b=a→ba (pairS f c a) (pairS f c b)=pairS f c a)) h2 hc hd hb) s2
  exact sub_trans (pair_lo h0 ha hc) (pair_lo h0 hb hc) (pair_lo h0 hb hd) z1 z2
theorem add_m1:((List.range 8).all fun a=>(List.range 8).all fun b=>(List.range 8).all fun c=>decide (ba ((a:Nat):Int) ((b:Nat):Int)=((a:Nat):Int)→ba (pairS addS ((a:Nat):Int) ((c:Nat):Int)) (pairS addS ((b:Nat):Int) ((c:Nat):Int))=pairS addS ((a:Nat):Int) ((c:Nat):Int)))=true:=by decide +kernel
theorem add_m2:((List.range 8).all fun a=>(List.range 8).all fun b=>(List.range 8).all fun c=>decide (ba ((a:Nat):Int) ((b:Nat):Int)=((a:Nat):Int)→ba (pairS addS ((c:Nat):Int) ((a:Nat):Int)) (pairS addS ((c:Nat):Int) ((b:Nat):Int))=pairS addS ((c:Nat):Int) ((a:Nat):Int)))=true:=by decide +kernel
theorem mul_m1:((List.range 8).all fun a=>(List.range 8).all fun b=>(List.range 8).all fun c=>decide (ba ((a:Nat):Int) ((b:Nat):Int)=((a:Nat):Int)→ba (pairS mulS ((a:Nat):Int) ((c:Nat):Int)) (pairS mulS ((b:Nat):Int) ((c:Nat):Int))=pairS mulS ((a:Nat):Int) ((c:Nat):Int)))=true:=by decide +kernel
theorem mul_m2:((List.range 8).all fun a=>(List.range 8).all fun b=>(List.range 8).all fun c=>decide (ba ((a:Nat):Int) ((b:Nat):Int)=((a:Nat):Int)→ba (pairS mulS ((c:Nat):Int) ((a:Nat):Int)) (pairS mulS ((c:Nat):Int) ((b:Nat):Int))=pairS mulS ((c:Nat):Int) ((a:Nat):Int)))=true:=by decide +kernel
noncomputable abbrev gI (ks:List Int) (i:Nat):Int:=ks.getD i 0
noncomputable def LoL (ks:List Int):Prop := ∀ i,Lo (gI ks i)
theorem sgn_lo (n:Int):Lo (sgnF n):=by
  unfold sgnF
  split
  · exact ⟨by decide,by decide⟩
  · split <;> exact ⟨by decide,by decide⟩
theorem lo7:Lo (7:Int):=⟨by decide,by decide⟩
theorem sub_self {a:Int} (ha:Lo a):Sub a a:=of_decide_eq_true (all1 (p:=fun a=>decide (ba a a=a)) (by decide +kernel) ha)
theorem worth_lo {ks:List Int} (h:LoL ks) (t:Tm):Lo (worthS ks t):=by
  cases t with
  | num n=>exact sgn_lo n
  | name n=>exact lo7
  | of x as =>
    rw [worthS_of]
    split
    · exact pair_lo add_lo (h _) (h _)
    · split
      · exact pair_lo mul_lo (h _) (h _)
      · split
        · exact pair_lo mul_lo ⟨by decide,by decide⟩ (h _)
        · exact lo7
theorem worth_mono {ks ks':List Int} {n:Nat} (h:LoL ks) (h':LoL ks') (s:∀ i,i < n→Sub (gI ks' i) (gI ks i)) {t:Tm} (ht:∀ a∈armsF t,a < n):Sub (worthS ks' t) (worthS ks t):=by
  cases t with
  | num m=>exact sub_self (sgn_lo m)
  | name m=>exact sub_self lo7
  | of x as =>
    have arm:∀ i,i < as.length→Sub (kgF ks' as i) (kgF ks as i):=fun i hi=>s _ (ht _ (by
      show as.getD i 0∈as
      rw [List.getD_eq_getElem?_getD,List.getElem?_eq_getElem hi]
      exact List.getElem_mem hi))
    rw [worthS_of,worthS_of]
    split
    · rename_i c
      exact pair_mono add_lo add_m1 add_m2 (h' _) (h _) (h' _) (h _) (arm 0 (by omega)) (arm 1 (by omega))
    · split
      · rename_i c
        exact pair_mono mul_lo mul_m1 mul_m2 (h' _) (h _) (h' _) (h _) (arm 0 (by omega)) (arm 1 (by omega))
      · split
        · rename_i c
          exact pair_mono mul_lo mul_m1 mul_m2 ⟨by decide,by decide⟩ ⟨by decide,by decide⟩ (h' _) (h _) (by decide +kernel) (arm 0 (by omega))
        · exact sub_self lo7
end

end K39
namespace K39
open PySem L2 Sw
section
variable {P:Program} {w:World} {K:PySem.W.Frag} {mg:Str→Option Value} {base:Heap} {CS CN tB:Addr}
structure LrnC (C:Addr) (X:Addr→List Tm→List Nat→Hp→Prop) (spT spW:Sp) (tpF:List Tm→Nat) (WF:List Tm→List Nat→List Nat→Nat→Nat):Prop where
  at_:∀ {o:Addr} {ts:List Tm} {ls:List Nat} {H:Hp},X o ts ls H→∃ (dx A1 A2:Addr) (us:List V) (fs:List (Str × V)),H o=some (.ins C dx fs)∧fs.lookup ("terms" : Str)=some (.ref A1)∧fs.lookup ("leads" : Str)=some (.ref A2)∧fs.lookup ("top" : Str)=none∧fs.lookup ("worth" : Str)=none∧H A1=some (.lst us)∧Tms H us ts∧H A2=some (.lst (ls.map nV))
  same:∀ {o:Addr} {ts:List Tm} {ls:List Nat} {H H':Hp},X o ts ls H→Same H H'→X o ts ls H'
  top:∀ {o:Addr} {ts:List Tm} {ls:List Nat} {H:Hp} {Q:VK} {E:XK},X o ts ls H→ts.length≤24→Q (nV (tpF ts)) H→spT [.ref o] H Q E
  worth:∀ {o L:Addr} {ts:List Tm} {ls ks:List Nat} {H:Hp} {Q:VK} {E:XK} {v:V} {t:Tm} {k:Nat},X o ts ls H→TsOk ts→ls.length=ts.length→IsTm H t v→ts[k]? = some t→H L=some (.lst (ks.map nV))→ks.length=ts.length→(∀ i,NSub (ks.getD i 0) (tpF ts))→Q (nV (WF ts ls ks k)) H→spW [.ref o,v,.ref L] H Q E
  mono:∀ {ts:List Tm} {ls:List Nat},TsOk ts→MonoG ts.length (tpF ts) (WF ts ls)
  tp:∀ ts:List Tm,ts.length≤24→tpF ts < 2 ^ 24
inductive SpLearnedG (X:Addr→List Tm→List Nat→Hp→Prop) (tpF:List Tm→Nat) (WF:List Tm→List Nat→List Nat→Nat→Nat) (vs:List V) (H:Hp) (Q:VK):Prop
  | mk (o:Addr) (ts:List Tm) (ls:List Nat) (z0:vs = [.ref o]) (z1:X o ts ls H) (z2:TsOk ts) (z3:ls.length=ts.length) (z4:ts.length≤24)
    (z5:∀ p N S ks H',Same H H'→H' p=some (.tup [.ref N,.ref S])→H' N=some (.lst (ks.map nV))→LearnG ts.length (tpF ts) (WF ts ls) ls ks→Q (.ref p) H'):SpLearnedG X tpF WF vs H Q
noncomputable def spLearnedG (X:Addr→List Tm→List Nat→Hp→Prop) (tpF:List Tm→Nat) (WF:List Tm→List Nat→List Nat→Nat→Nat):Sp:=fun vs H Q _=>SpLearnedG X tpF WF vs H Q
inductive LwI (H:Hp) (o N S:Addr) (n tp:Nat) (W:List Nat→Nat→Nat) (ls:List Nat) (m:Nat) (σ : St) (H':Hp):Prop
  | mk:∀ (ks:List Nat) (ss:List V) (dn:Int) (x4 x5 x6 x7:Option V), σ = [some (.ref o),some (.ref N),some (.ref S),some (.int dn),x4,x5,x6,x7]→Same H H'→H' N=some (.lst (ks.map nV))→H' S=some (.lst ss)→LInvG n tp W ls ks→((ss.length:Nat):Int)+mu ks≤576→dn≤((ss.length:Nat):Int) →
      (dn=((ss.length:Nat):Int)→∀ k,k < n→(ks.getD k 0 &&& W ks k)=ks.getD k 0)→m=2 * (mu ks).toNat+(if dn < ((ss.length:Nat):Int) then 1 else 0)→LwI H o N S n tp W ls m σ H'
inductive LfI (H:Hp) (o N S:Addr) (n tp:Nat) (W:List Nat→Nat→Nat) (ls:List Nat) (ss:List V) (ks:List Nat) (i:Nat) (σ : St) (H':Hp):Prop
  | mk:∀ (ks':List Nat) (ss':List V) (x4 x5 x6 x7:Option V), σ = [some (.ref o),some (.ref N),some (.ref S),some (.int ((ss.length:Nat):Int)),x4,x5,x6,x7]→Same H H'→H' N=some (.lst (ks'.map nV))→H' S=some (.lst ss')→LInvG n tp W ls ks'→((ss'.length:Nat):Int)+mu ks'≤576→ss.length≤ss'.length →
      (ss'.length=ss.length→ks'=ks∧∀ k,k < i→(ks.getD k 0 &&& W ks k)=ks.getD k 0)→(ss.length < ss'.length→mu ks'+1≤mu ks)→LfI H o N S n tp W ls ss ks i σ H'
theorem rep_flat (n:Nat) (v:V):(List.replicate n [v]).flatten=List.replicate n v:=by
  induction n with
  | zero=>rfl
  | succ n ih=>rw [List.replicate_succ,List.flatten_cons,ih];rfl
theorem gat {ks:List Nat} {k:Nat} (h:k < ks.length):atI (ks.map nV) ((k:Nat):Int)=some (nV (ks.getD k 0)):=nV_at (by rw [List.getD_eq_getElem?_getD,List.getElem?_eq_getElem h];rfl)
theorem ok_learnedG (B:Blt mg) {C:Addr} {X:Addr→List Tm→List Nat→Hp→Prop} {spT spW:Sp} {tpF:List Tm→Nat} {WF:List Tm→List Nat→List Nat→Nat→Nat} (R:LrnC C X spT spW tpF WF) {rw:Nat} (hrw:rw≤3) (cK:Cls K C) (nT:NoAttr K C "terms") (nL:NoAttr K C "leads")
    (h_ktop:HasM P w K mg base 1 C "top" ["self"] spT) (h_kworth:HasM P w K mg base rw C "worth" ["self", "term", "known"] spW) (h_members:Has P w K mg base 1 "members" ["leads", "k"] (spMembers K))
    (D:Def K mg "learned" s_learned ["kind"]):Has P w K mg base 4 "learned" ["kind"] (spLearnedG X tpF WF):=by
  refine D.has sc_learned (fun vs H Q E h => ?_) (fun f cdv A outer s H vs Q E hr h => ?_)
  · obtain ⟨o,ts,ls,rfl,_⟩:=h;rfl
  obtain ⟨o,ts,ls,rfl,hX,hok,hll,few,q⟩:=h
  obtain ⟨dx,A1,A2,us,fs,ho,l1,l2,l3,l4,hA1,hts,hA2⟩:=R.at_ hX
  refine ⟨_,(pss_cons (ps_set (i:=1) sc_learned.nd rfl (Or.inl rfl) (pe_op op_rep (pe_lst (pa_cons (pe_mE0 h_ktop cK hr (by omega) passNo (pv 0)) pa_nil)) (pe_callB call_len_seq rfl B.len_ PySem.boot_len (pa_cons (pe_fld (pv 0) rfl) pa_nil))))
    (pss_cons (ps_set (i:=2) sc_learned.nd rfl (Or.inl rfl) (pe_lst pa_nil))
    (pss_cons (ps_set (i:=3) sc_learned.nd rfl (Or.inl rfl) (pe_un un_neg pe_int))
    (pss_cons (ps_while PassesOwn.never (pt_cmpR op_lt (pv 3) (pe_callB call_len_seq rfl B.len_ PySem.boot_len (pa_cons (pv 2) pa_nil)) (nomark _))
    (pss_cons (ps_set (i:=3) sc_learned.nd rfl (Or.inl rfl) (pe_callB call_len_seq rfl B.len_ PySem.boot_len (pa_cons (pv 2) pa_nil)))
    (pss_one (ps_for PassesOwn.never rfl (pi_enum rfl B.enumerate_ (pa_cons (pe_fld (pv 0) rfl) pa_nil)) (pg_tup rfl (pgs_cons (pg_name (i:=4) sc_learned.nd rfl (Or.inl rfl)) (pgs_cons (pg_name (i:=5) sc_learned.nd rfl (Or.inl rfl)) pgs_nil)))
    (pss_cons (ps_set (i:=6) sc_learned.nd rfl (Or.inl rfl) (pe_op op_and (pe_ix ix_list (pv 1) (pv 4) (fun _ _=>rfl)) (pe_mE h_kworth cK hr (by omega) passNo (pv 0) (pa_cons (pv 5) (pa_cons (pv 1) pa_nil)))))
    (pss_one (ps_if (pt_cmpR op_ne (pv 6) (pe_ix ix_list (pv 1) (pv 4) (fun _ _=>rfl)) (nomark _)) (pss_cons (ps_expr (pe_bm PySem.F.plainAttrs_list PySem.F.slot_list_append PySem.F.type_list_append mt_append (pv 2) (pa_cons (pe_tup (pa_cons (pv 4) (pa_cons (pv 6) pa_nil))) pa_nil)))
    (pss_one (ps_for PassesOwn.never rfl (pi_list (pe_callH h_members hr (by omega) rfl (pa_cons (pe_fld (pv 0) rfl) (pa_cons (pv 4) pa_nil)))) (pg_name (i:=7) sc_learned.nd rfl (Or.inl rfl))
    (pss_one (ps_asg (pv 6) (pg_sub (pv 1) (pv 7) set_list)))))) pss_nil)))))))
    (pss_one (ps_ret (pe_tup (pa_cons (pv 1) (pa_cons (pv 2) pa_nil))))))))),?_⟩
  try dsimp only [cxOf]
  have hut:=Paired.length hts
  have htp:=R.tp ts few
  have mono:=R.mono (ls:=ls) hok
  -- known = [top] * len
  refine ⟨_,rfl,o,dx,_,rfl,ho,l3,R.top hX few ⟨(show 1≤sizeLine by decide),fun N0 hN0 => ?_⟩⟩
  have s1:=same_new hN0 (.lst [nV (tpF ts)])
  have hN01:=upd_same (H:=H) (a:=N0) (o := .lst [nV (tpF ts)])
  generalize upd H N0 (.lst [nV (tpF ts)])=H1 at s1 hN01 ⊢
  refine ⟨_,rfl,o,C,dx,_,_,rfl,s1 _ _ ho,cK,nT,l1,A1,us,rfl,.inl (SqL.of (s1 _ _ hA1)),N0,_,_,rfl,rfl,hN01,(by omega),(by omega),?_,fun N hN => ?_⟩
  · rw [Int.toNat_natCast];exact Nat.le_trans (show 1 * us.length≤1000 by omega) (by decide)
  rw [Int.toNat_natCast,rep_flat]
  dsimp only [gName]
  have e7:List.replicate us.length (nV (tpF ts))=(List.replicate ts.length (tpF ts)).map nV:=by rw [List.map_replicate,hut]
  rw [e7]
  have hN0':H N=none:=s1.free hN
  have s2:=s1.trans (same_new hN (.lst ((List.replicate ts.length (tpF ts)).map nV)))
  have hN2:=upd_same (H:=H1) (a:=N) (o := .lst ((List.replicate ts.length (tpF ts)).map nV))
  generalize upd H1 N (.lst ((List.replicate ts.length (tpF ts)).map nV))=H2 at s2 hN2 ⊢
  -- steps = []
  refine ⟨Nat.zero_le _,fun S hS => ?_⟩
  dsimp only [gName]
  have hS0:H S=none:=s2.free hS
  have hNS:N≠S:=ne_of_none hN2 hS
  have s3:=s2.trans (same_new hS (.lst []))
  have hN3:=(same_new hS (.lst [])) _ _ hN2
  have hS3:=upd_same (H:=H2) (a:=S) (o := .lst [])
  generalize upd H2 S (.lst [])=H3 at s3 hN3 hS3 ⊢
  -- done = -1
  refine ⟨1,rfl,?_⟩
  dsimp only [gName]
  have mz0:=mu_le (List.replicate ts.length (tpF ts))
  rw [List.length_replicate] at mz0
  refine ⟨LwI H o N S ts.length (tpF ts) (WF ts ls) ls,⟨_,List.replicate ts.length (tpF ts), [], -1,none,none,none,none,rfl,s3,hN3,hS3,linvG_start,(by show (0:Int)+_≤_;omega),(by decide),(fun z=>absurd z (by decide)),rfl⟩,?_⟩
  rintro m σ H4 ⟨ks,ss,dn,x4,x5,x6,x7,rfl,s4,hN4,hS4,inv,hsm,hdn,hst,rfl⟩
  have nn:=mu_nn ks
  refine ⟨_,rfl,_,rfl,S,_,rfl,.inl (SqL.of hS4),_,_,rfl,rfl,_,rfl,?_⟩
  by_cases hlt:dn < ((ss.length:Nat):Int)
  rotate_left
  · rw [decide_eq_false hlt]
    refine iteF ⟨_,rfl,_,rfl,(show 2≤sizeLine by decide),fun p hp => ?_⟩
    have sp:=same_new hp (.tup [.ref N,.ref S])
    exact q p N S ks _ (s4.trans sp) upd_same (sp _ _ hN4) ⟨⟨inv.len,inv.low,inv.even,fun k hk=>nsub_iff.mpr (hst (by omega) k hk)⟩,inv.top⟩
  rw [decide_eq_true hlt]
  refine iteT ⟨LfI H o N S ts.length (tpF ts) (WF ts ls) ls ss ks ts.length,?_,?_⟩
  · rintro σ' H' ⟨ks',ss',x4,x5,x6,x7,rfl,sm,h1,h2,h3,h4,h5,h6,h7⟩
    have nn':=mu_nn ks'
    refine ⟨_,?_,ks',ss',_,x4,x5,x6,x7,rfl,sm,h1,h2,h3,h4,by omega,fun z => ?_,rfl⟩
    · rw [if_pos hlt]
      by_cases hz:ss.length < ss'.length
      · have:=h7 hz
        split <;> omega
      · have e:ss'.length=ss.length:=by omega
        rw [(h6 e).1,if_neg (by omega)]
        omega
    · have:=h6 (by omega)
      rw [this.1]
      exact this.2
  -- the body
  refine ⟨_,rfl,S,_,rfl,.inl (SqL.of hS4),?_⟩
  dsimp only [gName]
  refine ⟨_,rfl,o,C,dx,_,_,rfl,s4 _ _ ho,cK,nT,l1,A1,rfl,⟨us,SqL.of (s4 _ _ hA1)⟩,?_⟩
  refine for_enum (xs:=us) (LfI H o N S ts.length (tpF ts) (WF ts ls) ls ss ks)
    ⟨ks,ss,x4,x5,x6,x7,rfl,s4,hN4,hS4,inv,hsm,Nat.le_refl _,(fun _=>⟨rfl,fun k hk=>absurd hk (Nat.not_lt_zero _)⟩),(fun z=>absurd z (Nat.lt_irrefl _))⟩ ?_ ?_ ?_
  · rintro i σ H' _ ⟨ks',ss',x4,x5,x6,x7,rfl,sm,_⟩
    exact SqL.of (sm _ _ hA1)
  · rintro i x a0 σ H' hx ⟨ks',ss',x4,x5,x6,x7,rfl,sm,hN5,hS5,inv',hsm',hle,heq,hls⟩ ha0
    obtain ⟨t,ht,hxt⟩:=tms_at hts hx
    have hi:i < ts.length:=(List.getElem?_eq_some_iff.mp ht).1
    have hik:i < ks'.length:=by rw [inv'.len];exact hi
    have nn':=mu_nn ks'
    have sn:=same_new ha0 (.tup [.int (i:Int),x])
    have s5:=sm.trans sn
    have hN6:=sn _ _ hN5
    have hS6:=sn _ _ hS5
    refine ⟨a0,_,rfl,SqT.of upd_same,rfl,_,_,rfl,_,_,rfl,rfl,?_⟩
    generalize upd H' a0 (.tup [.int (i:Int),x])=H6 at s5 hN6 hS6 sn ⊢
    refine ⟨_,rfl,_,rfl,N,_,_,_,rfl,rfl,SqL.of hN6,gat hik,_,rfl,o,dx,_,rfl,s5 _ _ ho,l4,_,rfl,_,rfl,R.worth (R.same hX s5) hok hll (hxt.same s5) ht hN6 inv'.len inv'.low ⟨((ks'.getD i 0:Nat):Int),((WF ts ls ks' i:Nat):Int),rfl,rfl,?_⟩⟩
    dsimp only [gName]
    rw [band_nat]
    show tIfS _ _ _ _ _ _
    refine ⟨_,rfl,_,rfl,_,rfl,N,_,_,_,rfl,rfl,SqL.of hN6,gat hik,rfl,_,rfl,iteDN (fun z => ?_) (fun z => ?_)⟩
    · have hne:(ks'.getD i 0 &&& WF ts ls ks' i)≠ks'.getD i 0:=fun e=>z (congrArg nV e)
      obtain ⟨inv2,hmz⟩:=linvG_step hll htp mono inv' hi hne
      refine ⟨_,rfl,.inl ⟨rfl,_,SqL.of hS6⟩,_,rfl,_,rfl,(show 2≤sizeLine by decide),fun tp' htp' => ?_⟩
      generalize hff:(ks'.getD i 0 &&& WF ts ls ks' i)=fct at inv2 hmz htp' ⊢
      have st:=same_new htp' (.tup [.int (i:Int),nV fct])
      have hS7:=st _ _ hS6
      have hN7:=st _ _ hN6
      have s7:=s5.trans st
      refine ⟨S,_,_,rfl,rfl,hS7,small1000 (by omega),?_⟩
      generalize upd H6 tp' (.tup [.int (i:Int),nV fct])=H7 at hS7 hN7 s7 ⊢
      have s8:=s7.put (o := .lst (ss' ++ [.ref tp'])) hS0
      have hN8:(upd H7 S (.lst (ss' ++ [.ref tp']))) N=some (.lst (ks'.map nV)):=by rw [upd_ne hNS];exact hN7
      have hS8:=upd_same (H:=H7) (a:=S) (o := .lst (ss' ++ [.ref tp']))
      generalize upd H7 S (.lst (ss' ++ [.ref tp']))=H8 at s8 hN8 hS8 ⊢
      refine ⟨_,rfl,o,C,dx,_,_,rfl,s8 _ _ ho,cK,nL,l2,_,rfl,A2,ls,i,rfl,SqL.of (s8 _ _ hA2),by omega,by omega,fun M hM=>⟨M,rfl,⟨_,SqL.of upd_same⟩,?_⟩⟩
      have sM:=same_new hM (.lst ((classF ls i).map nV))
      have s9:=s8.trans sM
      have hN9:=sM _ _ hN8
      have hS9:=sM _ _ hS8
      have hM9:=upd_same (H:=H8) (a:=M) (o := .lst ((classF ls i).map nV))
      have hNM:N≠M:=ne_of_none hN8 hM
      generalize upd H8 M (.lst ((classF ls i).map nV))=H9 at s9 hN9 hS9 hM9 sM ⊢
      refine for_list (xs:=(classF ls i).map nV) (fun j σ H'=>∃ x7:Option V, σ = [some (.ref o),some (.ref N),some (.ref S),some (.int ((ss.length:Nat):Int)),some (.int (i:Int)),some x,some (nV fct),x7]∧Same H H'∧H' M=some (.lst ((classF ls i).map nV))∧H' S=some (.lst (ss' ++ [.ref tp'])) ∧
          H' N=some (.lst ((setN ((classF ls i).take j) fct ks').map nV))) ⟨_,rfl,s9,hM9,hS9,by rw [List.take_zero,setN_nil];exact hN9⟩ ?_ ?_ ?_
      · rintro j σ H' _ ⟨x7,rfl,sm,hM',_⟩
        exact SqL.of hM'
      · rintro j y σ H' hy ⟨x7,rfl,sm,hM',hS',hN'⟩
        rw [List.getElem?_map] at hy
        cases em:(classF ls i)[j]? with
        | none=>rw [em] at hy;cases hy
        | some mm =>
          rw [em] at hy
          have e1:nV mm=y:=Option.some.inj hy
          subst e1
          have hmm:=mem_classF.mp (List.mem_of_getElem? em)
          have hmk:mm < ks'.length:=by rw [inv'.len, ← hll];exact hmm.1
          dsimp only [gName]
          refine ⟨_,rfl,_,rfl,_,rfl,N,_,_,mm,rfl,rfl,hN',?_,⟨_,rfl,sm.put hN0',?_,?_,?_⟩⟩
          · rw [List.length_map,setN_len]
            unfold ixN
            rw [if_pos (by omega),if_pos (by omega),Int.toNat_natCast]
          · rw [upd_ne hNM.symm];exact hM'
          · rw [upd_ne hNS.symm];exact hS'
          · rw [upd_same]
            show some (HO.lst (((setN ((classF ls i).take j) fct ks').map nV).set mm (nV fct)))=_
            rw [nV_set,setN_set hmk,List.take_add_one,em];rfl
      · rintro σ H' ⟨x7,rfl,sm,hM',hS',hN'⟩
        rw [List.length_map,List.take_length] at hN'
        refine ⟨_,_,_,_,_,_,rfl,sm,hN',hS',inv2,?_,?_,fun z => ?_,fun _ => ?_⟩
        · rw [List.length_append];show ((ss'.length+1:Nat):Int)+_≤_;omega
        · rw [List.length_append];omega
        · rw [List.length_append] at z
          have e1 : [V.ref tp'].length=1:=rfl
          omega
        · by_cases hz:ss.length < ss'.length
          · have:=hls hz;omega
          · have e:ss'.length=ss.length:=by omega
            rw [(heq e).1] at hmz ⊢
            omega
    · have heq0:(ks'.getD i 0 &&& WF ts ls ks' i)=ks'.getD i 0:=by have:=V.int.inj z;omega
      refine ⟨ks',ss',_,_,_,_,rfl,s5,hN6,hS6,inv',hsm',hle,fun e=>⟨(heq e).1,fun k hk => ?_⟩,hls⟩
      by_cases ek:k=i
      · subst ek
        rw [(heq e).1] at heq0
        exact heq0
      · exact (heq e).2 k (by omega)
  · rintro σ H' ⟨ks',ss',x4,x5,x6,x7,rfl,sm,h1,h2,h3,h4,h5,h6,h7⟩
    rw [hut] at h6
    exact ⟨ks',ss',x4,x5,x6,x7,rfl,sm,h1,h2,h3,h4,h5,h6,h7⟩
end

end K39
namespace K39
open PySem L2 Sw
section
variable {P:Program} {w:World} {K:PySem.W.Frag} {mg:Str→Option Value} {base:Heap} {CS CN tB:Addr}
structure SgAt (CS:Addr) (H:Hp) (o:Addr) (ts:List Tm) (ls:List Nat):Prop where
  ex:∃ (dx A1 A2:Addr) (us:List V),H o=some (.ins CS dx [("terms",.ref A1),("leads",.ref A2)])∧H A1=some (.lst us)∧Tms H us ts∧H A2=some (.lst (ls.map nV))
theorem SgAt.same {CS:Addr} {H H':Hp} {o:Addr} {ts:List Tm} {ls:List Nat} (h:SgAt CS H o ts ls) (sm:Same H H'):SgAt CS H' o ts ls:=by
  obtain ⟨dx,A1,A2,us,a,b,c,d⟩:=h.ex
  exact ⟨dx,A1,A2,us,sm _ _ a,sm _ _ b,tms_same sm c,sm _ _ d⟩
noncomputable def zz (ks:List Nat):List Int:=ks.map fun n:Nat=>(n:Int)
theorem zz_len (ks:List Nat):(zz ks).length=ks.length:=List.length_map ..
theorem zz_at (ks:List Nat) (k:Nat):(zz ks).getD k 0=((ks.getD k 0:Nat):Int):=by
  unfold zz
  rw [List.getD_eq_getElem?_getD,List.getElem?_map,List.getD_eq_getElem?_getD]
  cases ks[k]? <;> rfl
theorem zz_map (ks:List Nat):(zz ks).map V.int=ks.map nV:=by unfold zz;rw [List.map_map];rfl
noncomputable def wSg (ts:List Tm) (ks:List Nat) (k:Nat):Nat:=match ts[k]? with | some t=>(worthS (zz ks) t).toNat | none=>0
noncomputable def wNm (ts:List Tm) (ls ks:List Nat) (k:Nat):Nat:=match ts[k]? with | some t=>worthN ts ls ks t | none=>0
theorem zz_lo {ks:List Nat} (h:∀ i,NSub (ks.getD i 0) 7):LoL (zz ks):=fun i=>by
  show Lo ((zz ks).getD i 0)
  rw [zz_at]
  have:=nsub_le (h i)
  exact ⟨by omega,by omega⟩
theorem arms_lt {ts:List Tm} (h:TsOk ts) {k:Nat} {t:Tm} (ht:ts[k]? = some t):∀ a∈armsF t,a < ts.length:=fun a ha=>by
  have hk:=(List.getElem?_eq_some_iff.mp ht).1
  cases t with
  | num n=>cases ha
  | name n=>cases ha
  | of x as=>have:=h.1 k x as ht a ha;omega
theorem lrnS:LrnC CS (fun o ts ls H=>SgAt CS H o ts ls) (spTopS CS) (spWorth K CS) (fun _=>7) (fun ts _ ks k=>wSg ts ks k):=by
  refine ⟨fun h => ?_,fun h s=>h.same s,fun h _ q => ?_,fun h hok hll hv ht hL hkl hlo q => ?_,fun hok => ?_,fun _ _=>by decide⟩
  · obtain ⟨dx,A1,A2,us,a,b,c,d⟩:=h.ex
    exact ⟨dx,A1,A2,us,_,a,rfl,rfl,rfl,rfl,b,c,d⟩
  · obtain ⟨dx,A1,A2,us,a,b,c,d⟩:=h.ex
    exact ⟨_,dx,_,rfl,a,q⟩
  · obtain ⟨dx,A1,A2,us,a,b,c,d⟩:=h.ex
    rename_i o L ts ls ks H Q E v t k
    refine ⟨o,dx,L,_,v,t,zz ks,rfl,a,hv,SqL.of (by rw [zz_map];exact hL),(fun b hb=>by rw [zz_len,hkl];exact arms_lt hok ht b hb),?_⟩
    have e:nV (wSg ts ks k)=V.int (worthS (zz ks) t):=by
      unfold wSg nV
      rw [ht]
      exact congrArg V.int (Int.toNat_of_nonneg (worth_lo (zz_lo hlo) t).1)
    rw [← e]
    exact q
  · intro ks ks' hl hl' h h' hs k hk
    rename_i ts ls
    have ht:=List.getElem?_eq_getElem hk
    show NSub (wSg ts ks' k) (wSg ts ks k)
    unfold wSg
    rw [ht]
    have l1:=worth_lo (zz_lo h) ts[k]
    have l2:=worth_lo (zz_lo h') ts[k]
    have m:=worth_mono (ks:=zz ks) (ks':=zz ks') (n:=ts.length) (zz_lo h) (zz_lo h') (fun i hi=>by
      show ba ((zz ks').getD i 0) ((zz ks).getD i 0)=(zz ks').getD i 0
      rw [zz_at,zz_at]
      show Builtin.bitAnd _ _=_
      rw [band_nat,nsub_iff.mp (hs i hi)]) (arms_lt hok ht)
    show NSub (worthS (zz ks') ts[k]).toNat (worthS (zz ks) ts[k]).toNat
    generalize worthS (zz ks') ts[k]=u at l2 m
    generalize worthS (zz ks) ts[k]=v at l1 m
    obtain ⟨a,rfl⟩:=Int.eq_ofNat_of_zero_le l2.1
    obtain ⟨b,rfl⟩:=Int.eq_ofNat_of_zero_le l1.1
    rw [nsub_iff,Int.toNat_natCast,Int.toNat_natCast]
    have m':Builtin.bitAnd (a:Int) (b:Int)=(a:Int):=m
    rw [band_nat] at m'
    exact Int.ofNat.inj m'
theorem lrnN:LrnC CN (fun o ts ls H=>NamesAt CN H o ts ls) (spTopN CN) (spWorthN K CN) (fun ts=>2 ^ (heldF ts).length - 1) wNm:=by
  refine ⟨fun h => ?_,fun h s=>h.same s,fun h few q => ?_,fun h hok hll hv ht hL hkl hlo q => ?_,fun hok => ?_,fun ts few => ?_⟩
  · obtain ⟨dx,A1,A2,A3,A4,A5,kb,ks,h1,h2,h3,h4,h5,h6,h7,us,h8,h9⟩:=h.ex
    exact ⟨dx,A1,A2,us,_,h1,rfl,rfl,rfl,rfl,h8,h9,h2⟩
  · exact ⟨_,_,_,rfl,h,few,q⟩
  · rename_i o L ts ls ks H Q E v t k
    refine ⟨o,L,ts,ls,ks,v,t,k,rfl,h,hok.2.2,hv,SqL.of hL,ht,(fun b hb=>by rw [hkl];exact arms_lt hok ht b hb),(by omega),(fun x as e=>by rw [e] at ht;exact (hok.2.1 k x as ht).1),?_⟩
    have e:wNm ts ls ks k=worthN ts ls ks t:=by unfold wNm;rw [ht]
    rw [← e]
    exact q
  · intro ks ks' hl hl' h h' hs k hk
    rename_i ts ls
    unfold wNm
    have ht:=List.getElem?_eq_getElem hk
    rw [ht]
    exact mono_names hs (arms_lt hok ht)
  · have h1:=held_len ts
    have h2:2 ^ (heldF ts).length≤2 ^ 24:=Nat.pow_le_pow_right (by decide) (by omega)
    have:=Nat.two_pow_pos (heldF ts).length
    show 2 ^ (heldF ts).length - 1 < 2 ^ 24
    omega
theorem NamesNew.at_ {CN:Addr} {H0 H:Hp} {o:Addr} {ts:List Tm} {ls:List Nat} (h:NamesNew CN H0 H o ts ls):NamesAt CN H o ts ls:=by
  obtain ⟨dx,A1,A2,A3,A4,A5,kb,ks,h1,h2,h3,h4,h5,h6,h7,⟨us,h8,h9⟩,_⟩:=h.ex
  exact ⟨dx,A1,A2,A3,A4,A5,kb,ks,h1,h2,h3,h4,h5,h6,h7,us,h8,h9⟩
end

end K39
namespace K39
open PySem L2 Sw
section
variable {P:Program} {w:World} {K:PySem.W.Frag} {mg:Str→Option Value} {base:Heap} {CS CN tB:Addr}
theorem erase_perm:∀ {l:List Nat} {j k:Nat},l[j]? = some k→(k :: l.eraseIdx j).Perm l
  | [],j,k,h=>by simp at h
  | x :: l,0,k,h=>by
    have e:x=k:=Option.some.inj h
    subst e
    exact List.Perm.refl _
  | x :: l,j+1,k,h=>(List.Perm.swap x k _).trans ((erase_perm (l:=l) h).cons x)
theorem erase_map:∀ (l:List Nat) (j:Nat),(l.map nV).eraseIdx j=(l.eraseIdx j).map nV
  | [],j=>rfl
  | x :: l,0=>rfl
  | x :: l,j+1=>by
    show nV x :: (l.map nV).eraseIdx j=nV x :: (l.eraseIdx j).map nV
    rw [erase_map l j]
structure OrdOk (ts:List Tm) (os:List Nat):Prop where
  nd:os.Nodup
  len:os.length=ts.length
  lt:∀ k∈os,k < ts.length
  mem:∀ k,k < ts.length→k∈os
  ar:∀ (i k:Nat) (t:Tm),os[i]? = some k→ts[k]? = some t→∀ a∈armsF t,∃ j,j < i∧os[j]? = some a
structure OrdI (ts:List Tm) (os lf:List Nat):Prop where
  perm:(os ++ lf).Perm (List.range ts.length)
  inc:lf.Pairwise (· < ·)
  ar:∀ (i k:Nat) (t:Tm),os[i]? = some k→ts[k]? = some t→∀ a∈armsF t,∃ j,j < i∧os[j]? = some a
noncomputable def rdyB (ts:List Tm) (os:List Nat) (k:Nat):Bool:=match ts[k]? with
  | some t=>(armsF t).all fun a=>decide (a∈os)
  | none=>false
noncomputable def rdyV (ts:List Tm) (os:List Nat) (v:V):Option V:=if rdyB ts os (vI v).toNat=true then some v else none
theorem ord_start (ts:List Tm):OrdI ts [] (List.range ts.length):=⟨List.Perm.refl _,List.pairwise_lt_range,fun i k t e=>by simp at e⟩
theorem OrdI.lt {ts:List Tm} {os lf:List Nat} (h:OrdI ts os lf) {k:Nat} (hk:k∈os ++ lf):k < ts.length:=List.mem_range.mp (h.perm.mem_iff.mp hk)
theorem OrdI.step {ts:List Tm} {os lf:List Nat} (h:OrdI ts os lf) {j k:Nat} (hj:lf[j]? = some k) (hr:rdyB ts os k=true):OrdI ts (os ++ [k]) (lf.eraseIdx j):=by
  obtain ⟨hjl,e⟩:=List.getElem?_eq_some_iff.mp hj
  refine ⟨?_,h.inc.sublist (List.eraseIdx_sublist lf j),fun i k' t hi ht a ha => ?_⟩
  · refine List.Perm.trans ?_ h.perm
    rw [List.append_assoc]
    refine List.Perm.append_left os ?_
    exact erase_perm hj
  · by_cases hlt:i < os.length
    · rw [List.getElem?_append_left hlt] at hi
      obtain ⟨m,hm,em⟩:=h.ar i k' t hi ht a ha
      exact ⟨m,hm,by rw [List.getElem?_append_left (by omega)];exact em⟩
    · rw [List.getElem?_append_right (by omega)] at hi
      have hi0:i - os.length=0:=by
        have:=(List.getElem?_eq_some_iff.mp hi).1
        simp at this
        omega
      rw [hi0] at hi
      have ek:k=k':=Option.some.inj hi
      subst ek
      unfold rdyB at hr
      rw [ht] at hr
      have hm:a∈os:=of_decide_eq_true (List.all_eq_true.mp hr a ha)
      obtain ⟨m,em⟩:=List.getElem?_of_mem hm
      have hml:=(List.getElem?_eq_some_iff.mp em).1
      exact ⟨m,by omega,by rw [List.getElem?_append_left hml];exact em⟩
theorem OrdI.ready {ts:List Tm} {os lf:List Nat} (h:OrdI ts os lf) (har:∀ (i:Nat) y as,ts[i]? = some (.of y as)→∀ a∈as,a < i) (hp:0 < lf.length):∃ k∈lf,rdyB ts os k=true:=by
  cases lf with
  | nil=>exact absurd hp (Nat.lt_irrefl _)
  | cons k lf =>
    refine ⟨k,List.mem_cons_self,?_⟩
    have hk:=h.lt (List.mem_append_right _ List.mem_cons_self)
    unfold rdyB
    have ht:=List.getElem?_eq_getElem hk
    rw [ht]
    generalize ts[k]=t at ht
    show ((armsF t).all fun a=>decide (a∈os))=true
    rw [List.all_eq_true]
    intro a ha
    have hak:a < k:=by
      cases t with
      | num n=>cases ha
      | name n=>cases ha
      | of x as=>exact har k x as ht a ha
    have hm:=h.perm.mem_iff.mpr (List.mem_range.mpr (show a < ts.length by omega))
    rcases List.mem_append.mp hm with z | z
    · exact decide_eq_true z
    · rcases List.mem_cons.mp z with z | z
      · omega
      · have:=(List.pairwise_cons.mp h.inc).1 a z
        omega
theorem OrdI.done {ts:List Tm} {os:List Nat} (h:OrdI ts os []):OrdOk ts os:=by
  have p:=h.perm
  rw [List.append_nil] at p
  refine ⟨p.nodup_iff.mpr List.nodup_range,by rw [p.length_eq,List.length_range],fun k hk=>h.lt (List.mem_append_left _ hk),fun k hk=>p.mem_iff.mpr (List.mem_range.mpr hk),h.ar⟩
theorem in_nats {a:Nat} {os:List Nat}:inV (nV a) (os.map nV)=decide (a∈os):=by
  unfold inV
  induction os with
  | nil=>rfl
  | cons x l ih =>
    rw [List.map_cons,List.any_cons,ih]
    have e:eqV (nV x) (nV a)=decide (x=a):=by
      show (((x:Nat):Int) == ((a:Nat):Int))=_
      rw [Bool.eq_iff_iff,beq_iff_eq,decide_eq_true_iff]
      omega
    rw [e,Bool.eq_iff_iff,Bool.or_eq_true,decide_eq_true_iff,decide_eq_true_iff,decide_eq_true_iff,List.mem_cons]
    exact ⟨fun h=>h.elim (fun h => .inl h.symm) .inr,fun h=>h.elim (fun h => .inl h.symm) .inr⟩
theorem flat_nats (os:List Nat):(os.map nV).all flatV=true:=by
  rw [List.all_eq_true]
  intro y hy
  obtain ⟨z,_,rfl⟩:=List.mem_map.mp hy
  rfl
theorem first_nat {z:Nat}:∀ {ws:List Nat},z∈ws→∃ j:Nat,ws[j]? = some z∧∀ i:Nat,i < j→ws[i]? ≠ some z
  | [],h=>nomatch h
  | x :: ws,h=>by
    by_cases e:x=z
    · exact ⟨0,by rw [e];rfl,fun i hi=>absurd hi (Nat.not_lt_zero _)⟩
    · obtain ⟨j,h1,h2⟩:=first_nat (ws:=ws) (by rcases List.mem_cons.mp h with z | z;exact absurd z.symm e;exact z)
      refine ⟨j+1,h1,fun i hi => ?_⟩
      cases i with
      | zero=>intro q;exact e (Option.some.inj q)
      | succ i=>exact h2 i (by omega)
theorem zz_some {ks:List Nat} {j z:Nat}:(zz ks)[j]? = some ((z:Nat):Int)↔ks[j]? = some z:=by
  unfold zz
  rw [List.getElem?_map]
  cases ks[j]? with
  | none=>exact ⟨fun h=>(nomatch h),fun h=>(nomatch h)⟩
  | some y=>exact ⟨fun h=>congrArg some (Int.ofNat.inj (Option.some.inj h)),fun h=>congrArg (fun n:Nat=>some (n:Int)) (Option.some.inj h)⟩
inductive SpOrder (K:PySem.W.Frag) (vs:List V) (H:Hp) (Q:VK):Prop
  | mk (T a:Addr) (us:List V) (ts:List Tm) (ns:List Int) (ev:vs = [.ref T,.ref a]) (hT:H T=some (.lst us)) (hts:Tms H us ts) (hS:SqL K H a (ns.map V.int)) (ok:TsOk ts) (few:ts.length≤24) (hn:0 < ts.length→0 < ns.length)
    (q:∀ O os H',H O=none→Same H H'→H' O=some (.lst (os.map nV))→OrdOk ts os→Q (.ref O) H'):SpOrder K vs H Q
noncomputable def spOrder (K:PySem.W.Frag):Sp:=fun vs H Q _=>SpOrder K vs H Q
inductive OwI (H:Hp) (T a L O:Addr) (ts:List Tm) (m:Nat) (σ : St) (H':Hp):Prop
  | mk (os lf:List Nat) (x4 x5 x6:Option V) (e : σ = [some (.ref T),some (.ref a),some (.ref L),some (.ref O),x4,x5,x6]) (sm:Same H H') (hL:H' L=some (.lst (lf.map nV))) (hO:H' O=some (.lst (os.map nV))) (inv:OrdI ts os lf) (em:m=lf.length)
theorem ok_order (B:Blt mg) (b_all:mg "all" = none) (D:Def K mg "_law_order" s_order ["_law_terms", "_law_script"]):Has P w K mg base 1 "_law_order" ["_law_terms", "_law_script"] (spOrder K):=by
  refine D.has sc_order (fun vs H Q E h => ?_) (fun f cdv A outer s H vs Q E hr h => ?_)
  · obtain ⟨T,a,us,ts,ns,rfl,_⟩:=h;rfl
  obtain ⟨T,a,us,ts,ns,rfl,hT,hts,hS,hok,few,hn,q⟩:=h
  refine ⟨_,(pss_cons (ps_set (i:=2) sc_order.nd rfl (Or.inl rfl) (pe_callTy (call_list_rng rfl) rfl B.list_ boot_list_ (pa_cons (pe_callTy call_range1V rfl B.range_ PyProof.Rows.boot_range (pa_cons (pe_callB call_len_seq rfl B.len_ PySem.boot_len (pa_cons (pv 0) pa_nil)) pa_nil)) pa_nil)))
    (pss_cons (ps_set (i:=3) sc_order.nd rfl (Or.inr rfl) (pe_lst pa_nil))
    (pss_cons (ps_while PassesOwn.never (pt_cmpR op_gt (pe_callB call_len_seq rfl B.len_ PySem.boot_len (pa_cons (pv 2) pa_nil)) pe_int (nomark _))
    (pss_cons (ps_setCompI (i:=4) sc_order.nd rfl rfl (te:=_) (ct:=(tOr (tTest (tOp _ (tOp (rIxT K) (tOp (rIxL K) _ _) _) _)) (tB (tCB (fun xs H Q=>J_call_allL K xs H Q) (tCons (tComp (iTup K (tOp (rIxT K) (tOp (rIxL K) _ _) _)) (gName 0) (tOp (rIn K false) _ _) 1 [("_law_order_here",2)]) tNil))))) (own := ["_law_k"]) (caps := [("_law_terms",0),("_law_order_here",3)]) (comp_scope (defScope s_order) ["_law_terms", "_law_script", "_law_left", "_law_order_here", "_law_ready", "_law_cell", "_law_k"] rfl rfl rfl (by decide +kernel)) (pi_list (pv 2)) rfl (fun _ _ _=>pg_name (i:=0) (show (["_law_k", "_law_terms", "_law_order_here"]:List Str).Nodup by decide +kernel) rfl (Or.inl rfl)) (fun _ _ _=>(PW.pt (pw_or (pt_cmpR op_ne (pe_ix ix_tup (pe_ix ix_list (pv 1) (pv 0) (fun _ _=>rfl)) pe_int (fun _ _=>rfl)) pe_str (nomark _)) (pw_or1 (pt_val (pe_callB (call_allL rfl) rfl b_all boot_all_ (pa_cons (pe_comp (te:=(tOp (rIn K false) _ _)) (own := ["_law_arm"]) (caps := [("_law_order_here",2)]) (comp_scopeP (defScope s_order) rfl rfl (by decide +kernel)) (pi_tup (pe_ix ix_tup (pe_ix ix_list (pv 1) (pv 0) (fun _ _=>rfl)) pe_int (fun _ _=>rfl))) rfl (fun _ _ _=>pg_name (i:=0) (show (["_law_arm", "_law_order_here"]:List Str).Nodup by decide +kernel) rfl (Or.inl rfl)) (fun _ _ _=>(pe_cmpR op_in_seq (pv 0) (pv 1) (by with_unfolding_all rfl)))) pa_nil))))))) (fun _ _ _=>(pv 0)) rfl)
    (pss_cons (ps_set (i:=5) sc_order.nd rfl (Or.inl rfl) (pe_ix ix_list (pv 1) (pe_op op_mod (pe_callB call_len_seq rfl B.len_ PySem.boot_len (pa_cons (pv 3) pa_nil)) (pe_callB call_len_seq rfl B.len_ PySem.boot_len (pa_cons (pv 1) pa_nil))) (fun _ _=>rfl)))
    (pss_cons (ps_set (i:=6) sc_order.nd rfl (Or.inl rfl) (pe_ix ix_list (pv 4) (pe_op op_mod (pe_op op_mod (pe_op op_add (pe_op op_mul (pv 5) pe_int) (pe_op op_mul pe_int (pe_callB call_len_seq rfl B.len_ PySem.boot_len (pa_cons (pv 3) pa_nil)))) pe_int) (pe_callB call_len_seq rfl B.len_ PySem.boot_len (pa_cons (pv 4) pa_nil))) (fun _ _=>rfl)))
    (pss_cons (ps_expr (pe_bm PySem.F.plainAttrs_list PySem.F.slot_list_append PySem.F.type_list_append mt_append (pv 3) (pa_cons (pv 6) pa_nil)))
    (pss_one (ps_expr (pe_bm PySem.F.plainAttrs_list PySem.F.slot_list_remove PySem.F.type_list_remove mt_remove (pv 2) (pa_cons (pv 6) pa_nil)))))))))
    (pss_one (ps_ret (pv 3)))))),?_⟩
  try dsimp only [cxOf]
  have hut:=Paired.length hts
  have hnl:(ns.map V.int).length=ns.length:=List.length_map ..
  refine ⟨_,rfl,T,us,rfl,.inl (SqL.of hT),_,rfl,fun r hr0=>⟨r,us.length,rfl,upd_same,by omega,fun L hL0 => ?_⟩⟩
  dsimp only [gName]
  have hLH:H L=none:=(same_new hr0 _).free hL0
  have s1:Same H (upd (upd H r (.rng 0 ((us.length:Nat):Int))) L (.lst ((List.range us.length).map fun i:Nat=>V.int (i:Int)))):=(same_new hr0 _).trans (same_new hL0 _)
  have hL1:(upd (upd H r (.rng 0 ((us.length:Nat):Int))) L (.lst ((List.range us.length).map fun i:Nat=>V.int (i:Int)))) L=some (.lst ((List.range ts.length).map nV)):=by rw [upd_same,hut]
  generalize (upd (upd H r (.rng 0 ((us.length:Nat):Int))) L (.lst ((List.range us.length).map fun i:Nat=>V.int (i:Int))))=H1 at s1 hL1 ⊢
  refine ⟨Nat.zero_le _,fun O hO => ?_⟩
  dsimp only [gName]
  have s2:=same_new hO (.lst [])
  have hO2:=upd_same (H:=H1) (a:=O) (o := .lst [])
  have hL2:=s2 _ _ hL1
  have hOH:H O=none:=s1.free hO
  have hLO:L≠O:=ne_of_none hL1 hO
  have g2:=s1.trans s2
  generalize upd H1 O (.lst [])=H2 at g2 hO2 hL2 ⊢
  refine ⟨OwI H T a L O ts,⟨_,OwI.mk [] (List.range ts.length) none none none rfl g2 hL2 hO2 (ord_start ts) rfl⟩,?_⟩
  rintro m σ H3 ⟨os,lf,x4,x5,x6,rfl,s3,hL3,hO3,inv,rfl⟩
  have hlm:(lf.map nV).length=lf.length:=List.length_map ..
  have hom:(os.map nV).length=os.length:=List.length_map ..
  have hsum:os.length+lf.length=ts.length:=by have:=inv.perm.length_eq;rw [List.length_append,List.length_range] at this;exact this
  refine ⟨_,rfl,L,_,rfl,.inl (SqL.of hL3),_,_,rfl,rfl,_,rfl,iteD (fun zp => ?_) (fun zp => ?_)⟩
  rotate_left
  · have e0:lf = []:=List.length_eq_zero_iff.mp (by omega)
    subst e0
    exact ⟨_,rfl,q O os H3 hOH s3 hO3 inv.done⟩
  have lp:0 < lf.length:=by omega
  have hT3:=s3 _ _ hT
  have hts3:=tms_same s3 hts
  refine ⟨fun σ' H'=>∃ m',m' < lf.length∧OwI H T a L O ts m' σ' H',fun σ' H' h=>h,?_⟩
  -- ready
  refine ⟨_,rfl,L,rfl,⟨_,SqL.of hL3⟩,?_⟩
  refine compI_listS (xs:=lf.map nV) (rdyV ts os) (SqL.of hL3) (by omega) (fun x hx H' sm R r => ?_) (fun x v hx e H' sm Q' q' => ?_) (fun R H4 hR0 s4 hR4 => ?_)
  · obtain ⟨k,hk,rfl⟩:=List.mem_map.mp hx
    have hkt:k < ts.length:=inv.lt (List.mem_append_right _ hk)
    obtain ⟨v,hv⟩:∃ v,us[k]? = some v:=⟨_,List.getElem?_eq_getElem (by omega)⟩
    obtain ⟨t,ht,hvt⟩:=tms_at hts3 hv
    have hvt':=hvt.same sm
    have er:(rdyV ts os (nV k)).isSome=((armsF t).all fun a=>decide (a∈os)):=by
      unfold rdyV
      have e1:(vI (nV k)).toNat=k:=by show ((k:Nat):Int).toNat=k;omega
      rw [e1]
      unfold rdyB
      rw [ht]
      show (if ((armsF t).all fun a=>decide (a∈os))=true then some (nV k) else none).isSome=_
      cases (armsF t).all fun a=>decide (a∈os) <;> rfl
    rw [er] at r
    cases t with
    | num n =>
      obtain ⟨b,rfl,h⟩:=id hvt'
      exact ⟨_,rfl,_,rfl,T,_,_,_,rfl,rfl,SqL.of (sm _ _ hT3),atI_nat hv,b,_,0,_,rfl,rfl,SqT.of h,atI_nat (j:=0) rfl,rfl,_,rfl,iteDN (fun _=>r _ (Same.refl _)) (fun z=>absurd (V.str.inj z) (by decide))⟩
    | name n =>
      obtain ⟨b,rfl,h⟩:=id hvt'
      exact ⟨_,rfl,_,rfl,T,_,_,_,rfl,rfl,SqL.of (sm _ _ hT3),atI_nat hv,b,_,0,_,rfl,rfl,SqT.of h,atI_nat (j:=0) rfl,rfl,_,rfl,iteDN (fun _=>r _ (Same.refl _)) (fun z=>absurd (V.str.inj z) (by decide))⟩
    | of x as =>
      obtain ⟨b,c,rfl,h,h2⟩:=id hvt'
      have ha4:=(hok.2.1 k x as ht).1
      refine ⟨_,rfl,_,rfl,T,_,_,_,rfl,rfl,SqL.of (sm _ _ hT3),atI_nat hv,b,_,0,_,rfl,rfl,SqT.of h,atI_nat (j:=0) rfl,rfl,_,rfl,iteDN (fun z=>absurd rfl z) (fun _ => ?_)⟩
      refine ⟨_,rfl,_,rfl,T,_,_,_,rfl,rfl,SqL.of (sm _ _ hT3),atI_nat hv,b,_,2,_,rfl,rfl,SqT.of h,atI_nat (j:=2) rfl,c,rfl,⟨_,SqT.of h2⟩,?_⟩
      refine comp_tupS (ys:=(as.map fun a=>decide (a∈os)).map V.bl) (SqT.of h2) (by rw [List.length_map];omega) (by simp) (fun i y z hy hz H'' s'' Q' q' => ?_) (fun D1 H'' hD10 s'' hD1 => ?_)
      · rw [List.getElem?_map] at hy
        rw [List.getElem?_map,List.getElem?_map] at hz
        cases ei:as[i]? with
        | none=>rw [ei] at hy;cases hy
        | some k' =>
          rw [ei] at hy hz
          have e1:nV k'=y:=Option.some.inj hy
          have e2:V.bl (decide (k'∈os))=z:=Option.some.inj hz
          subst e1 e2
          refine ⟨_,rfl,_,rfl,O,_,rfl,.inl (SqL.of (s'' _ _ (sm _ _ hO3))),rfl,flat_nats os,?_⟩
          rw [in_nats]
          exact q' _ (Same.refl _)
      · refine ⟨D1,as.map fun a=>decide (a∈os),rfl,SqL.of hD1,_,rfl,?_⟩
        have e3:(as.map fun a=>decide (a∈os)).all id=((armsF (.of x as:Tm)).all fun a=>decide (a∈os)):=by rw [List.all_map];rfl
        rw [e3]
        exact r _ s''
  · unfold rdyV at e
    split at e
    · rw [← Option.some.inj e] at q';exact ⟨_,rfl,q' _ (Same.refl _)⟩
    · cases e
  dsimp only [gName]
  have hzs:∀ v∈(lf.map nV).filterMap (rdyV ts os),∃ k,k∈lf∧rdyB ts os k=true∧v=nV k:=fun v hv=>by
    obtain ⟨u,hu,e⟩:=List.mem_filterMap.mp hv
    obtain ⟨k,hk,rfl⟩:=List.mem_map.mp hu
    unfold rdyV at e
    have e1:(vI (nV k)).toNat=k:=by show ((k:Nat):Int).toNat=k;omega
    rw [e1] at e
    split at e
    · rename_i hb;exact ⟨k,hk,hb,(Option.some.inj e).symm⟩
    · cases e
  have hzp:0 < ((lf.map nV).filterMap (rdyV ts os)).length:=by
    obtain ⟨k,hk,hb⟩:=inv.ready hok.1 lp
    refine List.length_pos_of_mem (a:=nV k) (List.mem_filterMap.mpr ⟨nV k,List.mem_map.mpr ⟨k,hk,rfl⟩,?_⟩)
    unfold rdyV
    have e1:(vI (nV k)).toNat=k:=by show ((k:Nat):Int).toNat=k;omega
    rw [e1,if_pos hb]
  have hzl:((lf.map nV).filterMap (rdyV ts os)).length≤lf.length:=Nat.le_trans (List.length_filterMap_le _ _) (Nat.le_of_eq hlm)
  generalize (lf.map nV).filterMap (rdyV ts os)=zs at hzs hzp hzl hR4
  have hL4:=s4 _ _ hL3
  have hO4:=s4 _ _ hO3
  have hS4:=(s3.trans s4).seq hS
  have np:=hn (by omega)
  have pn:(0:Int) < (((ns.map V.int).length:Nat):Int):=by omega
  have pz:(0:Int) < ((zs.length:Nat):Int):=by omega
  obtain ⟨v,hv,hvm⟩:=atI_ex (xs:=ns.map V.int) (Int.emod_nonneg (((os.map nV).length:Nat):Int) (show (((ns.map V.int).length:Nat):Int)≠0 by omega)) (Int.emod_lt_of_pos _ pn)
  obtain ⟨c,_,rfl⟩:=List.mem_map.mp hvm
  refine ⟨_,rfl,_,rfl,O,_,rfl,.inl (SqL.of hO4),_,rfl,a,_,rfl,.inl hS4,_,_,rfl,rfl,pn,a,_,_,_,rfl,rfl,hS4,hv,?_⟩
  dsimp only [gName]
  have hom':os.length < 1000:=by omega
  obtain ⟨v,hv,hvm⟩:=atI_ex (xs:=zs) (Int.emod_nonneg ((c * 39373+7 * (((os.map nV).length:Nat):Int)) % 2147483549) (show ((zs.length:Nat):Int)≠0 by omega)) (Int.emod_lt_of_pos _ pz)
  obtain ⟨k,hk,hrd,rfl⟩:=hzs v hvm
  refine ⟨_,rfl,_,rfl,_,_,rfl,rfl,.inr ⟨by decide,by decide⟩,_,rfl,O,_,rfl,.inl (SqL.of hO4),_,_,rfl,rfl,.inl ⟨by decide,by decide⟩,_,_,rfl,rfl,_,_,rfl,rfl,pos',_,rfl,R,_,rfl,.inl (SqL.of hR4),_,_,rfl,rfl,pz,R,_,_,_,rfl,rfl,SqL.of hR4,hv,?_⟩
  dsimp only [gName]
  refine ⟨_,rfl,.inl ⟨rfl,_,SqL.of hO4⟩,_,rfl,O,_,_,rfl,rfl,hO4,small1000 (by omega),?_⟩
  have s5:Same H (upd H4 O (.lst (os.map nV ++ [nV k]))):=(s3.trans s4).put hOH
  have hO5:(upd H4 O (.lst (os.map nV ++ [nV k]))) O=some (.lst ((os ++ [k]).map nV)):=by rw [upd_same,List.map_append];rfl
  have hL5:(upd H4 O (.lst (os.map nV ++ [nV k]))) L=some (.lst (lf.map nV)):=by rw [upd_ne hLO];exact hL4
  generalize upd H4 O (.lst (os.map nV ++ [nV k]))=H5 at s5 hO5 hL5 ⊢
  obtain ⟨j,hj,hno⟩:=first_nat hk
  have hjl:=(List.getElem?_eq_some_iff.mp hj).1
  refine ⟨_,rfl,.inl ⟨rfl,_,SqL.of hL5⟩,_,rfl,L,zz lf,((k:Nat):Int),j,rfl,rfl,by rw [zz_map];exact hL5,zz_some.mpr hj,fun i hi e=>hno i hi (zz_some.mp e),?_⟩
  refine ⟨(lf.eraseIdx j).length,?_,OwI.mk (os ++ [k]) (lf.eraseIdx j) _ _ _ rfl (s5.put hLH) ?_ ?_ (inv.step hj hrd) rfl⟩
  · rw [List.length_eraseIdx,if_pos hjl];omega
  · rw [upd_same,zz_map,erase_map]
  · rw [upd_ne hLO.symm];exact hO5
end

end K39
namespace K39
open PySem L2 Sw
section
variable {P:Program} {w:World} {K:PySem.W.Frag} {mg:Str→Option Value} {base:Heap} {CS CN tB:Addr}
theorem idx_atN:∀ {hs:List Nat} {n:Nat} {w:Nat},hs.Nodup→hs[n]? = some w→hs.idxOf w=n
  | [],n,w,_,e=>by simp at e
  | x :: hs,0,w,_,e=>by
    rw [List.getElem?_cons_zero] at e
    cases e
    rw [List.idxOf_cons,beq_self_eq_true];rfl
  | x :: hs,n+1,w,hn,e=>by
    rw [List.getElem?_cons_succ] at e
    have hw:=List.mem_of_getElem? e
    have hx:=(List.nodup_cons.mp hn).1
    have hne:(x == w)=false:=beq_eq_false_iff_ne.mpr fun z=>hx (z ▸ hw)
    rw [List.idxOf_cons,hne,idx_atN (List.nodup_cons.mp hn).2 e];rfl
theorem at_idxN {os:List Nat} {a:Nat} (hn:os.Nodup) (ha:a∈os):os[os.idxOf a]? = some a∧∀ i,i < os.idxOf a→os[i]? ≠ some a:=by
  obtain ⟨n,e⟩:=List.getElem?_of_mem ha
  have h1:=idx_atN hn e
  rw [h1]
  exact ⟨e,fun i hi ei=>by have:=idx_atN hn ei;omega⟩
noncomputable def tmAt (ts:List Tm) (k:Nat):Tm:=ts.getD k (.num 0)
theorem tmAt_some {ts:List Tm} {k:Nat} {t:Tm} (h:ts[k]? = some t):tmAt ts k=t:=by
  unfold tmAt
  rw [List.getD_eq_getElem?_getD,h];rfl
noncomputable def anewF (ts:List Tm) (os:List Nat):List Tm:=os.map fun k=>renT (fun a=>os.idxOf a) (tmAt ts k)
inductive SpAnew (vs:List V) (H:Hp) (Q:VK):Prop
  | mk (T O:Addr) (us:List V) (ts:List Tm) (os:List Nat) (ev:vs = [.ref T,.ref O]) (hT:H T=some (.lst us)) (hts:Tms H us ts) (hO:H O=some (.lst (os.map nV))) (ok:TsOk ts) (few:ts.length≤24) (od:OrdOk ts os)
    (q:∀ A us' H',H A=none→Same H H'→H' A=some (.lst us')→Tms H' us' (anewF ts os)→Q (.ref A) H'):SpAnew vs H Q
noncomputable def spAnew:Sp:=fun vs H Q _=>SpAnew vs H Q
inductive AnI (H:Hp) (T O A:Addr) (ts:List Tm) (os:List Nat) (i:Nat) (σ : St) (H':Hp):Prop
  | mk (us':List V) (x3 x4:Option V) (e : σ = [some (.ref T),some (.ref O),some (.ref A),x3,x4]) (sm:Same H H') (hA:H' A=some (.lst us')) (tm:Tms H' us' ((os.take i).map fun k=>renT (fun a=>os.idxOf a) (tmAt ts k)))
inductive AnT (H:Hp) (T O A:Addr) (k:Nat) (t:Tm) (σ : St) (H':Hp):Prop
  | mk (v:V) (e : σ = [some (.ref T),some (.ref O),some (.ref A),some (nV k),some v]) (sm:Same H H') (hv:IsTm H' t v)
theorem ok_anew (B:Blt mg) (D:Def K mg "_law_anew" s_anew ["_law_terms", "_law_order_here"]):Has P w K mg base 1 "_law_anew" ["_law_terms", "_law_order_here"] spAnew:=by
  refine D.has sc_anew (fun vs H Q E h => ?_) (fun f cdv A outer s H vs Q E hr h => ?_)
  · obtain ⟨T,O,us,ts,os,rfl,_⟩:=h;rfl
  obtain ⟨T,O,us,ts,os,rfl,hT,hts,hO,hok,few,od,q⟩:=h
  refine ⟨_,(pss_cons (ps_set (i:=2) sc_anew.nd rfl (Or.inl rfl) (pe_lst pa_nil))
    (pss_cons (ps_for PassesOwn.never rfl (pi_list (pv 1)) (pg_name (i:=3) sc_anew.nd rfl (Or.inl rfl))
    (pss_cons (ps_set (i:=4) sc_anew.nd rfl (Or.inl rfl) (pe_ix ix_list (pv 0) (pv 3) (fun _ _=>rfl)))
    (pss_cons (ps_if (pt_cmpR op_eq (pe_ix ix_tup (pv 4) pe_int (fun _ _=>rfl)) pe_str (nomark _)) (pss_one (ps_set (i:=4) sc_anew.nd rfl (Or.inl rfl) (pe_tup (pa_cons pe_str (pa_cons (pe_ix ix_tup (pv 4) pe_int (fun _ _=>rfl)) (pa_cons (pe_callTy call_tuple_of rfl B.tuple_ boot_tuple_ (pa_cons (pe_comp (te:=(tBM K "list" (fun x xs H Q=>∃ (l:Addr) (ws:List Int) (w:Int) (j:Nat),x = .ref l∧xs = [.int w]∧SqL K H l (ws.map V.int)∧ws[j]? = some w∧(∀ i,i < j→ws[i]? ≠ some w)∧Q (.int j) H) _ (tCons _ tNil))) (own := ["_law_arm"]) (caps := [("_law_order_here",1)]) (comp_scope (defScope s_anew) ["_law_terms", "_law_order_here", "_law_anew_here", "_law_k", "_law_term_here"] rfl rfl rfl (by decide +kernel)) (pi_tup (pe_ix ix_tup (pv 4) pe_int (fun _ _=>rfl))) rfl (fun _ _ _=>pg_name (i:=0) (show (["_law_arm", "_law_order_here"]:List Str).Nodup by decide +kernel) rfl (Or.inl rfl)) (fun _ _ _=>(pe_bm PySem.F.plainAttrs_list PySem.F.slot_list_index PySem.F.type_list_index mt_indexI (pv 1) (pa_cons (pv 0) pa_nil)))) pa_nil)) pa_nil)))))) pss_nil)
    (pss_one (ps_expr (pe_bm PySem.F.plainAttrs_list PySem.F.slot_list_append PySem.F.type_list_append mt_append (pv 2) (pa_cons (pv 4) pa_nil)))))))
    (pss_one (ps_ret (pv 2))))),?_⟩
  try dsimp only [cxOf]
  have hut:=Paired.length hts
  have hol:=od.len
  refine ⟨Nat.zero_le _,fun A1 hA1 => ?_⟩
  dsimp only [gName]
  have s1:=same_new hA1 (.lst [])
  have hA:=upd_same (H:=H) (a:=A1) (o := .lst [])
  generalize upd H A1 (.lst [])=H1 at s1 hA ⊢
  refine ⟨_,rfl,O,rfl,⟨_,SqL.of (s1 _ _ hO)⟩,?_⟩
  refine for_list (xs:=os.map nV) (AnI H T O A1 ts os) (AnI.mk [] none none rfl s1 hA .nil) ?_ ?_ ?_
  · rintro i σ H' _ ⟨us',x3,x4,rfl,sm,_⟩
    exact SqL.of (sm _ _ hO)
  · rintro i x σ H' hx ⟨us',x3,x4,rfl,sm,hA',tm⟩
    rw [List.getElem?_map] at hx
    obtain ⟨k,hk,rfl⟩:=Option.map_eq_some_iff.mp hx
    have hil:=(List.getElem?_eq_some_iff.mp hk).1
    have hkt:=od.lt k (List.mem_of_getElem? hk)
    obtain ⟨v,hv⟩:∃ v,us[k]? = some v:=⟨_,List.getElem?_eq_getElem (by omega)⟩
    obtain ⟨t,ht,hvt⟩:=tms_at hts hv
    have hvt':=hvt.same sm
    have et:=tmAt_some ht
    show tSeq _ _ _ _ _
    dsimp only [gName]
    refine ⟨_,rfl,_,rfl,T,_,_,_,rfl,rfl,SqL.of (sm _ _ hT),atI_nat hv,?_⟩
    dsimp only [gName]
    refine rd_cut (AnT H' T O A1 k (renT (fun a=>os.idxOf a) t)) ?_ (fun key => ?_)
    rotate_left
    · cases t with
      | num n =>
        obtain ⟨b,rfl,h⟩:=id hvt'
        exact ⟨_,rfl,b,_,0,_,rfl,rfl,SqT.of h,atI_nat (j:=0) rfl,rfl,_,rfl,iteD (fun z=>absurd (V.str.inj z) (by decide)) (fun _=>key _ _ (AnT.mk _ rfl (Same.refl _) hvt'))⟩
      | name n =>
        obtain ⟨b,rfl,h⟩:=id hvt'
        exact ⟨_,rfl,b,_,0,_,rfl,rfl,SqT.of h,atI_nat (j:=0) rfl,rfl,_,rfl,iteD (fun z=>absurd (V.str.inj z) (by decide)) (fun _=>key _ _ (AnT.mk _ rfl (Same.refl _) hvt'))⟩
      | of x as =>
        obtain ⟨b,c,rfl,h,h2⟩:=id hvt'
        have ha4:=(hok.2.1 k x as ht).1
        refine ⟨_,rfl,b,_,0,_,rfl,rfl,SqT.of h,atI_nat (j:=0) rfl,rfl,_,rfl,iteD (fun _ => ?_) (fun z=>absurd rfl z)⟩
        refine ⟨_,rfl,b,_,1,_,rfl,rfl,SqT.of h,atI_nat (j:=1) rfl,?_⟩
        refine ⟨_,rfl,b,_,2,_,rfl,rfl,SqT.of h,atI_nat (j:=2) rfl,c,rfl,⟨_,SqT.of h2⟩,?_⟩
        refine comp_tupS (ys:=(as.map fun a=>os.idxOf a).map nV) (SqT.of h2) (by rw [List.length_map];omega) (by simp) (fun i y z hy hz H2 s2 Q' q' => ?_) (fun D1 H2 hD1 s2 hD => ?_)
        · rw [List.getElem?_map] at hy
          rw [List.getElem?_map,List.getElem?_map] at hz
          cases e:as[i]? with
          | none=>rw [e] at hy;cases hy
          | some a =>
            rw [e] at hy hz
            have e1:nV a=y:=Option.some.inj hy
            have e2:nV (os.idxOf a)=z:=Option.some.inj hz
            subst e1 e2
            have hak:a < k:=hok.1 k x as ht a (List.mem_of_getElem? e)
            obtain ⟨i1,i2⟩:=at_idxN od.nd (od.mem a (by omega))
            have hO2:=s2 _ _ (sm _ _ hO)
            exact ⟨_,rfl,.inl ⟨rfl,_,SqL.of hO2⟩,_,rfl,O,zz os,((a:Nat):Int),os.idxOf a,rfl,rfl,SqL.of (by rw [zz_map];exact hO2),zz_some.mpr i1,fun i hi e=>i2 i hi (zz_some.mp e),q' _ (Same.refl _)⟩
        · refine ⟨D1,_,rfl,.inl ⟨SqL.of hD,fun l hl' => ?_⟩⟩
          refine ⟨(show 3≤sizeLine by decide),fun p hp => ?_⟩
          refine key _ _ (AnT.mk _ rfl (s2.trans ((same_new hl' _).trans (same_new hp _))) ⟨p,l,rfl,upd_same,?_⟩)
          rw [upd_ne (ne_of_none upd_same hp),upd_same]
    rintro σ' H3 ⟨v3,rfl,s3,hv3⟩
    have hA3:=s3 _ _ hA'
    have kp:∀ b ys,H3 b=some (.tup ys)→(upd H3 A1 (.lst (us' ++ [v3]))) b=some (.tup ys):=fun b ys e=>by rw [upd_ne (ne_of e hA3 (fun z=>nomatch z))];exact e
    have hul:us'.length≤24:=by
      rw [Paired.length tm,List.length_map,List.length_take];omega
    refine ⟨_,rfl,.inl ⟨rfl,_,SqL.of hA3⟩,_,rfl,A1,us',v3,rfl,rfl,hA3,small1000 (by omega),?_⟩
    refine AnI.mk (us' ++ [v3]) _ _ rfl ((sm.trans s3).put hA1) upd_same ?_
    have er:(os.take (i+1)).map (fun k=>renT (fun a=>os.idxOf a) (tmAt ts k))=(os.take i).map (fun k=>renT (fun a=>os.idxOf a) (tmAt ts k)) ++ [renT (fun a=>os.idxOf a) t]:=by
      rw [List.take_add_one,hk,List.map_append, ← et];rfl
    rw [er]
    exact tms_snoc (tms_keep kp (tms_same s3 tm)) (hv3.keep kp)
  · rintro σ H' ⟨us',x3,x4,rfl,sm,hA',tm⟩
    have e:(os.map nV).length=os.length:=List.length_map ..
    rw [e,List.take_length] at tm
    exact ⟨_,rfl,q A1 us' H' hA1 sm hA' tm⟩
theorem anew_len (ts:List Tm) (os:List Nat):(anewF ts os).length=os.length:=List.length_map ..
theorem anew_ren {ts:List Tm} {os:List Nat} (hok:TsOk ts) (od:OrdOk ts os):Ren ts (anewF ts os) (fun i=>os.getD i 0) (fun a=>os.idxOf a):=by
  have hol:=od.len
  have at_:∀ i,i < ts.length→os[i]? = some (os.getD i 0):=fun i hi=>by
    rw [List.getD_eq_getElem?_getD,List.getElem?_eq_getElem (by omega)];rfl
  refine ⟨by rw [anew_len,od.len],fun i hi=>od.lt _ (List.mem_of_getElem? (at_ i hi)),fun i hi => ?_,fun i hi => ?_,fun i hi=>idx_atN od.nd (at_ i hi),fun i t ht a ha => ?_,fun i hi => ?_⟩
  · have:=List.idxOf_lt_length_of_mem (od.mem i hi)
    show os.idxOf i < ts.length
    omega
  · show os.getD (os.idxOf i) 0=i
    rw [List.getD_eq_getElem?_getD,(at_idxN od.nd (od.mem i hi)).1];rfl
  · have hi:=(List.getElem?_eq_some_iff.mp ht).1
    cases t with
    | num n=>cases ha
    | name n=>cases ha
    | of x as=>have:=hok.1 i x as ht a ha;omega
  · unfold anewF
    rw [List.getElem?_map,at_ i hi]
    have hk:=od.lt _ (List.mem_of_getElem? (at_ i hi))
    have ht:=List.getElem?_eq_getElem hk
    show some (renT _ (tmAt ts (os.getD i 0)))=(ts[os.getD i 0]?).map _
    rw [tmAt_some ht,ht];rfl
theorem anew_ok {ts:List Tm} {os:List Nat} (hok:TsOk ts) (od:OrdOk ts os):TsOk (anewF ts os):=by
  have R:=anew_ren hok od
  have hol:=od.len
  have arm:∀ (i:Nat) y as,(anewF ts os)[i]? = some (.of y as)→∃ k bs,os[i]? = some k∧ts[k]? = some (.of y bs)∧as=bs.map fun a=>os.idxOf a:=fun i y as e=>by
    obtain ⟨t0,h1,h2,hi⟩:=R.at_ e
    cases t0 with
    | num n=>cases h2
    | name n=>cases h2
    | of x bs =>
      cases h2
      refine ⟨os.getD i 0,bs,?_,h1,rfl⟩
      rw [List.getD_eq_getElem?_getD,List.getElem?_eq_getElem (by omega)];rfl
  refine ⟨fun i y as e a ha => ?_,fun i y as e => ?_,?_⟩
  · obtain ⟨k,bs,hk,ht,rfl⟩:=arm i y as e
    obtain ⟨b,hb,rfl⟩:=List.mem_map.mp ha
    obtain ⟨j,hj,ej⟩:=od.ar i k _ hk ht b hb
    rw [idx_atN od.nd ej];exact hj
  · obtain ⟨k,bs,hk,ht,rfl⟩:=arm i y as e
    rw [List.length_map]
    exact hok.2.1 k y bs ht
  · refine List.pairwise_iff_getElem.mpr fun i j hi' hj' hij e => ?_
    have hi:i < ts.length:=by rw [anew_len,hol] at hi';exact hi'
    have hj:j < ts.length:=by rw [anew_len,hol] at hj';exact hj'
    have e0:(anewF ts os)[i]? = (anewF ts os)[j]? := by rw [List.getElem?_eq_getElem hi',List.getElem?_eq_getElem hj',e]
    have e1:=R.tm i hi
    have e2:=R.tm j hj
    rw [e0,e2] at e1
    have fi:=R.ff i hi
    have fj:=R.ff j hj
    have t1:=List.getElem?_eq_getElem fi
    have t2:=List.getElem?_eq_getElem fj
    rw [t1,t2] at e1
    have e3:renT (fun a=>os.idxOf a) (ts[(fun i=>os.getD i 0) j])=renT (fun a=>os.idxOf a) (ts[(fun i=>os.getD i 0) i]):=Option.some.inj e1
    have e4:=congrArg (renT (fun i=>os.getD i 0)) e3
    rw [ren_back R.fg (R.arms _ _ t2),ren_back R.fg (R.arms _ _ t1)] at e4
    have e5:(fun i=>os.getD i 0) j=(fun i=>os.getD i 0) i:=by
      rcases Nat.lt_trichotomy ((fun i=>os.getD i 0) j) ((fun i=>os.getD i 0) i) with z | z | z
      · exact absurd e4 (List.pairwise_iff_getElem.mp hok.2.2 _ _ fj fi z)
      · exact z
      · exact absurd e4.symm (List.pairwise_iff_getElem.mp hok.2.2 _ _ fi fj z)
    have g1:os.idxOf (os.getD i 0)=i:=R.gf i hi
    have g2:os.idxOf (os.getD j 0)=j:=R.gf j hj
    have e6:os.getD j 0=os.getD i 0:=e5
    rw [e6,g1] at g2
    omega
end

end K39
namespace K39
open PySem L2 Sw
section
variable {P:Program} {w:World} {K:PySem.W.Frag} {mg:Str→Option Value} {base:Heap} {CS CN tB:Addr}
theorem den_ints {H:Hp} {b:Addr} {ks:List Int} (hb:H b=some (.lst (ks.map V.int))):Den H (.lst (ks.map D.int)) (.ref b):=by
  rw [Den]
  refine ⟨b,_,rfl,hb,?_⟩
  clear hb
  induction ks with
  | nil=>exact dens_nil
  | cons n l ih=>rw [List.map_cons,List.map_cons];exact dens_cons (by rw [Den];exact .inl rfl) ih
theorem deep_ints (ks:List Int):L2.D.deeps (ks.map D.int)≤150:=by
  induction ks with
  | nil=>rw [List.map_nil,L2.D.deeps];omega
  | cons n l ih=>rw [List.map_cons,L2.D.deeps,L2.D.deep];omega
theorem sort_one:∀ {l m:List Int},l.Perm m→l.Pairwise (· ≤ ·)→m.Pairwise (· ≤ ·)→l=m
  | [],m,h,_,_=>(List.nil_perm.mp h).symm
  | x :: l, [],h,_,_=>absurd h.length_eq (by simp)
  | x :: l,y :: m,h,h1,h2=>by
    have a1:=List.pairwise_cons.mp h1
    have a2:=List.pairwise_cons.mp h2
    have e:x=y:=by
      have m1:=h.mem_iff.mp (List.mem_cons_self (a:=x) (l:=l))
      have m2:=h.mem_iff.mpr (List.mem_cons_self (a:=y) (l:=m))
      rcases List.mem_cons.mp m1 with z | z
      · exact z
      · rcases List.mem_cons.mp m2 with z' | z'
        · exact z'.symm
        · have:=a2.1 x z
          have:=a1.1 y z'
          omega
    subst e
    rw [sort_one (List.Perm.cons_inv h) a1.2 a2.2]
theorem free_has {ts:List Tm} {f:Nat} {z:Str}:freeF ts f z=true↔¬ Has' (heldF ts) f z:=by
  unfold freeF Has'
  by_cases hz:z∈heldF ts
  · rw [if_pos hz,decide_eq_true_iff]
    unfold bitW
    rw [and_pow]
    constructor
    · rintro h ⟨_,h2⟩
      rw [if_pos h2] at h
      have:=Nat.two_pow_pos ((heldF ts).idxOf z)
      omega
    · intro h
      rw [if_neg fun c=>h ⟨hz,c⟩]
  · rw [if_neg hz]
    exact ⟨fun _ h=>hz h.1,fun _=>rfl⟩
theorem free_ren {ts ts':List Tm} {f g:Nat→Nat} {ls ls' ks ks':List Nat} (R:RenL ts ts' f g ls ls') (hn:ts.Nodup) (hn':ts'.Nodup) (a:LearnG ts.length (2 ^ (heldF ts).length - 1) (wNm ts ls) ls ks) (b:LearnG ts'.length (2 ^ (heldF ts').length - 1) (wNm ts' ls') ls' ks') {i:Nat} (hi:i < ts.length) (z:Str) :
    freeF ts (ks.getD (f i) 0) z=freeF ts' (ks'.getD i 0) z:=by
  rw [Bool.eq_iff_iff,free_has,free_has,names_ren R hn hn' a b hi z]
theorem wSg_ren {ts ts':List Tm} {f g:Nat→Nat} (R:Ren ts ts' f g) {zs:List Nat} {i:Nat} (hi:i < ts.length):wSg ts' (trl ts.length f zs) i=wSg ts zs (f i):=by
  obtain ⟨t,ht⟩:∃ t,ts[f i]? = some t:=⟨_,List.getElem?_eq_getElem (R.ff i hi)⟩
  have e:=R.tm i hi
  rw [ht] at e
  unfold wSg
  rw [e,ht]
  show (worthS (zz (trl ts.length f zs)) (renT g t)).toNat=(worthS (zz zs) t).toNat
  congr 1
  have ar:=R.arms _ _ ht
  cases t with
  | num n=>rfl
  | name n=>rfl
  | of x as =>
    show worthS _ (.of x (as.map g))=_
    rw [worthS_of,worthS_of,List.length_map]
    have kg:∀ k,k < as.length→kgF (zz (trl ts.length f zs)) (as.map g) k=kgF (zz zs) as k:=fun k hk=>by
      unfold kgF
      have hm:as.getD k 0∈as:=by rw [List.getD_eq_getElem?_getD,List.getElem?_eq_getElem hk];exact List.getElem_mem hk
      have ga:(as.map g).getD k 0=g (as.getD k 0):=by
        rw [List.getD_eq_getElem?_getD,List.getElem?_map,List.getD_eq_getElem?_getD,List.getElem?_eq_getElem hk];rfl
      have hb:=ar _ hm
      rw [ga,zz_at,zz_at,trl_at (R.gg _ hb),R.fg _ hb]
    split
    · rename_i c;rw [kg 0 (by omega),kg 1 (by omega)]
    · split
      · rename_i c;rw [kg 0 (by omega),kg 1 (by omega)]
      · split
        · rename_i c;rw [kg 0 (by omega)]
        · rfl
theorem signs_ren {ts ts':List Tm} {f g:Nat→Nat} {ls ls' ks ks':List Nat} (R:RenL ts ts' f g ls ls') (a:LearnG ts.length 7 (wSg ts) ls ks) (b:LearnG ts'.length 7 (wSg ts') ls' ks') {i:Nat} (hi:i < ts.length):ks'.getD i 0=ks.getD (f i) 0 :=
  learn_ren R a b (fun zs _ i hi=>wSg_ren R.ren hi) (fun zs _ i hi=>by
    rw [wSg_ren R.ren.symm hi]) hi
structure AlG (ts ts':List Tm) (os ls ls':List Nat):Prop where
  R:RenL ts ts' (fun i=>os.getD i 0) (fun a=>os.idxOf a) ls ls'
  ok:TsOk ts
  ok':TsOk ts'
  few:ts.length≤24
  ol:os.length=ts.length
  gd:GoodL ls
  gd':GoodL ls'
inductive SpAlike (vs:List V) (H:Hp) (Q:VK):Prop
  | mk (T L T' L' O A:Addr) (us us':List V) (ts ts':List Tm) (ls ls' os:List Nat) (ws:List Str) (ev:vs = [.ref T,.ref L,.ref T',.ref L',.ref O,.ref A]) (hT:H T=some (.lst us)) (hts:Tms H us ts) (hL:H L=some (.lst (ls.map nV))) (hT':H T'=some (.lst us')) (hts':Tms H us' ts') (hL':H L'=some (.lst (ls'.map nV)))
    (hO:H O=some (.lst (os.map nV))) (hA:H A=some (.lst (ws.map V.str))) (G:AlG ts ts' os ls ls') (q:∀ H',Q (.bl true) H'):SpAlike vs H Q
noncomputable def spAlike:Sp:=fun vs H Q _=>SpAlike vs H Q
structure AlF (CN:Addr) (H:Hp) (Sg Kd Fc S1 S2 o1 o2 F1 F2:Addr) (ts ts':List Tm) (ls ls' ks ks' kn kn':List Nat):Prop where
  hSg:H Sg=some (.lst [.ref S1,.ref S2])
  hS1:H S1=some (.lst (ks.map nV))
  hS2:H S2=some (.lst (ks'.map nV))
  hKd:H Kd=some (.lst [.ref o1,.ref o2])
  n1:NamesAt CN H o1 ts ls
  n2:NamesAt CN H o2 ts' ls'
  hFc:H Fc=some (.lst [.ref F1,.ref F2])
  hF1:H F1=some (.lst (kn.map nV))
  hF2:H F2=some (.lst (kn'.map nV))
theorem AlF.same {CN:Addr} {H H':Hp} {Sg Kd Fc S1 S2 o1 o2 F1 F2:Addr} {ts ts':List Tm} {ls ls' ks ks' kn kn':List Nat} (h:AlF CN H Sg Kd Fc S1 S2 o1 o2 F1 F2 ts ts' ls ls' ks ks' kn kn') (s:Same H H'):AlF CN H' Sg Kd Fc S1 S2 o1 o2 F1 F2 ts ts' ls ls' ks ks' kn kn' :=
  ⟨s _ _ h.hSg,s _ _ h.hS1,s _ _ h.hS2,s _ _ h.hKd,h.n1.same s,h.n2.same s,s _ _ h.hFc,s _ _ h.hF1,s _ _ h.hF2⟩
inductive Al1 (H:Hp) (T L T' L' O A:Addr) (ts:List Tm) (ls:List Nat) (σ : St) (H':Hp):Prop
  | mk (Sg S1:Addr) (ks:List Nat) (e : σ = [some (.ref T),some (.ref L),some (.ref T'),some (.ref L'),some (.ref O),some (.ref A),some (.ref Sg),none,none,none,none,none,none,none]) (sm:Same H H') (s0:H Sg=none) (hSg:H' Sg=some (.lst [.ref S1])) (hS1:H' S1=some (.lst (ks.map nV))) (lk:LearnG ts.length 7 (wSg ts) ls ks) (ne:S1≠Sg)
inductive Al2 (H:Hp) (T L T' L' O A:Addr) (Sg:Addr) (S1:Addr) (ks:List Nat) (ts:List Tm) (ls:List Nat) (σ : St) (H':Hp):Prop
  | mk (S2:Addr) (ks':List Nat) (e : σ = [some (.ref T),some (.ref L),some (.ref T'),some (.ref L'),some (.ref O),some (.ref A),some (.ref Sg),none,none,none,none,none,none,none]) (sm:Same H H') (hSg:H' Sg=some (.lst [.ref S1,.ref S2])) (hS1:H' S1=some (.lst (ks.map nV))) (hS2:H' S2=some (.lst (ks'.map nV))) (lk:LearnG ts.length 7 (wSg ts) ls ks')
inductive Al3 (CN:Addr) (H:Hp) (T L T' L' O A:Addr) (Sg:Addr) (ts ts':List Tm) (ls ls':List Nat) (σ : St) (H':Hp):Prop
  | mk (Kd o1 o2:Addr) (e : σ = [some (.ref T),some (.ref L),some (.ref T'),some (.ref L'),some (.ref O),some (.ref A),some (.ref Sg),some (.ref Kd),none,none,none,none,none,none]) (sm:Same H H') (hKd:H' Kd=some (.lst [.ref o1,.ref o2])) (n1:NamesAt CN H' o1 ts ls) (n2:NamesAt CN H' o2 ts' ls')
inductive Al4 (H:Hp) (T L T' L' O A:Addr) (Sg Kd:Addr) (ts ts':List Tm) (ls ls':List Nat) (σ : St) (H':Hp):Prop
  | mk (Fc F1 F2:Addr) (kn kn':List Nat) (e : σ = [some (.ref T),some (.ref L),some (.ref T'),some (.ref L'),some (.ref O),some (.ref A),some (.ref Sg),some (.ref Kd),some (.ref Fc),none,none,none,none,none]) (sm:Same H H') (hFc:H' Fc=some (.lst [.ref F1,.ref F2])) (hF1:H' F1=some (.lst (kn.map nV))) (hF2:H' F2=some (.lst (kn'.map nV)))
    (l1:LearnG ts.length (2 ^ (heldF ts).length - 1) (wNm ts ls) ls kn) (l2:LearnG ts'.length (2 ^ (heldF ts').length - 1) (wNm ts' ls') ls' kn')
inductive AlI (H:Hp) (T L T' L' O A:Addr) (Sg Kd Fc:Addr) (i:Nat) (σ : St) (H':Hp):Prop
  | mk (x9 x10 x11 x12 x13:Option V) (e : σ = [some (.ref T),some (.ref L),some (.ref T'),some (.ref L'),some (.ref O),some (.ref A),some (.ref Sg),some (.ref Kd),some (.ref Fc),x9,x10,x11,x12,x13]) (sm:Same H H')
inductive AlJ (H:Hp) (T L T' L' O A:Addr) (Sg Kd Fc:Addr) (i k:Nat) (j:Nat) (σ : St) (H':Hp):Prop
  | mk (x11 x12 x13:Option V) (e : σ = [some (.ref T),some (.ref L),some (.ref T'),some (.ref L'),some (.ref O),some (.ref A),some (.ref Sg),some (.ref Kd),some (.ref Fc),some (nV i),some (nV k),x11,x12,x13]) (sm:Same H H')
theorem stored_eq {H:Hp} {v u:V} {r:Option (Int × Int)} (h:Stored H v r) (h':Stored H u r) {Q:VK} (q:Q (.bl true) H):J_eqO v u H Q:=by
  cases r with
  | none =>
    have e1:v = .non:=h
    have e2:u = .non:=h'
    subst e1 e2
    exact .non rfl rfl q
  | some p =>
    obtain ⟨t,rfl,ht⟩:=h
    obtain ⟨t',rfl,ht'⟩:=h'
    have d:∀ t,H t=some (.tup [.int p.1,.int p.2])→Den H (.tup [.int p.1,.int p.2]) (.ref t):=fun t ht=>by
      rw [Den]
      exact ⟨t,_,rfl,ht,dens_cons (by rw [Den];exact .inl rfl) (dens_cons (by rw [Den];exact .inl rfl) dens_nil)⟩
    refine .tup ⟨_,_,.inl ⟨d t ht,d t' ht'⟩,?_,?_⟩
    · rw [L2.D.deeps,L2.D.deeps,L2.D.deeps,L2.D.deep,L2.D.deep];decide
    · rw [decide_eq_true rfl];exact q
theorem ok_alike (B:Blt mg) (b_sorted:mg "sorted" = none) (cS:Cls K CS) (cN:Cls K CN) (h_init_Signs:HasC P w K mg base 1 "Signs" CS ["self", "terms", "leads"] (spKInit CS)) (h_init_Names:HasC P w K mg base 2 "Names" CN ["self", "terms", "leads"] (spNInit CN))
    (h_learned:Has P w K mg base 4 "learned" ["kind"] (spLearnedG (fun o ts ls H=>SgAt CS H o ts ls) (fun _=>7) (fun ts _ ks k=>wSg ts ks k))) (h_learnedN:Has P w K mg base 4 "learned" ["kind"] (spLearnedG (fun o ts ls H=>NamesAt CN H o ts ls) (fun ts=>2 ^ (heldF ts).length - 1) wNm))
    (h_nfree:HasM P w K mg base 1 CN "free" ["self", "known", "k", "name"] (spNFree K CN)) (h_numbers:Has P w K mg base 2 "numbers" ["terms", "leads", "k"] spNumbers) (h_odds:Has P w K mg base 3 "odds" ["terms", "leads"] spOdds)
    (D:Def K mg "_law_alike" s_alike ["_law_terms", "_law_leads", "_law_others", "_law_later", "_law_order_here", "_law_asked"]):Has P w K mg base 5 "_law_alike" ["_law_terms", "_law_leads", "_law_others", "_law_later", "_law_order_here", "_law_asked"] spAlike:=by
  refine D.has sc_alike (fun vs H Q E h => ?_) (fun f cdv A outer s H vs Q E hr h => ?_)
  · obtain ⟨T,L,T',L',O,Ak,us,us',ts,ts',ls,ls',os,ws,rfl,_⟩:=h;rfl
  obtain ⟨T,L,T',L',O,Ak,us,us',ts,ts',ls,ls',os,ws,rfl,hT,hts,hL,hT',hts',hL',hO,hA,G,q⟩:=h
  refine ⟨_,(pss_cons (ps_set (i:=6) sc_alike.nd rfl (Or.inl rfl) (pe_lst (pa_cons (pe_ix ix_tup (pe_callH h_learned hr (by omega) rfl (pa_cons (pe_makeE h_init_Signs hr (by omega) passNo rfl (pa_cons (pe_callTy call_list_of rfl B.list_ boot_list_ (pa_cons (pv 0) pa_nil)) (pa_cons (pe_callTy call_list_of rfl B.list_ boot_list_ (pa_cons (pv 1) pa_nil)) pa_nil))) pa_nil)) pe_int (fun _ _=>rfl)) pa_nil)))
    (pss_cons (ps_expr (pe_bm PySem.F.plainAttrs_list PySem.F.slot_list_append PySem.F.type_list_append mt_append (pv 6) (pa_cons (pe_ix ix_tup (pe_callH h_learned hr (by omega) rfl (pa_cons (pe_makeE h_init_Signs hr (by omega) passNo rfl (pa_cons (pe_callTy call_list_of rfl B.list_ boot_list_ (pa_cons (pv 2) pa_nil)) (pa_cons (pe_callTy call_list_of rfl B.list_ boot_list_ (pa_cons (pv 3) pa_nil)) pa_nil))) pa_nil)) pe_int (fun _ _=>rfl)) pa_nil)))
    (pss_cons (ps_set (i:=7) sc_alike.nd rfl (Or.inl rfl) (pe_lst (pa_cons (pe_makeE h_init_Names hr (by omega) passNo rfl (pa_cons (pe_callTy call_list_of rfl B.list_ boot_list_ (pa_cons (pv 0) pa_nil)) (pa_cons (pe_callTy call_list_of rfl B.list_ boot_list_ (pa_cons (pv 1) pa_nil)) pa_nil))) (pa_cons (pe_makeE h_init_Names hr (by omega) passNo rfl (pa_cons (pe_callTy call_list_of rfl B.list_ boot_list_ (pa_cons (pv 2) pa_nil)) (pa_cons (pe_callTy call_list_of rfl B.list_ boot_list_ (pa_cons (pv 3) pa_nil)) pa_nil))) pa_nil))))
    (pss_cons (ps_set (i:=8) sc_alike.nd rfl (Or.inl rfl) (pe_lst (pa_cons (pe_ix ix_tup (pe_callH h_learnedN hr (by omega) rfl (pa_cons (pe_ix ix_list (pv 7) pe_int (fun _ _=>rfl)) pa_nil)) pe_int (fun _ _=>rfl)) (pa_cons (pe_ix ix_tup (pe_callH h_learnedN hr (by omega) rfl (pa_cons (pe_ix ix_list (pv 7) pe_int (fun _ _=>rfl)) pa_nil)) pe_int (fun _ _=>rfl)) pa_nil))))
    (pss_cons (ps_for PassesOwn.never rfl (pi_range1 rfl B.range_ (pa_cons (pe_callB call_len_seq rfl B.len_ PySem.boot_len (pa_cons (pv 4) pa_nil)) pa_nil)) (pg_name (i:=9) sc_alike.nd rfl (Or.inl rfl))
    (pss_cons (ps_set (i:=10) sc_alike.nd rfl (Or.inl rfl) (pe_ix ix_list (pv 4) (pv 9) (fun _ _=>rfl)))
    (pss_cons (ps_if (pt_cmpR op_ne (pe_ix ix_list (pe_ix ix_list (pv 6) pe_int (fun _ _=>rfl)) (pv 10) (fun _ _=>rfl)) (pe_ix ix_list (pe_ix ix_list (pv 6) pe_int (fun _ _=>rfl)) (pv 9) (fun _ _=>rfl)) (nomark _)) (pss_one (ps_ret pe_bl)) pss_nil)
    (pss_cons (ps_for PassesOwn.never rfl (pi_list (pv 5)) (pg_name (i:=11) sc_alike.nd rfl (Or.inl rfl))
    (pss_one (ps_if (pt_cmpR op_ne (pe_mE h_nfree cN hr (by omega) passNo (pe_ix ix_list (pv 7) pe_int (fun _ _=>rfl)) (pa_cons (pe_ix ix_list (pv 8) pe_int (fun _ _=>rfl)) (pa_cons (pv 10) (pa_cons (pv 11) pa_nil)))) (pe_mE h_nfree cN hr (by omega) passNo (pe_ix ix_list (pv 7) pe_int (fun _ _=>rfl)) (pa_cons (pe_ix ix_list (pv 8) pe_int (fun _ _=>rfl)) (pa_cons (pv 9) (pa_cons (pv 11) pa_nil)))) (nomark _)) (pss_one (ps_ret pe_bl)) pss_nil)))
    (pss_cons (ps_set (i:=12) sc_alike.nd rfl (Or.inl rfl) (pe_callH h_numbers hr (by omega) rfl (pa_cons (pe_callTy call_list_of rfl B.list_ boot_list_ (pa_cons (pv 0) pa_nil)) (pa_cons (pe_callTy call_list_of rfl B.list_ boot_list_ (pa_cons (pv 1) pa_nil)) (pa_cons (pv 10) pa_nil)))))
    (pss_cons (ps_set (i:=13) sc_alike.nd rfl (Or.inl rfl) (pe_callH h_numbers hr (by omega) rfl (pa_cons (pe_callTy call_list_of rfl B.list_ boot_list_ (pa_cons (pv 2) pa_nil)) (pa_cons (pe_callTy call_list_of rfl B.list_ boot_list_ (pa_cons (pv 3) pa_nil)) (pa_cons (pv 9) pa_nil)))))
    (pss_one (ps_if (pt_cmpR (op_neD (un101 hr)) (pe_callB call_sortedL rfl b_sorted boot_sorted_ (pa_cons (pv 12) pa_nil)) (pe_callB call_sortedL rfl b_sorted boot_sorted_ (pa_cons (pv 13) pa_nil)) (nomark _)) (pss_one (ps_ret pe_bl)) pss_nil))))))))
    (pss_one (ps_ret (pe_cmpR (op_eqO (un101 hr)) (pe_callH h_odds hr (by omega) rfl (pa_cons (pe_callTy call_list_of rfl B.list_ boot_list_ (pa_cons (pv 0) pa_nil)) (pa_cons (pe_callTy call_list_of rfl B.list_ boot_list_ (pa_cons (pv 1) pa_nil)) pa_nil))) (pe_callH h_odds hr (by omega) rfl (pa_cons (pe_callTy call_list_of rfl B.list_ boot_list_ (pa_cons (pv 2) pa_nil)) (pa_cons (pe_callTy call_list_of rfl B.list_ boot_list_ (pa_cons (pv 3) pa_nil)) pa_nil))) (nomark _))))))))),?_⟩
  try dsimp only [cxOf]
  have hut:=Paired.length hts
  have hut':=Paired.length hts'
  have few:=G.few
  have tl':=G.R.ren.len
  have hll:=G.R.len
  have hll':=G.R.len'
  have hol:=G.ol
  -- signs
  refine rd_cut (Al1 H T L T' L' O Ak ts ls) ?_ (fun key => ?_)
  rotate_left
  · refine ⟨_,rfl,T,us,rfl,.inl (SqL.of hT),fun C1 hC1 => ?_⟩
    have t6:=same_new hC1 (.lst us)
    have hC16:=upd_same (H:=H) (a:=C1) (o := .lst us)
    generalize upd H C1 (.lst us)=H7 at t6 hC16 ⊢
    refine ⟨_,rfl,L,_,rfl,.inl (SqL.of (t6 _ _ hL)),fun C2 hC2 => ?_⟩
    have t7:=same_new hC2 (.lst (ls.map nV))
    have hC27:=upd_same (H:=H7) (a:=C2) (o := .lst (ls.map nV))
    have hC17:=t7 _ _ hC16
    have t67:=t6.trans t7
    generalize upd H7 C2 (.lst (ls.map nV))=H8 at t67 hC27 hC17 ⊢
    refine fun o2 dx ho0 hdx0 hne=>⟨o2,dx,C1,C2,us,ls.map nV,rfl,upd_same,?_,?_,fun H9 B1 B2 bt hB1 hB2 g1 g2 go=>⟨rfl,?_⟩⟩
    · rw [upd_ne (ne_of_none hC17 ho0),upd_ne (ne_of_none hC17 hdx0)];exact hC17
    · rw [upd_ne (ne_of_none hC27 ho0),upd_ne (ne_of_none hC27 hdx0)];exact hC27
    have s8:Same H8 H9:=fun c u e=>bt _ _ (ne_of_none e ho0) (by rw [upd_ne (ne_of_none e ho0),upd_ne (ne_of_none e hdx0)];exact e)
    have g9:=t67.trans s8
    have sg:SgAt CS H9 o2 ts ls:=⟨dx,B1,B2,us,go,g1,tms_same g9 hts,g2⟩
    refine ⟨o2,ts,ls,rfl,sg,G.ok,hll,few,fun p1 N1 S1 ks HA s9 hp1 hN1 lk => ?_⟩
    refine ⟨p1,_,0,_,rfl,rfl,SqT.of hp1,atI_nat (j:=0) rfl,(show 1≤sizeLine by decide),fun Sg hSg => ?_⟩
    have gA:=g9.trans s9
    have sn:=same_new hSg (.lst [.ref N1])
    exact key _ _ (Al1.mk Sg N1 ks rfl (gA.trans sn) (gA.free hSg) upd_same (sn _ _ hN1) lk (ne_of_none hN1 hSg))
  rintro σ' H1 ⟨Sg,S1,ks,rfl,s1,sg0,hSg,hS1,lk1,neS⟩
  refine rd_cut (Al2 H T L T' L' O Ak Sg S1 ks ts' ls') ?_ (fun key => ?_)
  rotate_left
  · refine ⟨_,rfl,.inl ⟨rfl,_,SqL.of hSg⟩,_,rfl,T',us',rfl,.inl (SqL.of (s1 _ _ hT')),fun C1 hC1 => ?_⟩
    have t6:=same_new hC1 (.lst us')
    have hC16:=upd_same (H:=H1) (a:=C1) (o := .lst us')
    generalize upd H1 C1 (.lst us')=H7 at t6 hC16 ⊢
    refine ⟨_,rfl,L',_,rfl,.inl (SqL.of (t6 _ _ (s1 _ _ hL'))),fun C2 hC2 => ?_⟩
    have t7:=same_new hC2 (.lst (ls'.map nV))
    have hC27:=upd_same (H:=H7) (a:=C2) (o := .lst (ls'.map nV))
    have hC17:=t7 _ _ hC16
    have t67:=t6.trans t7
    generalize upd H7 C2 (.lst (ls'.map nV))=H8 at t67 hC27 hC17 ⊢
    refine fun o2 dx ho0 hdx0 hne=>⟨o2,dx,C1,C2,us',ls'.map nV,rfl,upd_same,?_,?_,fun H9 B1 B2 bt hB1 hB2 g1 g2 go=>⟨rfl,?_⟩⟩
    · rw [upd_ne (ne_of_none hC17 ho0),upd_ne (ne_of_none hC17 hdx0)];exact hC17
    · rw [upd_ne (ne_of_none hC27 ho0),upd_ne (ne_of_none hC27 hdx0)];exact hC27
    have s8:Same H8 H9:=fun c u e=>bt _ _ (ne_of_none e ho0) (by rw [upd_ne (ne_of_none e ho0),upd_ne (ne_of_none e hdx0)];exact e)
    have g9:=t67.trans s8
    have sg:SgAt CS H9 o2 ts' ls':=⟨dx,B1,B2,us',go,g1,tms_same (s1.trans g9) hts',g2⟩
    refine ⟨o2,ts',ls',rfl,sg,G.ok',by rw [hll',tl'],by omega,fun p1 N1 S1' ks' HA s9 hp1 hN1 lk => ?_⟩
    have gA:=g9.trans s9
    have hSgA:=gA _ _ hSg
    refine ⟨p1,_,0,_,rfl,rfl,SqT.of hp1,atI_nat (j:=0) rfl,Sg,_,_,rfl,rfl,hSgA,(show 1 < sizeLine by decide),?_⟩
    have neN:N1≠Sg:=fun e=>by
      rw [e,hSgA] at hN1
      cases ks' with
      | nil=>cases hN1
      | cons=>cases hN1
    exact key _ _ (Al2.mk N1 ks' rfl ((s1.trans gA).put sg0) upd_same (by rw [upd_ne neS];exact gA _ _ hS1) (by rw [upd_ne neN];exact hN1) lk)
  rintro σ' H2 ⟨S2,ks',rfl,s2,hSg,hS1,hS2,lk2⟩
  clear sg0 neS s1
  -- names
  refine rd_cut (Al3 CN H2 T L T' L' O Ak Sg ts ts' ls ls') ?_ (fun key => ?_)
  rotate_left
  · refine ⟨_,rfl,T,us,rfl,.inl (SqL.of (s2 _ _ hT)),fun C1 hC1 => ?_⟩
    have s6:=same_new hC1 (.lst us)
    have hC16:=upd_same (H:=H2) (a:=C1) (o := .lst us)
    generalize upd H2 C1 (.lst us)=H6 at s6 hC16 ⊢
    refine ⟨_,rfl,L,_,rfl,.inl (SqL.of (s6 _ _ (s2 _ _ hL))),fun C2 hC2 => ?_⟩
    have s7:=same_new hC2 (.lst (ls.map nV))
    have hC27:=upd_same (H:=H6) (a:=C2) (o := .lst (ls.map nV))
    have hC17:=s7 _ _ hC16
    have s67:=s6.trans s7
    generalize upd H6 C2 (.lst (ls.map nV))=H7 at s67 hC27 hC17 ⊢
    refine fun o dx ho0 hdx0 hne=>⟨o,dx,C1,C2,us,ts,ls,rfl,upd_same,?_,?_,?_,G.ok.2.2,hll,few,fun H8 bt nw=>⟨rfl,?_⟩⟩
    · rw [upd_ne (ne_of_none hC17 ho0),upd_ne (ne_of_none hC17 hdx0)];exact hC17
    · exact tms_same (((s2.trans s67).trans (same_new hdx0 _)).trans (same_new (by rw [upd_ne hne.symm];exact ho0) _)) hts
    · rw [upd_ne (ne_of_none hC27 ho0),upd_ne (ne_of_none hC27 hdx0)];exact hC27
    have s8:Same H7 H8:=fun c u e=>bt _ _ (ne_of_none e ho0) (by rw [upd_ne (ne_of_none e ho0),upd_ne (ne_of_none e hdx0)];exact e)
    have g8:=s67.trans s8
    have sg:=nw.at_
    clear bt nw
    have k2:=s2.trans g8
    refine ⟨_,rfl,T',us',rfl,.inl (SqL.of (k2 _ _ hT')),fun X1 hX1 => ?_⟩
    have t6:=same_new hX1 (.lst us')
    have hX16:=upd_same (H:=H8) (a:=X1) (o := .lst us')
    generalize upd H8 X1 (.lst us')=G6 at t6 hX16 ⊢
    refine ⟨_,rfl,L',_,rfl,.inl (SqL.of (t6 _ _ (k2 _ _ hL'))),fun X2 hX2 => ?_⟩
    have t7:=same_new hX2 (.lst (ls'.map nV))
    have hX27:=upd_same (H:=G6) (a:=X2) (o := .lst (ls'.map nV))
    have hX17:=t7 _ _ hX16
    have t67:=t6.trans t7
    generalize upd G6 X2 (.lst (ls'.map nV))=G7 at t67 hX27 hX17 ⊢
    refine fun o2 dx2 ho2 hdx2 hne2=>⟨o2,dx2,X1,X2,us',ts',ls',rfl,upd_same,?_,?_,?_,G.ok'.2.2,by rw [hll',tl'],by omega,fun G8 bt2 nw2=>⟨rfl,(show 2≤sizeLine by decide),fun Z hZ => ?_⟩⟩
    · rw [upd_ne (ne_of_none hX17 ho2),upd_ne (ne_of_none hX17 hdx2)];exact hX17
    · exact tms_same (((k2.trans t67).trans (same_new hdx2 _)).trans (same_new (by rw [upd_ne hne2.symm];exact ho2) _)) hts'
    · rw [upd_ne (ne_of_none hX27 ho2),upd_ne (ne_of_none hX27 hdx2)];exact hX27
    have t8:Same G7 G8:=fun c u e=>bt2 _ _ (ne_of_none e ho2) (by rw [upd_ne (ne_of_none e ho2),upd_ne (ne_of_none e hdx2)];exact e)
    have k8:=t67.trans t8
    have sg2:=nw2.at_
    have s9:=same_new hZ (.lst [.ref o,.ref o2])
    exact key _ _ (Al3.mk Z o o2 rfl ((g8.trans k8).trans s9) upd_same ((sg.same k8).same s9) (sg2.same s9))
  rintro σ' H3 ⟨Kd,o1,o2,rfl,s3,hKd,n1,n2⟩
  refine rd_cut (Al4 H3 T L T' L' O Ak Sg Kd ts ts' ls ls') ?_ (fun key => ?_)
  rotate_left
  · refine ⟨_,rfl,Kd,_,_,_,rfl,rfl,SqL.of hKd,atI_nat (j:=0) rfl,o1,ts,ls,rfl,n1,G.ok,hll,few,fun p1 N1 S1 kn H4 s4 hp1 hN1 l1 => ?_⟩
    refine ⟨p1,_,0,_,rfl,rfl,SqT.of hp1,atI_nat (j:=0) rfl,?_⟩
    refine ⟨_,rfl,Kd,_,_,_,rfl,rfl,SqL.of (s4 _ _ hKd),atI_nat (j:=1) rfl,o2,ts',ls',rfl,n2.same s4,G.ok',by rw [hll',tl'],by omega,fun p2 N2 S2 kn' H5 s5 hp2 hN2 l2 => ?_⟩
    refine ⟨p2,_,0,_,rfl,rfl,SqT.of hp2,atI_nat (j:=0) rfl,(show 2≤sizeLine by decide),fun F hF => ?_⟩
    have s6:=same_new hF (.lst [.ref N1,.ref N2])
    exact key _ _ (Al4.mk F N1 N2 kn kn' rfl ((s4.trans s5).trans s6) upd_same (s6 _ _ (s5 _ _ hN1)) (s6 _ _ hN2) l1 l2)
  rintro σ' H4 ⟨Fc,F1,F2,kn,kn',rfl,s4,hFc,hF1,hF2,ln1,ln2⟩
  have g4:=s2.trans (s3.trans s4)
  have g34:=s3.trans s4
  have al:AlF CN H4 Sg Kd Fc S1 S2 o1 o2 F1 F2 ts ts' ls ls' ks ks' kn kn':=⟨g34 _ _ hSg,g34 _ _ hS1,g34 _ _ hS2,s4 _ _ hKd,n1.same s4,n2.same s4,hFc,hF1,hF2⟩
  have hT4:=g4 _ _ hT
  have hL4:=g4 _ _ hL
  have hT4':=g4 _ _ hT'
  have hL4':=g4 _ _ hL'
  have hO4:=g4 _ _ hO
  have hA4:=g4 _ _ hA
  have hts4:=tms_same g4 hts
  have hts4':=tms_same g4 hts'
  clear s2 s3 s4 g34 hSg hS1 hS2 hKd n1 n2 hFc hF1 hF2 g4 hT hL hT' hL' hO hA hts hts'
  have hom:(os.map nV).length=os.length:=List.length_map ..
  refine rd_cut (AlI H4 T L T' L' O Ak Sg Kd Fc 0) ?_ (fun key => ?_)
  · rintro σ' H5 ⟨x9,x10,x11,x12,x13,rfl,s5⟩
    refine ⟨_,rfl,T,us,rfl,.inl (SqL.of (s5 _ _ hT4)),fun C1 hC1 => ?_⟩
    have t6:=same_new hC1 (.lst us)
    have hC16:=upd_same (H:=H5) (a:=C1) (o := .lst us)
    generalize upd H5 C1 (.lst us)=H6 at t6 hC16 ⊢
    refine ⟨_,rfl,L,_,rfl,.inl (SqL.of (t6 _ _ (s5 _ _ hL4))),fun C2 hC2 => ?_⟩
    have t7:=same_new hC2 (.lst (ls.map nV))
    have hC27:=upd_same (H:=H6) (a:=C2) (o := .lst (ls.map nV))
    have hC17:=t7 _ _ hC16
    have g7:=s5.trans (t6.trans t7)
    generalize upd H6 C2 (.lst (ls.map nV))=H7 at g7 hC27 hC17 ⊢
    refine ⟨C1,C2,us,ts,ls,rfl,hC17,tms_same g7 hts4,hC27,hll,by omega,G.ok.2.2,G.gd,fun v r H8 s8 st lo => ?_⟩
    have g8:=g7.trans s8
    refine ⟨_,rfl,T',us',rfl,.inl (SqL.of (g8 _ _ hT4')),fun X1 hX1 => ?_⟩
    have t9:=same_new hX1 (.lst us')
    have hX19:=upd_same (H:=H8) (a:=X1) (o := .lst us')
    generalize upd H8 X1 (.lst us')=H9 at t9 hX19 ⊢
    refine ⟨_,rfl,L',_,rfl,.inl (SqL.of (t9 _ _ (g8 _ _ hL4'))),fun X2 hX2 => ?_⟩
    have t10:=same_new hX2 (.lst (ls'.map nV))
    have hX210:=upd_same (H:=H9) (a:=X2) (o := .lst (ls'.map nV))
    have hX110:=t10 _ _ hX19
    have t910:=t9.trans t10
    generalize upd H9 X2 (.lst (ls'.map nV))=H10 at t910 hX210 hX110 ⊢
    refine ⟨X1,X2,us',ts',ls',rfl,hX110,tms_same (g8.trans t910) hts4',hX210,by rw [hll',tl'],by omega,G.ok'.2.2,G.gd',fun v' r' H11 s11 st' lo' => ?_⟩
    have er:r'=r:=least_one (least_ren G.R lo') lo
    subst er
    exact stored_eq (st.same (t910.trans s11)) st' (q _)
  refine ⟨_,rfl,O,_,rfl,.inl (SqL.of hO4),_,rfl,by omega,by omega,?_⟩
  rw [Int.toNat_natCast,hom]
  refine for_range (lo:=0) (AlI H4 T L T' L' O Ak Sg Kd Fc) (AlI.mk none none none none none rfl (Same.refl _)) ?_ (fun σ' H' h => ?_)
  rotate_left
  · obtain ⟨x9,x10,x11,x12,x13,rfl,sm⟩:=h
    exact key _ _ (AlI.mk x9 x10 x11 x12 x13 rfl sm)
  rintro i σ' H5 hi ⟨x9,x10,x11,x12,x13,rfl,s5⟩
  have ei:(0:Int)+(i:Int)=((i:Nat):Int):=by omega
  rw [ei]
  have hit:i < ts.length:=by omega
  have hki:os.getD i 0 < ts.length:=G.R.ren.ff i hit
  have al5:=al.same s5
  dsimp only [gName]
  refine ⟨_,rfl,_,rfl,O,_,_,_,rfl,rfl,SqL.of (s5 _ _ hO4),gat hi,?_⟩
  dsimp only [gName]
  have e1:ks'.getD i 0=ks.getD (os.getD i 0) 0:=signs_ren G.R lk1 lk2 hit
  refine ⟨_,rfl,Sg,_,_,_,rfl,rfl,SqL.of al5.hSg,atI_nat (j:=0) rfl,_,rfl,S1,_,_,_,rfl,rfl,SqL.of al5.hS1,gat (by rw [lk1.fix.len];exact hki),_,rfl,Sg,_,_,_,rfl,rfl,SqL.of al5.hSg,atI_nat (j:=1) rfl,_,rfl,S2,_,_,_,rfl,rfl,SqL.of al5.hS2,gat (by rw [lk2.fix.len,tl'];exact hit),rfl,_,rfl,iteDN (fun z=>absurd (by rw [e1]) z) (fun _ => ?_)⟩
  dsimp only [tNext]
  refine rd_cut (AlJ H4 T L T' L' O Ak Sg Kd Fc i (os.getD i 0) 0) ?_ (fun key2 => ?_)
  rotate_left
  · refine ⟨_,rfl,Ak,rfl,⟨_,SqL.of (s5 _ _ hA4)⟩,?_⟩
    refine for_list (xs:=ws.map V.str) (AlJ H4 T L T' L' O Ak Sg Kd Fc i (os.getD i 0)) (AlJ.mk x11 x12 x13 rfl s5) ?_ ?_ (fun σ' H' h => ?_)
    · rintro j σ' H' _ ⟨x11,x12,x13,rfl,sm⟩
      exact SqL.of (sm _ _ hA4)
    · rintro j x σ' H6 hx ⟨x11,x12,x13,rfl,s6⟩
      rw [List.getElem?_map] at hx
      obtain ⟨z,_,rfl⟩:=Option.map_eq_some_iff.mp hx
      have al6:=al.same s6
      obtain ⟨dx1,_,_,_,_,_,_,_,ho1,_⟩:=al6.n1.ex
      obtain ⟨dx2,_,_,_,_,_,_,_,ho2,_⟩:=al6.n2.ex
      show tIfS _ _ _ _ _ _
      refine ⟨_,rfl,Kd,_,_,_,rfl,rfl,SqL.of al6.hKd,atI_nat (j:=0) rfl,o1,dx1,_,rfl,ho1,rfl,_,rfl,Fc,_,_,_,rfl,rfl,SqL.of al6.hFc,atI_nat (j:=0) rfl,_,rfl,_,rfl,o1,F1,ts,ls,kn,os.getD i 0,z,rfl,al6.n1,G.ok.2.2,SqL.of al6.hF1,by rw [ln1.fix.len];exact hki,?_⟩
      refine ⟨_,rfl,Kd,_,_,_,rfl,rfl,SqL.of al6.hKd,atI_nat (j:=1) rfl,o2,dx2,_,rfl,ho2,rfl,_,rfl,Fc,_,_,_,rfl,rfl,SqL.of al6.hFc,atI_nat (j:=1) rfl,_,rfl,_,rfl,o2,F2,ts',ls',kn',i,z,rfl,al6.n2,G.ok'.2.2,SqL.of al6.hF2,by rw [ln2.fix.len,tl'];exact hit,rfl,_,rfl,iteDN (fun zz=>absurd (by rw [free_ren G.R G.ok.2.2 G.ok'.2.2 ln1 ln2 hit z]) zz) (fun _=>AlJ.mk _ x12 x13 rfl s6)⟩
    · obtain ⟨x11,x12,x13,rfl,sm⟩:=h
      exact key2 _ _ (AlJ.mk x11 x12 x13 rfl sm)
  rintro σ' H6 ⟨x11,x12,x13,rfl,s6⟩
  -- numbers
  refine ⟨_,rfl,T,us,rfl,.inl (SqL.of (s6 _ _ hT4)),fun C1 hC1 => ?_⟩
  have t7:=same_new hC1 (.lst us)
  have hC17:=upd_same (H:=H6) (a:=C1) (o := .lst us)
  generalize upd H6 C1 (.lst us)=H7 at t7 hC17 ⊢
  refine ⟨_,rfl,L,_,rfl,.inl (SqL.of (t7 _ _ (s6 _ _ hL4))),fun C2 hC2 => ?_⟩
  have t8:=same_new hC2 (.lst (ls.map nV))
  have hC28:=upd_same (H:=H7) (a:=C2) (o := .lst (ls.map nV))
  have hC18:=t8 _ _ hC17
  have g8:=s6.trans (t7.trans t8)
  generalize upd H7 C2 (.lst (ls.map nV))=H8 at g8 hC28 hC18 ⊢
  refine ⟨_,rfl,C1,C2,us,ts,ls,os.getD i 0,rfl,hC18,tms_same g8 hts4,hC28,hll,by omega,hki,fun N H9 s9 hN0 hN => ?_⟩
  dsimp only [gName]
  have g9:=g8.trans s9
  refine ⟨_,rfl,T',us',rfl,.inl (SqL.of (g9 _ _ hT4')),fun X1 hX1 => ?_⟩
  have t10:=same_new hX1 (.lst us')
  have hX110:=upd_same (H:=H9) (a:=X1) (o := .lst us')
  have hN10:=t10 _ _ hN
  generalize upd H9 X1 (.lst us')=H10 at t10 hX110 hN10 ⊢
  refine ⟨_,rfl,L',_,rfl,.inl (SqL.of (t10 _ _ (g9 _ _ hL4'))),fun X2 hX2 => ?_⟩
  have t11:=same_new hX2 (.lst (ls'.map nV))
  have hX211:=upd_same (H:=H10) (a:=X2) (o := .lst (ls'.map nV))
  have hX111:=t11 _ _ hX110
  have hN11:=t11 _ _ hN10
  have g11:=g9.trans (t10.trans t11)
  generalize upd H10 X2 (.lst (ls'.map nV))=H11 at g11 hX211 hX111 hN11 ⊢
  refine ⟨_,rfl,X1,X2,us',ts',ls',i,rfl,hX111,tms_same g11 hts4',hX211,by rw [hll',tl'],by omega,by rw [tl'];exact hit,fun M H12 s12 hM0 hM => ?_⟩
  dsimp only [gName]
  have g12:=g11.trans s12
  have hN12:=s12 _ _ hN11
  have pm:=nums_perm G.R G.ok.2.2 G.ok'.2.2 hit
  have n64:(numsF ts ls (os.getD i 0)).length < 64:=Nat.lt_of_le_of_lt (nums_len ts ls _) (by omega)
  have n64':(numsF ts' ls' i).length < 64:=by rw [← pm.length_eq];exact n64
  refine ⟨_,rfl,N,_,rfl,SqL.of hN12,n64,fun a1 l1 p1 w1 hl1 => ?_⟩
  have s13:=same_new hl1 (.lst (a1.map V.int))
  have hl13:=upd_same (H:=H12) (a:=l1) (o := .lst (a1.map V.int))
  have hM13:=s13 _ _ hM
  generalize upd H12 l1 (.lst (a1.map V.int))=H13 at s13 hl13 hM13 ⊢
  refine ⟨_,rfl,M,_,rfl,SqL.of hM13,n64',fun a2 l2 p2 w2 hl2 => ?_⟩
  have s14:=same_new hl2 (.lst (a2.map V.int))
  have hl214:=upd_same (H:=H13) (a:=l2) (o := .lst (a2.map V.int))
  have hl114:=s14 _ _ hl13
  generalize upd H13 l2 (.lst (a2.map V.int))=H14 at s14 hl214 hl114 ⊢
  have ea:a1=a2:=sort_one (p1.trans (pm.trans p2.symm)) w1 w2
  subst ea
  refine ⟨_,_,.inr ⟨den_ints hl114,den_ints hl214⟩,deep_ints _,_,rfl,?_⟩
  rw [decide_eq_true rfl]
  exact iteF (AlI.mk _ _ x11 _ _ rfl (g12.trans (s13.trans s14)))
end

end K39
namespace K39
open PySem L2 Sw
section
variable {P:Program} {w:World} {K:PySem.W.Frag} {mg:Str→Option Value} {base:Heap} {CS CN tB:Addr}
inductive SpLaw (K:PySem.W.Frag) (vs:List V) (H:Hp) (Q:VK):Prop
  | mk (a:Addr) (ns:List Int) (z0:vs = [.ref a]) (z1:SqL K H a (ns.map V.int)) (z2:ns.length≤63) (z3:(∀ c∈ns,Builtin.Int.intBits c≤1048576)) (z4:∀ H',Q (.bl true) H'):SpLaw K vs H Q
noncomputable def spLaw (K:PySem.W.Frag):Sp:=fun vs H Q _=>SpLaw K vs H Q
noncomputable def trnE (os:List Nat) (e:Nat × Nat):Nat × Nat:=(os.idxOf e.2,os.idxOf e.1)
noncomputable def trnF (os:List Nat) (es:List (Nat × Nat)):List (Nat × Nat):=es.reverse.map (trnE os)
theorem mem_trn {os:List Nat} {es:List (Nat × Nat)} {a b:Nat}:(a,b)∈trnF os es↔∃ x y,(x,y)∈es∧a=os.idxOf y∧b=os.idxOf x:=by
  unfold trnF trnE
  rw [List.mem_map]
  constructor
  · rintro ⟨⟨x,y⟩,h,e⟩
    cases e
    exact ⟨x,y,List.mem_reverse.mp h,rfl,rfl⟩
  · rintro ⟨x,y,h,rfl,rfl⟩
    exact ⟨(x,y),List.mem_reverse.mpr h,rfl⟩
theorem cut2 (a b x y:V):cutV [a,b,x,y] (some 2) none = [x,y]:=rfl
inductive TuI (H:Hp) (a T E O A U:Addr) (os:List Nat) (es:List (Nat × Nat)) (i:Nat) (σ : St) (H':Hp):Prop
  | mk (evs:List V) (x6 x7:Option V) (e : σ = [some (.ref a),some (.ref T),some (.ref E),some (.ref O),some (.ref A),some (.ref U),x6,x7,none,none,none,none,none,none]) (sm:Same H H') (hU:H' U=some (.lst evs)) (eds:Edges H' evs ((es.reverse.take i).map (trnE os))) (le:evs.length≤i)
inductive NrO (H:Hp) (a T E O A U L L':Addr) (x6 x7:Option V) (i:Nat) (σ : St) (H':Hp):Prop
  | mk (x10 x11 x12:Option V) (e : σ = [some (.ref a),some (.ref T),some (.ref E),some (.ref O),some (.ref A),some (.ref U),x6,x7,some (.ref L),some (.ref L'),x10,x11,x12,none]) (eh:H'=H)
inductive NrI (H:Hp) (a T E O A U L L':Addr) (x6 x7:Option V) (i:Nat) (j:Nat) (σ : St) (H':Hp):Prop
  | mk (x11 x12:Option V) (e : σ = [some (.ref a),some (.ref T),some (.ref E),some (.ref O),some (.ref A),some (.ref U),x6,x7,some (.ref L),some (.ref L'),some (nV i),x11,x12,none]) (eh:H'=H)
inductive AsK (n:Nat) (H:Hp) (a T E O A U L L':Addr) (x6 x7 x10 x11 x12:Option V) (σ : St) (H':Hp):Prop
  | mk (Ak:Addr) (ws:List Str) (e : σ = [some (.ref a),some (.ref T),some (.ref E),some (.ref O),some (.ref A),some (.ref U),x6,x7,some (.ref L),some (.ref L'),x10,x11,x12,some (.ref Ak)]) (sm:Same H H') (a0:H Ak=none) (hA:H' Ak=some (.lst (ws.map V.str))) (le:ws.length≤n)
theorem ok_law (B:Blt mg) (b_reversed:mg "reversed" = none) (h_made:Has P w K mg base 4 "_law_made" ["_law_script"] (spMade K)) (h_order:Has P w K mg base 1 "_law_order" ["_law_terms", "_law_script"] (spOrder K)) (h_anew:Has P w K mg base 1 "_law_anew" ["_law_terms", "_law_order_here"] spAnew) (h_closed:Has P w K mg base 3 "closed" ["terms", "edges"] (spClosed K)) (h_word:Has P w K mg base 1 "_law_word" ["_law_cell", "_law_head"] spWord2)
    (h_alike:Has P w K mg base 5 "_law_alike" ["_law_terms", "_law_leads", "_law_others", "_law_later", "_law_order_here", "_law_asked"] spAlike) {f:Addr} {fd:FuncData} (F:Fun K "law" "law" s_law f fd) :
    FnOk P w K mg base CX0 6 f fd ["_law_script"] (spLaw K):=by
  refine F.ok sc_law (fun vs H Q E h => ?_) (fun cdv A outer s H vs Q E hr h => ?_)
  · obtain ⟨a,ns,rfl,_⟩:=h;rfl
  obtain ⟨a,ns,rfl,hS,h63,hbits,q⟩:=h
  refine ⟨_,(pss_cons (ps_asg (pe_callH h_made hr (by omega) rfl (pa_cons (pv 0) pa_nil)) (pg_tup rfl (pgs_cons (pg_name (i:=1) sc_law.nd rfl (Or.inl rfl)) (pgs_cons (pg_name (i:=2) sc_law.nd rfl (Or.inl rfl)) pgs_nil))))
    (pss_cons (ps_set (i:=3) sc_law.nd rfl (Or.inl rfl) (pe_callH h_order hr (by omega) rfl (pa_cons (pv 1) (pa_cons (pv 0) pa_nil))))
    (pss_cons (ps_set (i:=4) sc_law.nd rfl (Or.inl rfl) (pe_callH h_anew hr (by omega) rfl (pa_cons (pv 1) (pa_cons (pv 3) pa_nil))))
    (pss_cons (ps_set (i:=5) sc_law.nd rfl (Or.inl rfl) (pe_lst pa_nil))
    (pss_cons (ps_for PassesOwn.never rfl (pi_rev rfl b_reversed (pv 2)) (pg_name (i:=6) sc_law.nd rfl (Or.inl rfl))
    (pss_cons (ps_set (i:=7) sc_law.nd rfl (Or.inl rfl) (pe_tup (pa_cons (pe_bm PySem.F.plainAttrs_list PySem.F.slot_list_index PySem.F.type_list_index mt_indexI (pv 3) (pa_cons (pe_ix ix_tup (pv 6) pe_int (fun _ _=>rfl)) pa_nil)) (pa_cons (pe_bm PySem.F.plainAttrs_list PySem.F.slot_list_index PySem.F.type_list_index mt_indexI (pv 3) (pa_cons (pe_ix ix_tup (pv 6) pe_int (fun _ _=>rfl)) pa_nil)) pa_nil))))
    (pss_one (ps_expr (pe_bm PySem.F.plainAttrs_list PySem.F.slot_list_append PySem.F.type_list_append mt_append (pv 5) (pa_cons (pe_op op_catT (pv 7) (pe_slice sl_tup (pv 6) (po_some pe_int) po_none)) pa_nil))))))
    (pss_cons (ps_set (i:=8) sc_law.nd rfl (Or.inl rfl) (pe_callH h_closed hr (by omega) rfl (pa_cons (pe_callTy call_list_of rfl B.list_ boot_list_ (pa_cons (pv 1) pa_nil)) (pa_cons (pe_callTy call_list_of rfl B.list_ boot_list_ (pa_cons (pv 2) pa_nil)) pa_nil))))
    (pss_cons (ps_set (i:=9) sc_law.nd rfl (Or.inl rfl) (pe_callH h_closed hr (by omega) rfl (pa_cons (pe_callTy call_list_of rfl B.list_ boot_list_ (pa_cons (pv 4) pa_nil)) (pa_cons (pe_callTy call_list_of rfl B.list_ boot_list_ (pa_cons (pv 5) pa_nil)) pa_nil))))
    (pss_cons (ps_for PassesOwn.never rfl (pi_range1 rfl B.range_ (pa_cons (pe_callB call_len_seq rfl B.len_ PySem.boot_len (pa_cons (pv 3) pa_nil)) pa_nil)) (pg_name (i:=10) sc_law.nd rfl (Or.inl rfl))
    (pss_one (ps_for PassesOwn.never rfl (pi_range1 rfl B.range_ (pa_cons (pv 10) pa_nil)) (pg_name (i:=11) sc_law.nd rfl (Or.inl rfl))
    (pss_cons (ps_set (i:=12) sc_law.nd rfl (Or.inl rfl) (pe_cmpR op_eq (pe_ix ix_list (pv 8) (pe_ix ix_list (pv 3) (pv 10) (fun _ _=>rfl)) (fun _ _=>rfl)) (pe_ix ix_list (pv 8) (pe_ix ix_list (pv 3) (pv 11) (fun _ _=>rfl)) (fun _ _=>rfl)) (nomark _)))
    (pss_one (ps_if (pt_cmpR op_ne (pv 12) (pe_cmpR op_eq (pe_ix ix_list (pv 9) (pv 10) (fun _ _=>rfl)) (pe_ix ix_list (pv 9) (pv 11) (fun _ _=>rfl)) (nomark _)) (nomark _)) (pss_one (ps_ret pe_bl)) pss_nil))))))
    (pss_cons (ps_setCompI (i:=13) sc_law.nd rfl rfl (te:=(tOp (rIxT K) _ _)) (ct:=(tTest (tOp _ (tOp (rIxT K) _ _) _))) (own := ["_law_term_here"]) (caps := []) (comp_scope (defScope s_law) ["_law_script", "_law_terms", "_law_edges", "_law_order_here", "_law_others", "_law_turned", "_law_edge", "_law_ends", "_law_leads", "_law_later", "_law_at", "_law_to", "_law_near", "_law_asked"] rfl rfl rfl (by decide +kernel)) (pi_list (pv 1)) rfl (fun _ _ _=>pg_name (i:=0) (show (["_law_term_here"]:List Str).Nodup by decide +kernel) rfl (Or.inl rfl)) (fun _ _ _=>(pt_cmpR op_eq (pe_ix ix_tup (pv 0) pe_int (fun _ _=>rfl)) pe_str (nomark _))) (fun _ _ _=>(pe_ix ix_tup (pv 0) pe_int (fun _ _=>rfl))) rfl)
    (pss_cons (ps_if (pt_cmpR op_gt (pe_callB call_len_seq rfl B.len_ PySem.boot_len (pa_cons (pv 0) pa_nil)) pe_int (nomark _)) (pss_one (ps_expr (pe_bm PySem.F.plainAttrs_list PySem.F.slot_list_append PySem.F.type_list_append mt_append (pv 13) (pa_cons (pe_callH h_word hr (by omega) rfl (pa_cons (pe_op op_add (pe_ix ix_list (pv 0) pe_int (fun _ _=>rfl)) pe_int) (pa_cons (pe_op op_mod (pe_ix ix_list (pv 0) pe_int (fun _ _=>rfl)) pe_int) pa_nil))) pa_nil)))) pss_nil)
    (pss_one (ps_ret (pe_callH h_alike hr (by omega) rfl (pa_cons (pv 1) (pa_cons (pv 8) (pa_cons (pv 4) (pa_cons (pv 9) (pa_cons (pv 3) (pa_cons (pv 13) pa_nil))))))))))))))))))),?_⟩
  try dsimp only [cxOf]
  have hnl:(ns.map V.int).length=ns.length:=List.length_map ..
  refine ⟨_,rfl,a,ns,rfl,hS,h63,(fun c hc=>Nat.le_trans (hbits c hc) (by decide)),fun p T E us evs ts es H1 mo hp hz hel => ?_⟩
  refine ⟨p,_,rfl,SqT.of hp,rfl,_,_,rfl,_,_,rfl,rfl,?_⟩
  have hok:=mo.ok
  obtain ⟨har,hal,hnd⟩:=mo.ok
  have hut:=Paired.length mo.tms
  have hue:=Paired.length mo.eds
  have few:=mo.few
  have hS1:=mo.same.seq hS
  have short:∀ (i:Nat) x as,ts[i]? = some (.of x as)→as.length≤1000:=fun i x as e=>Nat.le_trans (hal i x as e).1 (by decide)
  -- order
  refine ⟨_,rfl,_,rfl,SpOrder.mk T a us ts ns rfl mo.hT mo.tms hS1 hok few (fun h=>Nat.pos_of_ne_zero fun e=>by have:=hz e;omega) fun O os H2 hO0 s2 hO2 od => ?_⟩
  dsimp only [gName]
  have hol:=od.len
  have hT2:=s2 _ _ mo.hT
  have hE2:=s2 _ _ mo.hE
  have hts2:=tms_same s2 mo.tms
  have heds2:=edges4_keep (fun b ys=>s2 _ _) mo.eds
  have hS2:=s2.seq hS1
  have low:=mo.lt
  clear hp mo hS1 hS
  -- anew
  refine ⟨_,rfl,_,rfl,SpAnew.mk T O us ts os rfl hT2 hts2 hO2 hok few od fun A us' H3 hA0 s3 hA3 hts' => ?_⟩
  dsimp only [gName]
  have R:=anew_ren hok od
  have ok':=anew_ok hok od
  have tl':=R.len
  have hut':=Paired.length hts'
  -- turned
  refine ⟨Nat.zero_le _,fun U hU0 => ?_⟩
  dsimp only [gName]
  have s4:=same_new hU0 (.lst [])
  have hU4:=upd_same (H:=H3) (a:=U) (o := .lst [])
  have s34:=s3.trans s4
  generalize upd H3 U (.lst [])=H4 at s4 hU4 s34 ⊢
  have idx:∀ {G:Hp} {y:Nat},G O=some (.lst (os.map nV))→y < ts.length→SqL K G O ((zz os).map V.int)∧(zz os)[os.idxOf y]? = some ((y:Nat):Int)∧∀ i,i < os.idxOf y→(zz os)[i]? ≠ some ((y:Nat):Int):=fun {G y} hG hy=>by
    obtain ⟨i1,i2⟩:=at_idxN od.nd (od.mem y hy)
    exact ⟨SqL.of (by rw [zz_map];exact hG),zz_some.mpr i1,fun i hi e=>i2 i hi (zz_some.mp e)⟩
  refine rd_cut (TuI H3 a T E O A U os es evs.length) ?_ (fun key => ?_)
  rotate_left
  · refine ⟨_,rfl,E,evs,rfl,s34 _ _ hE2,?_⟩
    refine for_rev (xs:=evs) (TuI H3 a T E O A U os es) (TuI.mk [] none none rfl s4 hU4 .nil (Nat.le_refl _)) ?_ ?_ (fun σ' H' h=>key _ _ h)
    · rintro i σ H' _ ⟨_,_,_,rfl,sm,_⟩
      exact sm _ _ (s3 _ _ hE2)
    · rintro i x σ H5 hi hx ⟨evs',x6,x7,rfl,s5,hU5,eds5,le5⟩
      obtain ⟨e,he,ta,y1,y2,rfl,hta⟩:=Paired.at heds2 hx
      have hta5:=s5 _ _ (s3 _ _ hta)
      obtain ⟨ex,ey⟩:=e
      have hlt:=low ex ey (List.mem_of_getElem? he)
      have hO5:=s5 _ _ (s3 _ _ hO2)
      obtain ⟨b1,b2,b3⟩:=idx hO5 hlt.2
      obtain ⟨c1,c2,c3⟩:=idx hO5 hlt.1
      show tSeq _ _ _ _ _
      dsimp only [gName]
      refine ⟨_,rfl,.inl ⟨rfl,_,b1⟩,_,rfl,ta,_,1,_,rfl,rfl,SqT.of hta5,atI_nat (j:=1) rfl,O,zz os,((ey:Nat):Int),os.idxOf ey,rfl,rfl,b1,b2,b3,
        _,rfl,.inl ⟨rfl,_,b1⟩,_,rfl,ta,_,0,_,rfl,rfl,SqT.of hta5,atI_nat (j:=0) rfl,O,zz os,((ex:Nat):Int),os.idxOf ex,rfl,rfl,b1,c2,c3,(show 2≤sizeLine by decide),fun p1 hp1 => ?_⟩
      dsimp only [gName]
      have t6:=same_new hp1 (.tup [nV (os.idxOf ey),nV (os.idxOf ex)])
      have hp16:=upd_same (H:=H5) (a:=p1) (o := .tup [nV (os.idxOf ey),nV (os.idxOf ex)])
      generalize upd H5 p1 (.tup [nV (os.idxOf ey),nV (os.idxOf ex)])=H6 at t6 hp16 ⊢
      refine ⟨_,rfl,.inl ⟨rfl,_,SqL.of (t6 _ _ hU5)⟩,_,rfl,_,rfl,_,rfl,ta,_,rfl,SqT.of (t6 _ _ hta5),(show ¬ (HT.sIx 4 0 (some 2)=0∧HT.sIx 4 4 none=4) by decide),fun p2 hp2 => ?_⟩
      rw [cut2]
      have t7:=same_new hp2 (.tup [y1,y2])
      have hp27:=upd_same (H:=H6) (a:=p2) (o := .tup [y1,y2])
      have hp17:=t7 _ _ hp16
      have t67:=t6.trans t7
      generalize upd H6 p2 (.tup [y1,y2])=H7 at t67 hp27 hp17 ⊢
      refine ⟨p1,p2,_,_,rfl,rfl,SqT.of hp17,SqT.of hp27,(fun z=>nomatch z),(show 4≤sizeLine by decide),(fun z=>nomatch z),fun _ p3 hp3 => ?_⟩
      have t8:=same_new hp3 (.tup ([nV (os.idxOf ey),nV (os.idxOf ex)] ++ [y1,y2]))
      have hp38:=upd_same (H:=H7) (a:=p3) (o := .tup ([nV (os.idxOf ey),nV (os.idxOf ex)] ++ [y1,y2]))
      have t68:=t67.trans t8
      generalize upd H7 p3 (.tup ([nV (os.idxOf ey),nV (os.idxOf ex)] ++ [y1,y2]))=H8 at t68 hp38 ⊢
      have hU8:=t68 _ _ hU5
      have kp:∀ b ys,H8 b=some (.tup ys)→(upd H8 U (.lst (evs' ++ [.ref p3]))) b=some (.tup ys):=fun b ys e=>by rw [upd_ne (ne_of e hU8 (fun z=>nomatch z))];exact e
      refine ⟨U,evs',_,rfl,rfl,hU8,small1000 (by omega),?_⟩
      refine TuI.mk (evs' ++ [.ref p3]) _ _ rfl ((s5.trans t68).put hU0) upd_same ?_ (by rw [List.length_append];show evs'.length+1≤i+1;omega)
      have er:es.reverse[i]? = some (ex,ey):=by
        rw [List.getElem?_reverse (by omega), ← he]
        congr 1
        omega
      have e2:(es.reverse.take (i+1)).map (trnE os)=(es.reverse.take i).map (trnE os) ++ [(os.idxOf ey,os.idxOf ex)]:=by
        rw [List.take_add_one,er,List.map_append];rfl
      rw [e2]
      exact Paired.snoc (edges_keep kp (edges_keep (fun b ys=>t68 _ _) eds5)) ⟨p3,_,rfl,kp _ _ hp38⟩
  rintro σ' H5 ⟨evs',x6,x7,rfl,s5,hU5,eds5,le5⟩
  have e0:(es.reverse.take evs.length).map (trnE os)=trnF os es:=by
    unfold trnF
    rw [hue, ← List.length_reverse (as:=es),List.take_length]
  rw [e0] at eds5
  have hvl':evs'.length≤63:=by omega
  have g5:=s3.trans s5
  have low':∀ x y:Nat,(x,y)∈trnF os es→x < (anewF ts os).length∧y < (anewF ts os).length:=fun x y hm=>by
    obtain ⟨u,v,hm',rfl,rfl⟩:=mem_trn.mp hm
    have:=low u v hm'
    rw [tl']
    exact ⟨R.gg _ this.2,R.gg _ this.1⟩
  have he1:∀ x y:Nat,(x,y)∈trnF os es→Eqv ts es ((fun i=>os.getD i 0) x) ((fun i=>os.getD i 0) y):=fun x y hm=>by
    obtain ⟨u,v,hm',rfl,rfl⟩:=mem_trn.mp hm
    have hl:=low u v hm'
    have f1:os.getD (os.idxOf v) 0=v:=R.fg v hl.2
    have f2:os.getD (os.idxOf u) 0=u:=R.fg u hl.1
    show Eqv ts es (os.getD (os.idxOf v) 0) (os.getD (os.idxOf u) 0)
    rw [f1,f2]
    exact .symm (.edge hm')
  have he2:∀ x y:Nat,(x,y)∈es→Eqv (anewF ts os) (trnF os es) ((fun a=>os.idxOf a) x) ((fun a=>os.idxOf a) y):=fun x y hm => .symm (.edge (mem_trn.mpr ⟨x,y,hm,rfl,rfl⟩))
  -- leads
  refine rd_cut (fun σ' H'=>∃ (L:Addr) (ls:List Nat), σ' = [some (.ref a),some (.ref T),some (.ref E),some (.ref O),some (.ref A),some (.ref U),x6,x7,some (.ref L),none,none,none,none,none]∧Same H5 H'∧H' L=some (.lst (ls.map nV))∧Closed ts es ls) ?_ (fun key => ?_)
  rotate_left
  · refine ⟨_,rfl,T,us,rfl,.inl (SqL.of (g5 _ _ hT2)),fun A1 hA1 => ?_⟩
    have t6:=same_new hA1 (.lst us)
    have hA:=upd_same (H:=H5) (a:=A1) (o := .lst us)
    generalize upd H5 A1 (.lst us)=H6 at t6 hA ⊢
    refine ⟨_,rfl,E,evs,rfl,.inl (SqL.of (t6 _ _ (g5 _ _ hE2))),fun A2 hA2 => ?_⟩
    have t7:=same_new hA2 (.lst evs)
    have hA7:=upd_same (H:=H6) (a:=A2) (o := .lst evs)
    generalize upd H6 A2 (.lst evs)=H7 at t7 hA7 ⊢
    have t67:=t6.trans t7
    have g7:=g5.trans t67
    refine ⟨A1,A2,us,evs,ts,es,rfl,t7 _ _ hA,tms_same g7 hts2,SqL.of hA7,edges_keep (fun b ys=>g7 _ _) (edges4_plain heds2),har,by omega,short,low,fun L ls H8 s8 hL0 hL hc => ?_⟩
    exact key _ _ ⟨L,ls,rfl,t67.trans s8,hL,hc⟩
  rintro σ' H6 ⟨L,ls,rfl,s6,hL,hc⟩
  -- later
  refine rd_cut (fun σ' H'=>∃ (L':Addr) (ls':List Nat), σ' = [some (.ref a),some (.ref T),some (.ref E),some (.ref O),some (.ref A),some (.ref U),x6,x7,some (.ref L),some (.ref L'),none,none,none,none]∧Same H6 H'∧H' L'=some (.lst (ls'.map nV))∧Closed (anewF ts os) (trnF os es) ls') ?_ (fun key => ?_)
  rotate_left
  · have g6:=s5.trans s6
    refine ⟨_,rfl,A,us',rfl,.inl (SqL.of (g6 _ _ hA3)),fun A1 hA1 => ?_⟩
    have t7:=same_new hA1 (.lst us')
    have hA:=upd_same (H:=H6) (a:=A1) (o := .lst us')
    generalize upd H6 A1 (.lst us')=H7 at t7 hA ⊢
    refine ⟨_,rfl,U,evs',rfl,.inl (SqL.of (t7 _ _ (s6 _ _ hU5))),fun A2 hA2 => ?_⟩
    have t8:=same_new hA2 (.lst evs')
    have hA8:=upd_same (H:=H7) (a:=A2) (o := .lst evs')
    generalize upd H7 A2 (.lst evs')=H8 at t8 hA8 ⊢
    have t78:=t7.trans t8
    have g8:=s6.trans t78
    refine ⟨A1,A2,us',evs',anewF ts os,trnF os es,rfl,t8 _ _ hA,tms_same (s5.trans g8) hts',SqL.of hA8,edges_keep (fun b ys=>g8 _ _) eds5,ok'.1,by omega,(fun i x as e=>Nat.le_trans (ok'.2.1 i x as e).1 (by decide)),low',fun L' ls' H9 s9 hL0 hL' hc' => ?_⟩
    exact key _ _ ⟨L',ls',rfl,t78.trans s9,hL',hc'⟩
  rintro σ' H7 ⟨L',ls',rfl,s7,hL',hc'⟩
  have near:∀ i j,i < ts.length→j < ts.length→(ls'.getD i 0=ls'.getD j 0↔ls.getD ((fun i=>os.getD i 0) i) 0=ls.getD ((fun i=>os.getD i 0) j) 0):=fun i j hi hj=>R.near hc hc' he1 he2 hi hj
  have hll:=hc.1
  have hll':=hc'.1
  have RL:RenL ts (anewF ts os) (fun i=>os.getD i 0) (fun a=>os.idxOf a) ls ls':=⟨R,hll,by rw [hll',tl'],near⟩
  have G:AlG ts (anewF ts os) os ls ls':=⟨RL,hok,ok',few,hol,hc.2.1,hc'.2.1⟩
  have g7:=g5.trans (s6.trans s7)
  have hT7:=g7 _ _ hT2
  have hts7:=tms_same g7 hts2
  have hO7:=g7 _ _ hO2
  have hS7:=g7.seq hS2
  have g37:=s5.trans (s6.trans s7)
  have hA7:=g37 _ _ hA3
  have hts7':=tms_same g37 hts'
  have hL7:=s7 _ _ hL
  clear s3 s4 s34 s5 s6 s7 g5 g7 g37 hT2 hts2 hO2 hS2 hA3 hts' hL hU5 eds5 hU4 hE2 heds2 s2 hU0 hA0 hO0
  have hom:(os.map nV).length=os.length:=List.length_map ..
  -- near
  refine rd_cut (NrO H7 a T E O A U L L' x6 x7 0) ?_ (fun key => ?_)
  rotate_left
  · refine ⟨_,rfl,O,_,rfl,.inl (SqL.of hO7),_,rfl,by omega,by omega,?_⟩
    rw [Int.toNat_natCast,hom]
    refine for_range (lo:=0) (NrO H7 a T E O A U L L' x6 x7) (NrO.mk none none none rfl rfl) ?_ (fun σ' H' h => ?_)
    rotate_left
    · obtain ⟨x10,x11,x12,rfl,rfl⟩:=h
      exact key _ _ (NrO.mk x10 x11 x12 rfl rfl)
    rintro i σ' H' hi ⟨x10,x11,x12,rfl,rfl⟩
    have ei:(0:Int)+(i:Int)=((i:Nat):Int):=by omega
    rw [ei]
    show tFor _ _ _ _ _ _
    refine ⟨_,rfl,_,rfl,by omega,by omega,?_⟩
    rw [Int.toNat_natCast]
    refine for_range (lo:=0) (NrI H' a T E O A U L L' x6 x7 i) (NrI.mk x11 x12 rfl rfl) ?_ (fun σ' H2 h => ?_)
    rotate_left
    · obtain ⟨x11,x12,rfl,rfl⟩:=h
      exact NrO.mk _ x11 x12 rfl rfl
    rintro j σ' H2 hj ⟨x11,x12,rfl,rfl⟩
    have ej:(0:Int)+(j:Int)=((j:Nat):Int):=by omega
    rw [ej]
    have hit:i < ts.length:=by omega
    have hjt:j < ts.length:=by omega
    have fi:=R.ff i hit
    have fj:=R.ff j hjt
    dsimp only [gName]
    refine ⟨_,rfl,_,rfl,_,rfl,O,_,_,_,rfl,rfl,SqL.of hO7,gat hi,L,_,_,_,rfl,rfl,SqL.of hL7,gat (by rw [hll];exact fi),_,rfl,_,rfl,_,rfl,O,_,_,_,rfl,rfl,SqL.of hO7,gat (by omega),L,_,_,_,rfl,rfl,SqL.of hL7,gat (by rw [hll];exact fj),rfl,?_⟩
    dsimp only [gName]
    refine ⟨_,rfl,_,rfl,_,rfl,L',_,_,_,rfl,rfl,SqL.of hL',gat (by rw [hll',tl'];exact hit),_,rfl,_,rfl,L',_,_,_,rfl,rfl,SqL.of hL',gat (by rw [hll',tl'];exact hjt),rfl,rfl,_,rfl,iteDN (fun z=>absurd ?_ z) (fun _=>NrI.mk _ _ rfl rfl)⟩
    congr 1
    refine decide_eq_decide.mpr ⟨fun z => ?_,fun z => ?_⟩
    · have z':ls.getD (os.getD i 0) 0=ls.getD (os.getD j 0) 0:=by have:=V.int.inj z;omega
      rw [(near i j hit hjt).mpr z']
    · have z':ls'.getD i 0=ls'.getD j 0:=by have:=V.int.inj z;omega
      have:=(near i j hit hjt).mp z'
      show V.int _=V.int _
      congr 1
      exact congrArg (fun n:Nat=>(n:Int)) this
  rintro σ' H8 ⟨x10,x11,x12,rfl,rfl⟩
  -- asked
  have hsl:=held_len ts
  refine rd_cut (AsK 24 H8 a T E O A U L L' x6 x7 x10 x11 x12) ?_ (fun key => ?_)
  rotate_left
  · refine ⟨_,rfl,T,rfl,⟨us,SqL.of hT7⟩,?_⟩
    refine compI_listS (xs:=us) (nmV H8) (SqL.of hT7) (by omega) (fun x hx H' sm R r => ?_) (fun x v hx e H' sm Q' q' => ?_) (fun A3 H6 hA3 s6 hA36 => ?_)
    · obtain ⟨t,ht⟩:=tm_mem hts7 hx
      rw [nm_tm ht,Option.isSome_map] at r
      obtain ⟨b,xs,x0,y,rfl,h,h0,h1,hn,hz⟩:=tm_two (ht.same sm)
      refine ⟨_,rfl,b,_,_,_,rfl,rfl,SqT.of h,h0,rfl,_,rfl,?_⟩
      have r1:=r H' (Same.refl _)
      have e:(decide (V.str x0=V.str "name"))=(nameT t).isSome:=by
        rw [Bool.eq_iff_iff,decide_eq_true_iff, ← hn]
        exact ⟨fun z=>V.str.inj z,fun z=>by rw [z]⟩
      rw [← e] at r1
      exact r1
    · obtain ⟨t,ht⟩:=tm_mem hts7 hx
      rw [nm_tm ht] at e
      obtain ⟨z,e1,rfl⟩:=Option.map_eq_some_iff.mp e
      obtain ⟨b,xs,x0,y,rfl,h,h0,h1,hn,hz⟩:=tm_two (ht.same sm)
      rw [hz z e1] at h1
      exact ⟨_,rfl,b,_,_,_,rfl,rfl,SqT.of h,h1,q' _ (Same.refl _)⟩
    · rw [nm_all hts7] at hA36
      exact key _ _ (AsK.mk A3 (heldF ts) rfl s6 hA3 hA36 (by omega))
  rintro σ' H9 ⟨Ak,ws,rfl,s9,ak0,hAk,wl⟩
  have wml:(ws.map V.str).length=ws.length:=List.length_map ..
  refine rd_cut (AsK 25 H8 a T E O A U L L' x6 x7 x10 x11 x12) ?_ (fun key => ?_)
  rotate_left
  · refine ⟨_,rfl,a,_,rfl,.inl (s9.seq hS7),_,_,rfl,rfl,_,rfl,iteD (fun z => ?_) (fun _=>key _ _ (AsK.mk Ak ws rfl s9 ak0 hAk (by omega)))⟩
    rw [hnl] at z
    obtain ⟨v,hv,hvm⟩:=atI_ex (xs:=ns.map V.int) (i:=0) (Int.le_refl _) (by rw [hnl];exact z)
    obtain ⟨c,_,rfl⟩:=List.mem_map.mp hvm
    have hS9:=s9.seq hS7
    refine ⟨_,rfl,.inl ⟨rfl,_,SqL.of hAk⟩,_,rfl,a,_,_,_,rfl,rfl,hS9,hv,_,_,rfl,rfl,_,rfl,a,_,_,_,rfl,rfl,hS9,hv,_,_,rfl,rfl,pos',_,_,rfl,fun z hz=>⟨Ak,_,_,rfl,rfl,hAk,small1000 (by omega),?_⟩⟩
    exact key _ _ (AsK.mk Ak (ws ++ [z]) rfl (s9.put ak0) ak0 (by rw [upd_same,List.map_append];rfl) (by rw [List.length_append];show ws.length+1≤25;omega))
  rintro σ' H10 ⟨Ak,ws,rfl,s10,ak0,hAk,wl⟩
  exact ⟨_,rfl,_,rfl,_,rfl,_,rfl,_,rfl,_,rfl,SpAlike.mk T L A L' O Ak us us' ts (anewF ts os) ls ls' os ws rfl (s10 _ _ hT7) (tms_same s10 hts7) (s10 _ _ hL7) (s10 _ _ hA7) (tms_same s10 hts7') (s10 _ _ hL') (s10 _ _ hO7) hAk G q⟩
end

end K39
namespace K39
open PySem L2
theorem len_s {n:Nat} {us:List Value} (h:us.length=n+1):∃ v vs,us=v :: vs∧vs.length=n:=by cases us with | nil=>cases h | cons v vs=>exact ⟨v,vs,rfl,Nat.succ.inj h⟩
theorem len1_ {fd:FuncData} {ps:List Str} (h:∀ v0:Value,bindArgs fd ⟨[v0], []⟩=pure (ps.zip [v0])):∀ us:List Value,us.length=1→bindArgs fd ⟨us, []⟩=pure (ps.zip us):=fun us h0=>by obtain ⟨v0,us,rfl,h1⟩:=len_s h0;obtain rfl:=List.eq_nil_of_length_eq_zero h1;exact h v0
open PySem L2 Sw
theorem len2_ {fd:FuncData} {ps:List Str} (h:∀ v0 v1:Value,bindArgs fd ⟨[v0,v1], []⟩=pure (ps.zip [v0,v1])):∀ us:List Value,us.length=2→bindArgs fd ⟨us, []⟩=pure (ps.zip us):=fun us h0=>by obtain ⟨v0,us,rfl,h1⟩:=len_s h0;obtain ⟨v1,us,rfl,h2⟩:=len_s h1;obtain rfl:=List.eq_nil_of_length_eq_zero h2;exact h v0 v1
open PySem L2 Sw
theorem len3_ {fd:FuncData} {ps:List Str} (h:∀ v0 v1 v2:Value,bindArgs fd ⟨[v0,v1,v2], []⟩=pure (ps.zip [v0,v1,v2])):∀ us:List Value,us.length=3→bindArgs fd ⟨us, []⟩=pure (ps.zip us):=fun us h0=>by obtain ⟨v0,us,rfl,h1⟩:=len_s h0;obtain ⟨v1,us,rfl,h2⟩:=len_s h1;obtain ⟨v2,us,rfl,h3⟩:=len_s h2;obtain rfl:=List.eq_nil_of_length_eq_zero h3;exact h v0 v1 v2
open PySem L2 Sw
theorem len4_ {fd:FuncData} {ps:List Str} (h:∀ v0 v1 v2 v3:Value,bindArgs fd ⟨[v0,v1,v2,v3], []⟩=pure (ps.zip [v0,v1,v2,v3])):∀ us:List Value,us.length=4→bindArgs fd ⟨us, []⟩=pure (ps.zip us):=fun us h0=>by obtain ⟨v0,us,rfl,h1⟩:=len_s h0;obtain ⟨v1,us,rfl,h2⟩:=len_s h1;obtain ⟨v2,us,rfl,h3⟩:=len_s h2;obtain ⟨v3,us,rfl,h4⟩:=len_s h3;obtain rfl:=List.eq_nil_of_length_eq_zero h4;exact h v0 v1 v2 v3
open PySem L2 Sw
theorem len6_ {fd:FuncData} {ps:List Str} (h:∀ v0 v1 v2 v3 v4 v5:Value,bindArgs fd ⟨[v0,v1,v2,v3,v4,v5], []⟩=pure (ps.zip [v0,v1,v2,v3,v4,v5])):∀ us:List Value,us.length=6→bindArgs fd ⟨us, []⟩=pure (ps.zip us):=fun us h0=>by obtain ⟨v0,us,rfl,h1⟩:=len_s h0;obtain ⟨v1,us,rfl,h2⟩:=len_s h1;obtain ⟨v2,us,rfl,h3⟩:=len_s h2;obtain ⟨v3,us,rfl,h4⟩:=len_s h3;obtain ⟨v4,us,rfl,h5⟩:=len_s h4;obtain ⟨v5,us,rfl,h6⟩:=len_s h5;obtain rfl:=List.eq_nil_of_length_eq_zero h6;exact h v0 v1 v2 v3 v4 v5
open PySem L2 Sw
theorem all_mk {l:PySem.W.OpenLaw} {w:World} {K:PySem.W.Frag} {h:Heap} {mg:Str→Option Value} {fa CK CS CN f0 f1 f2 f3 f4 f5 f6 f7 f8 f9 f10 f11 f12 f13 f14 f15 f16 f17 f18 f19 f20 f21 f22 f23 f24 f25 f26 f27 f28 f29 f30 f31 f32 f33 t_SIGN_BITS:Addr} (X:K.In h) (G:h.Ns mainGlobals mg) (hfa:mg "law" = some (.ref fa))
    {od0 an0 od1 an1 od2 an2 od3 an3 od4 an4 od5 an5 od6 an6 od7 an7 od8 an8 od9 an9 od10 an10 od11 an11 od12 an12 od13 an13 od14 an14 od15 an15 od16 an16 od17 an17 od18 an18 od19 an19 od20 an20 od21 an21 od22 an22 od23 an23 od24 an24 od25 an25 od26 an26 od27 an27 od28 an28 od29 an29 od30 an30 od31 an31 od32 an32 od33 an33:Option Addr} {sl0 sl1 sl2 sl3 sl4 sl5 sl6 sl7 sl8 sl9 sl10 sl11 sl12 sl13 sl14 sl15 sl16 sl17 sl18 sl19 sl20 sl21 sl22 sl23 sl24 sl25 sl26 sl27 sl28 sl29 sl30 sl31 sl32 sl33:Array (Option Value)} {oc0 kV0 dc0 pm0 cd0 ct0 oc1 kV1 dc1 pm1 cd1 ct1 oc2 kV2 dc2 pm2 cd2 ct2 oc3 kV3 dc3 pm3 cd3 ct3 oc4 kV4 dc4 pm4 cd4 ct4 oc5 kV5 dc5 pm5 cd5 ct5 oc6 kV6 dc6 pm6 cd6 ct6 oc7 kV7 dc7 pm7 cd7 ct7 oc8 kV8 dc8 pm8 cd8 ct8 oc9 kV9 dc9 pm9 cd9 ct9 oc10 kV10 dc10 pm10 cd10 ct10 oc11 kV11 dc11 pm11 cd11 ct11 oc12 kV12 dc12 pm12 cd12 ct12 oc13 kV13 dc13 pm13 cd13 ct13 oc14 kV14 dc14 pm14 cd14 ct14 oc15 kV15 dc15 pm15 cd15 ct15 oc16 kV16 dc16 pm16 cd16 ct16 oc17 kV17 dc17 pm17 cd17 ct17 oc18 kV18 dc18 pm18 cd18 ct18 oc19 kV19 dc19 pm19 cd19 ct19 oc20 kV20 dc20 pm20 cd20 ct20 oc21 kV21 dc21 pm21 cd21 ct21 oc22 kV22 dc22 pm22 cd22 ct22 oc23 kV23 dc23 pm23 cd23 ct23 oc24 kV24 dc24 pm24 cd24 ct24 oc25 kV25 dc25 pm25 cd25 ct25 oc26 kV26 dc26 pm26 cd26 ct26 oc27 kV27 dc27 pm27 cd27 ct27 oc28 kV28 dc28 pm28 cd28 ct28 oc29 kV29 dc29 pm29 cd29 ct29 oc30 kV30 dc30 pm30 cd30 ct30 oc31 kV31 dc31 pm31 cd31 ct31 oc32 kV32 dc32 pm32 cd32 ct32 oc33 kV33 dc33 pm33 cd33 ct33:Value}
    {u_NEGATIVE u_NOUGHT u_POSITIVE u_ANY_SIGN u_SIGN_BITS_0 u_SIGN_BITS_1 u_SIGN_BITS_2:Tok}
    {td_SIGN_BITS:Option Addr} {tn_SIGN_BITS:Nat} {ts_SIGN_BITS:Array (Option Value)}
    (aC_Kind:PySem.W.nsIn K mainGlobals "Kind" = some (some (.ref CK)))
    (aC_Signs:PySem.W.nsIn K mainGlobals "Signs" = some (some (.ref CS)))
    (aC_Names:PySem.W.nsIn K mainGlobals "Names" = some (some (.ref CN)))
    (a0:PySem.W.nsIn K mainGlobals "is_sum" = some (some (.ref f0)))
    (l0:K.lookup f0=some ⟨oc0,od0,.func (PySem.W.fnOf "is_sum" "is_sum" (defArgs s_is_sum) (defBody s_is_sum) (defScope s_is_sum) .none kV0 dc0 pm0 an0 cd0 ct0),sl0⟩)
    (c0:PySem.W.codeIn K cd0 "is_sum" = true)
    (k0:PySem.W.keepIn K (.ref f0)=true)
    (a1:PySem.W.nsIn K mainGlobals "is_product" = some (some (.ref f1)))
    (l1:K.lookup f1=some ⟨oc1,od1,.func (PySem.W.fnOf "is_product" "is_product" (defArgs s_is_product) (defBody s_is_product) (defScope s_is_product) .none kV1 dc1 pm1 an1 cd1 ct1),sl1⟩)
    (c1:PySem.W.codeIn K cd1 "is_product" = true)
    (k1:PySem.W.keepIn K (.ref f1)=true)
    (a2:PySem.W.nsIn K mainGlobals "is_opposite" = some (some (.ref f2)))
    (l2:K.lookup f2=some ⟨oc2,od2,.func (PySem.W.fnOf "is_opposite" "is_opposite" (defArgs s_is_opposite) (defBody s_is_opposite) (defScope s_is_opposite) .none kV2 dc2 pm2 an2 cd2 ct2),sl2⟩)
    (c2:PySem.W.codeIn K cd2 "is_opposite" = true)
    (k2:PySem.W.keepIn K (.ref f2)=true)
    (a3:PySem.W.nsIn K mainGlobals "is_binder" = some (some (.ref f3)))
    (l3:K.lookup f3=some ⟨oc3,od3,.func (PySem.W.fnOf "is_binder" "is_binder" (defArgs s_is_binder) (defBody s_is_binder) (defScope s_is_binder) .none kV3 dc3 pm3 an3 cd3 ct3),sl3⟩)
    (c3:PySem.W.codeIn K cd3 "is_binder" = true)
    (k3:PySem.W.keepIn K (.ref f3)=true)
    (a4:PySem.W.nsIn K mainGlobals "sign_of_number" = some (some (.ref f4)))
    (l4:K.lookup f4=some ⟨oc4,od4,.func (PySem.W.fnOf "sign_of_number" "sign_of_number" (defArgs s_sign_of_number) (defBody s_sign_of_number) (defScope s_sign_of_number) .none kV4 dc4 pm4 an4 cd4 ct4),sl4⟩)
    (c4:PySem.W.codeIn K cd4 "sign_of_number" = true)
    (k4:PySem.W.keepIn K (.ref f4)=true)
    (a5:PySem.W.nsIn K mainGlobals "add_signs" = some (some (.ref f5)))
    (l5:K.lookup f5=some ⟨oc5,od5,.func (PySem.W.fnOf "add_signs" "add_signs" (defArgs s_add_signs) (defBody s_add_signs) (defScope s_add_signs) .none kV5 dc5 pm5 an5 cd5 ct5),sl5⟩)
    (c5:PySem.W.codeIn K cd5 "add_signs" = true)
    (k5:PySem.W.keepIn K (.ref f5)=true)
    (a6:PySem.W.nsIn K mainGlobals "multiply_signs" = some (some (.ref f6)))
    (l6:K.lookup f6=some ⟨oc6,od6,.func (PySem.W.fnOf "multiply_signs" "multiply_signs" (defArgs s_multiply_signs) (defBody s_multiply_signs) (defScope s_multiply_signs) .none kV6 dc6 pm6 an6 cd6 ct6),sl6⟩)
    (c6:PySem.W.codeIn K cd6 "multiply_signs" = true)
    (k6:PySem.W.keepIn K (.ref f6)=true)
    (a7:PySem.W.nsIn K mainGlobals "sign_of_pair" = some (some (.ref f7)))
    (l7:K.lookup f7=some ⟨oc7,od7,.func (PySem.W.fnOf "sign_of_pair" "sign_of_pair" (defArgs s_sign_of_pair) (defBody s_sign_of_pair) (defScope s_sign_of_pair) .none kV7 dc7 pm7 an7 cd7 ct7),sl7⟩)
    (c7:PySem.W.codeIn K cd7 "sign_of_pair" = true)
    (k7:PySem.W.keepIn K (.ref f7)=true)
    (km_Kind:PySem.W.nsIn K mainGlobals "Kind" = some (some (.ref CK)))
    (kg_Kind:PySem.W.specialIn K (.ref CK) "__getattribute__" = some (some (.builtin "type.__getattribute__")))
    (kr_Kind:PySem.W.readsIn K CK (.type "type")=true)
    (kf_Kind:PySem.W.findCls K (.ref CK) (.type "type") "__init__" = some (.val (.ref f8)))
    (ai_Kind:PySem.W.findIn K (.ref CK) "__init__" = some (some (.ref f8)))
    (ai_Signs:PySem.W.findIn K (.ref CS) "__init__" = some (some (.ref f8)))
    (l8:K.lookup f8=some ⟨oc8,od8,.func (PySem.W.fnOf "__init__" "Kind.__init__" (defArgs s_kinit) (defBody s_kinit) (defScope s_kinit) .none kV8 dc8 pm8 an8 cd8 ct8),sl8⟩)
    (c8:PySem.W.codeIn K cd8 "Kind.__init__" = true)
    (k8:PySem.W.keepIn K (.ref f8)=true)
    (n8:PySem.W.isFn K (.ref f8)=true)
    (a9:PySem.W.findIn K (.ref CK) "top" = some (some (.ref f9)))
    (l9:K.lookup f9=some ⟨oc9,od9,.func (PySem.W.fnOf "top" "Kind.top" (defArgs s_ktop) (defBody s_ktop) (defScope s_ktop) .none kV9 dc9 pm9 an9 cd9 ct9),sl9⟩)
    (c9:PySem.W.codeIn K cd9 "Kind.top" = true)
    (k9:PySem.W.keepIn K (.ref f9)=true)
    (n9:PySem.W.isFn K (.ref f9)=true)
    (a10:PySem.W.findIn K (.ref CK) "worth" = some (some (.ref f10)))
    (l10:K.lookup f10=some ⟨oc10,od10,.func (PySem.W.fnOf "worth" "Kind.worth" (defArgs s_kworth) (defBody s_kworth) (defScope s_kworth) .none kV10 dc10 pm10 an10 cd10 ct10),sl10⟩)
    (c10:PySem.W.codeIn K cd10 "Kind.worth" = true)
    (k10:PySem.W.keepIn K (.ref f10)=true)
    (n10:PySem.W.isFn K (.ref f10)=true)
    (a11:PySem.W.findIn K (.ref CS) "top" = some (some (.ref f11)))
    (l11:K.lookup f11=some ⟨oc11,od11,.func (PySem.W.fnOf "top" "Signs.top" (defArgs s_stop) (defBody s_stop) (defScope s_stop) .none kV11 dc11 pm11 an11 cd11 ct11),sl11⟩)
    (c11:PySem.W.codeIn K cd11 "Signs.top" = true)
    (k11:PySem.W.keepIn K (.ref f11)=true)
    (n11:PySem.W.isFn K (.ref f11)=true)
    (a12:PySem.W.findIn K (.ref CS) "worth" = some (some (.ref f12)))
    (l12:K.lookup f12=some ⟨oc12,od12,.func (PySem.W.fnOf "worth" "Signs.worth" (defArgs s_sworth) (defBody s_sworth) (defScope s_sworth) .none kV12 dc12 pm12 an12 cd12 ct12),sl12⟩)
    (c12:PySem.W.codeIn K cd12 "Signs.worth" = true)
    (k12:PySem.W.keepIn K (.ref f12)=true)
    (n12:PySem.W.isFn K (.ref f12)=true)
    (ai_Names:PySem.W.findIn K (.ref CN) "__init__" = some (some (.ref f13)))
    (l13:K.lookup f13=some ⟨oc13,od13,.func (PySem.W.fnOf "__init__" "Names.__init__" (defArgs s_ninit) (defBody s_ninit) (defScope s_ninit) .none kV13 dc13 pm13 an13 cd13 ct13),sl13⟩)
    (c13:PySem.W.codeIn K cd13 "Names.__init__" = true)
    (k13:PySem.W.keepIn K (.ref f13)=true)
    (n13:PySem.W.isFn K (.ref f13)=true)
    (a14:PySem.W.findIn K (.ref CN) "top" = some (some (.ref f14)))
    (l14:K.lookup f14=some ⟨oc14,od14,.func (PySem.W.fnOf "top" "Names.top" (defArgs s_ntop) (defBody s_ntop) (defScope s_ntop) .none kV14 dc14 pm14 an14 cd14 ct14),sl14⟩)
    (c14:PySem.W.codeIn K cd14 "Names.top" = true)
    (k14:PySem.W.keepIn K (.ref f14)=true)
    (n14:PySem.W.isFn K (.ref f14)=true)
    (a15:PySem.W.findIn K (.ref CN) "worth" = some (some (.ref f15)))
    (l15:K.lookup f15=some ⟨oc15,od15,.func (PySem.W.fnOf "worth" "Names.worth" (defArgs s_nworth) (defBody s_nworth) (defScope s_nworth) .none kV15 dc15 pm15 an15 cd15 ct15),sl15⟩)
    (c15:PySem.W.codeIn K cd15 "Names.worth" = true)
    (k15:PySem.W.keepIn K (.ref f15)=true)
    (n15:PySem.W.isFn K (.ref f15)=true)
    (a16:PySem.W.nsIn K mainGlobals "mark" = some (some (.ref f16)))
    (l16:K.lookup f16=some ⟨oc16,od16,.func (PySem.W.fnOf "mark" "mark" (defArgs s_mark) (defBody s_mark) (defScope s_mark) .none kV16 dc16 pm16 an16 cd16 ct16),sl16⟩)
    (c16:PySem.W.codeIn K cd16 "mark" = true)
    (k16:PySem.W.keepIn K (.ref f16)=true)
    (a17:PySem.W.nsIn K mainGlobals "join_classes" = some (some (.ref f17)))
    (l17:K.lookup f17=some ⟨oc17,od17,.func (PySem.W.fnOf "join_classes" "join_classes" (defArgs s_join_classes) (defBody s_join_classes) (defScope s_join_classes) .none kV17 dc17 pm17 an17 cd17 ct17),sl17⟩)
    (c17:PySem.W.codeIn K cd17 "join_classes" = true)
    (k17:PySem.W.keepIn K (.ref f17)=true)
    (a18:PySem.W.nsIn K mainGlobals "join_like" = some (some (.ref f18)))
    (l18:K.lookup f18=some ⟨oc18,od18,.func (PySem.W.fnOf "join_like" "join_like" (defArgs s_join_like) (defBody s_join_like) (defScope s_join_like) .none kV18 dc18 pm18 an18 cd18 ct18),sl18⟩)
    (c18:PySem.W.codeIn K cd18 "join_like" = true)
    (k18:PySem.W.keepIn K (.ref f18)=true)
    (a19:PySem.W.nsIn K mainGlobals "closed" = some (some (.ref f19)))
    (l19:K.lookup f19=some ⟨oc19,od19,.func (PySem.W.fnOf "closed" "closed" (defArgs s_closed) (defBody s_closed) (defScope s_closed) .none kV19 dc19 pm19 an19 cd19 ct19),sl19⟩)
    (c19:PySem.W.codeIn K cd19 "closed" = true)
    (k19:PySem.W.keepIn K (.ref f19)=true)
    (a20:PySem.W.nsIn K mainGlobals "_law_word" = some (some (.ref f20)))
    (l20:K.lookup f20=some ⟨oc20,od20,.func (PySem.W.fnOf "_law_word" "_law_word" (defArgs s_word) (defBody s_word) (defScope s_word) .none kV20 dc20 pm20 an20 cd20 ct20),sl20⟩)
    (c20:PySem.W.codeIn K cd20 "_law_word" = true)
    (k20:PySem.W.keepIn K (.ref f20)=true)
    (a21:PySem.W.nsIn K mainGlobals "_law_number" = some (some (.ref f21)))
    (l21:K.lookup f21=some ⟨oc21,od21,.func (PySem.W.fnOf "_law_number" "_law_number" (defArgs s_number) (defBody s_number) (defScope s_number) .none kV21 dc21 pm21 an21 cd21 ct21),sl21⟩)
    (c21:PySem.W.codeIn K cd21 "_law_number" = true)
    (k21:PySem.W.keepIn K (.ref f21)=true)
    (a22:PySem.W.nsIn K mainGlobals "_law_knot" = some (some (.ref f22)))
    (l22:K.lookup f22=some ⟨oc22,od22,.func (PySem.W.fnOf "_law_knot" "_law_knot" (defArgs s_knot) (defBody s_knot) (defScope s_knot) .none kV22 dc22 pm22 an22 cd22 ct22),sl22⟩)
    (c22:PySem.W.codeIn K cd22 "_law_knot" = true)
    (k22:PySem.W.keepIn K (.ref f22)=true)
    (a23:PySem.W.nsIn K mainGlobals "_law_term" = some (some (.ref f23)))
    (l23:K.lookup f23=some ⟨oc23,od23,.func (PySem.W.fnOf "_law_term" "_law_term" (defArgs s_term) (defBody s_term) (defScope s_term) .none kV23 dc23 pm23 an23 cd23 ct23),sl23⟩)
    (c23:PySem.W.codeIn K cd23 "_law_term" = true)
    (k23:PySem.W.keepIn K (.ref f23)=true)
    (a24:PySem.W.nsIn K mainGlobals "_law_made" = some (some (.ref f24)))
    (l24:K.lookup f24=some ⟨oc24,od24,.func (PySem.W.fnOf "_law_made" "_law_made" (defArgs s_made) (defBody s_made) (defScope s_made) .none kV24 dc24 pm24 an24 cd24 ct24),sl24⟩)
    (c24:PySem.W.codeIn K cd24 "_law_made" = true)
    (k24:PySem.W.keepIn K (.ref f24)=true)
    (a25:PySem.W.nsIn K mainGlobals "members" = some (some (.ref f25)))
    (l25:K.lookup f25=some ⟨oc25,od25,.func (PySem.W.fnOf "members" "members" (defArgs s_members) (defBody s_members) (defScope s_members) .none kV25 dc25 pm25 an25 cd25 ct25),sl25⟩)
    (c25:PySem.W.codeIn K cd25 "members" = true)
    (k25:PySem.W.keepIn K (.ref f25)=true)
    (a26:PySem.W.nsIn K mainGlobals "learned" = some (some (.ref f26)))
    (l26:K.lookup f26=some ⟨oc26,od26,.func (PySem.W.fnOf "learned" "learned" (defArgs s_learned) (defBody s_learned) (defScope s_learned) .none kV26 dc26 pm26 an26 cd26 ct26),sl26⟩)
    (c26:PySem.W.codeIn K cd26 "learned" = true)
    (k26:PySem.W.keepIn K (.ref f26)=true)
    (a27:PySem.W.findIn K (.ref CN) "free" = some (some (.ref f27)))
    (l27:K.lookup f27=some ⟨oc27,od27,.func (PySem.W.fnOf "free" "Names.free" (defArgs s_nfree) (defBody s_nfree) (defScope s_nfree) .none kV27 dc27 pm27 an27 cd27 ct27),sl27⟩)
    (c27:PySem.W.codeIn K cd27 "Names.free" = true)
    (k27:PySem.W.keepIn K (.ref f27)=true)
    (n27:PySem.W.isFn K (.ref f27)=true)
    (a28:PySem.W.nsIn K mainGlobals "numbers" = some (some (.ref f28)))
    (l28:K.lookup f28=some ⟨oc28,od28,.func (PySem.W.fnOf "numbers" "numbers" (defArgs s_numbers) (defBody s_numbers) (defScope s_numbers) .none kV28 dc28 pm28 an28 cd28 ct28),sl28⟩)
    (c28:PySem.W.codeIn K cd28 "numbers" = true)
    (k28:PySem.W.keepIn K (.ref f28)=true)
    (a29:PySem.W.nsIn K mainGlobals "odds" = some (some (.ref f29)))
    (l29:K.lookup f29=some ⟨oc29,od29,.func (PySem.W.fnOf "odds" "odds" (defArgs s_odds) (defBody s_odds) (defScope s_odds) .none kV29 dc29 pm29 an29 cd29 ct29),sl29⟩)
    (c29:PySem.W.codeIn K cd29 "odds" = true)
    (k29:PySem.W.keepIn K (.ref f29)=true)
    (a30:PySem.W.nsIn K mainGlobals "law" = some (some (.ref f30)))
    (l30:K.lookup f30=some ⟨oc30,od30,.func (PySem.W.fnOf "law" "law" (defArgs s_law) (defBody s_law) (defScope s_law) .none kV30 dc30 pm30 an30 cd30 ct30),sl30⟩)
    (c30:PySem.W.codeIn K cd30 "law" = true)
    (k30:PySem.W.keepIn K (.ref f30)=true)
    (a31:PySem.W.nsIn K mainGlobals "_law_order" = some (some (.ref f31)))
    (l31:K.lookup f31=some ⟨oc31,od31,.func (PySem.W.fnOf "_law_order" "_law_order" (defArgs s_order) (defBody s_order) (defScope s_order) .none kV31 dc31 pm31 an31 cd31 ct31),sl31⟩)
    (c31:PySem.W.codeIn K cd31 "_law_order" = true)
    (k31:PySem.W.keepIn K (.ref f31)=true)
    (a32:PySem.W.nsIn K mainGlobals "_law_anew" = some (some (.ref f32)))
    (l32:K.lookup f32=some ⟨oc32,od32,.func (PySem.W.fnOf "_law_anew" "_law_anew" (defArgs s_anew) (defBody s_anew) (defScope s_anew) .none kV32 dc32 pm32 an32 cd32 ct32),sl32⟩)
    (c32:PySem.W.codeIn K cd32 "_law_anew" = true)
    (k32:PySem.W.keepIn K (.ref f32)=true)
    (a33:PySem.W.nsIn K mainGlobals "_law_alike" = some (some (.ref f33)))
    (l33:K.lookup f33=some ⟨oc33,od33,.func (PySem.W.fnOf "_law_alike" "_law_alike" (defArgs s_alike) (defBody s_alike) (defScope s_alike) .none kV33 dc33 pm33 an33 cd33 ct33),sl33⟩)
    (c33:PySem.W.codeIn K cd33 "_law_alike" = true)
    (k33:PySem.W.keepIn K (.ref f33)=true)
    (rMk_Kind:PySem.W.makesIn K CK=true)
    (rKp_Kind:PySem.W.keepIn K (.ref CK)=true)
    (rPg_Kind:PySem.W.plainGet K CK Str.empty=true)
    (rHd_Kind:PySem.W.hasDictIn K CK=true)
    (rPo_Kind:PySem.W.plainOver K CK=true)
    (rSa_Kind:PySem.W.findIn K (.ref CK) "__setattr__" = some (some (.builtin "object.__setattr__")))
    (nA_Kind_terms:PySem.W.findIn K (.ref CK) "terms" = some none)
    (nA_Kind_leads:PySem.W.findIn K (.ref CK) "leads" = some none)
    (rMk_Signs:PySem.W.makesIn K CS=true)
    (rKp_Signs:PySem.W.keepIn K (.ref CS)=true)
    (rPg_Signs:PySem.W.plainGet K CS Str.empty=true)
    (rHd_Signs:PySem.W.hasDictIn K CS=true)
    (rPo_Signs:PySem.W.plainOver K CS=true)
    (rSa_Signs:PySem.W.findIn K (.ref CS) "__setattr__" = some (some (.builtin "object.__setattr__")))
    (nA_Signs_terms:PySem.W.findIn K (.ref CS) "terms" = some none)
    (nA_Signs_leads:PySem.W.findIn K (.ref CS) "leads" = some none)
    (rMk_Names:PySem.W.makesIn K CN=true)
    (rKp_Names:PySem.W.keepIn K (.ref CN)=true)
    (rPg_Names:PySem.W.plainGet K CN Str.empty=true)
    (rHd_Names:PySem.W.hasDictIn K CN=true)
    (rPo_Names:PySem.W.plainOver K CN=true)
    (rSa_Names:PySem.W.findIn K (.ref CN) "__setattr__" = some (some (.builtin "object.__setattr__")))
    (nA_Names_terms:PySem.W.findIn K (.ref CN) "terms" = some none)
    (nA_Names_leads:PySem.W.findIn K (.ref CN) "leads" = some none)
    (nA_Names_held:PySem.W.findIn K (.ref CN) "held" = some none)
    (nA_Names_bits:PySem.W.findIn K (.ref CN) "bits" = some none)
    (nA_Names_standing:PySem.W.findIn K (.ref CN) "standing" = some none)
    (gi_NEGATIVE:PySem.W.nsIn K mainGlobals "NEGATIVE" = some (some (.int 1 u_NEGATIVE)))
    (gi_NOUGHT:PySem.W.nsIn K mainGlobals "NOUGHT" = some (some (.int 2 u_NOUGHT)))
    (gi_POSITIVE:PySem.W.nsIn K mainGlobals "POSITIVE" = some (some (.int 4 u_POSITIVE)))
    (gi_ANY_SIGN:PySem.W.nsIn K mainGlobals "ANY_SIGN" = some (some (.int 7 u_ANY_SIGN)))
    (gt_SIGN_BITS:PySem.W.nsIn K mainGlobals "SIGN_BITS" = some (some (.ref t_SIGN_BITS)))
    (lt_SIGN_BITS:K.lookup t_SIGN_BITS=some ⟨.type "tuple",td_SIGN_BITS,.seq #[.int 1 u_SIGN_BITS_0,.int 2 u_SIGN_BITS_1,.int 4 u_SIGN_BITS_2] tn_SIGN_BITS,ts_SIGN_BITS⟩)
    (z0:PySem.W.nsIn K mainGlobals "len" = some none)
    (z1:PySem.W.nsIn K mainGlobals "min" = some none)
    (z2:PySem.W.nsIn K mainGlobals "max" = some none)
    (z3:PySem.W.nsIn K mainGlobals "sum" = some none)
    (z4:PySem.W.nsIn K mainGlobals "range" = some none)
    (z5:PySem.W.nsIn K mainGlobals "enumerate" = some none)
    (z6:PySem.W.nsIn K mainGlobals "isinstance" = some none)
    (z7:PySem.W.nsIn K mainGlobals "tuple" = some none)
    (z8:PySem.W.nsIn K mainGlobals "int" = some none)
    (z9:PySem.W.nsIn K mainGlobals "bool" = some none)
    (z10:PySem.W.nsIn K mainGlobals "str" = some none)
    (z11:PySem.W.nsIn K mainGlobals "list" = some none)
    (z12:PySem.W.nsIn K mainGlobals "sorted" = some none)
    (z13:PySem.W.nsIn K mainGlobals "all" = some none)
    (z14:PySem.W.nsIn K mainGlobals "reversed" = some none) :
    ∃ fd:FuncData,(∀ (s:Shared) (v:Value),BindsTo s fd ⟨[v], []⟩ [("_law_script",v)])∧∀ base:Heap,K.In base→base.Ns mainGlobals mg→FnOk l.prog w K mg base CX0 6 fa fd ["_law_script"] (spLaw K):=by
  have e:=hfa.symm.trans (PySem.W.mg_of X G a30)
  cases e
  have B:Blt mg:=⟨PySem.W.mg_none_of X G z0,PySem.W.mg_none_of X G z1,PySem.W.mg_none_of X G z2,PySem.W.mg_none_of X G z3,PySem.W.mg_none_of X G z4,PySem.W.mg_none_of X G z5,PySem.W.mg_none_of X G z6,PySem.W.mg_none_of X G z7,PySem.W.mg_none_of X G z8,PySem.W.mg_none_of X G z9,PySem.W.mg_none_of X G z10,PySem.W.mg_none_of X G z11⟩
  have b_sorted:=PySem.W.mg_none_of X G z12
  have b_all:=PySem.W.mg_none_of X G z13
  have b_reversed:=PySem.W.mg_none_of X G z14
  have cls_Kind:Cls K CK:=⟨rPg_Kind,rHd_Kind,rPo_Kind,rSa_Kind⟩
  have cls_Signs:Cls K CS:=⟨rPg_Signs,rHd_Signs,rPo_Signs,rSa_Signs⟩
  have cls_Names:Cls K CN:=⟨rPg_Names,rHd_Names,rPo_Names,rSa_Names⟩
  have g_NEGATIVE:∃ t,mg "NEGATIVE" = some (.int 1 t):=⟨_,PySem.W.mg_of X G gi_NEGATIVE⟩
  have g_NOUGHT:∃ t,mg "NOUGHT" = some (.int 2 t):=⟨_,PySem.W.mg_of X G gi_NOUGHT⟩
  have g_POSITIVE:∃ t,mg "POSITIVE" = some (.int 4 t):=⟨_,PySem.W.mg_of X G gi_POSITIVE⟩
  have g_ANY_SIGN:∃ t,mg "ANY_SIGN" = some (.int 7 t):=⟨_,PySem.W.mg_of X G gi_ANY_SIGN⟩
  have g_SIGN_BITS:=PySem.W.mg_of X G gt_SIGN_BITS
  have q_SIGN_BITS:∀ H:Hp,SqT K H t_SIGN_BITS [.int 1,.int 2,.int 4]:=fun H => .inr ⟨_,_,_,lt_SIGN_BITS,rfl,rfl,(show 3≤sizeLine by decide),.cons ⟨_,rfl⟩ (.cons ⟨_,rfl⟩ (.cons ⟨_,rfl⟩ (.nil)))⟩
  have F_is_sum:=fun_mk (st:=s_is_sum) l0 c0 k0
  have D_is_sum:Def K mg "is_sum" s_is_sum ["term"]:=⟨_,_,F_is_sum,PySem.W.mg_of X G a0,F_is_sum.binds fun _ _ _ _ _ _ us hl=>len1_ (fun _=>rfl) us hl⟩
  have F_is_product:=fun_mk (st:=s_is_product) l1 c1 k1
  have D_is_product:Def K mg "is_product" s_is_product ["term"]:=⟨_,_,F_is_product,PySem.W.mg_of X G a1,F_is_product.binds fun _ _ _ _ _ _ us hl=>len1_ (fun _=>rfl) us hl⟩
  have F_is_opposite:=fun_mk (st:=s_is_opposite) l2 c2 k2
  have D_is_opposite:Def K mg "is_opposite" s_is_opposite ["term"]:=⟨_,_,F_is_opposite,PySem.W.mg_of X G a2,F_is_opposite.binds fun _ _ _ _ _ _ us hl=>len1_ (fun _=>rfl) us hl⟩
  have F_is_binder:=fun_mk (st:=s_is_binder) l3 c3 k3
  have D_is_binder:Def K mg "is_binder" s_is_binder ["term"]:=⟨_,_,F_is_binder,PySem.W.mg_of X G a3,F_is_binder.binds fun _ _ _ _ _ _ us hl=>len1_ (fun _=>rfl) us hl⟩
  have F_sign_of_number:=fun_mk (st:=s_sign_of_number) l4 c4 k4
  have D_sign_of_number:Def K mg "sign_of_number" s_sign_of_number ["number"]:=⟨_,_,F_sign_of_number,PySem.W.mg_of X G a4,F_sign_of_number.binds fun _ _ _ _ _ _ us hl=>len1_ (fun _=>rfl) us hl⟩
  have F_add_signs:=fun_mk (st:=s_add_signs) l5 c5 k5
  have D_add_signs:Def K mg "add_signs" s_add_signs ["one", "other"]:=⟨_,_,F_add_signs,PySem.W.mg_of X G a5,F_add_signs.binds fun _ _ _ _ _ _ us hl=>len2_ (fun _ _=>rfl) us hl⟩
  have F_multiply_signs:=fun_mk (st:=s_multiply_signs) l6 c6 k6
  have D_multiply_signs:Def K mg "multiply_signs" s_multiply_signs ["one", "other"]:=⟨_,_,F_multiply_signs,PySem.W.mg_of X G a6,F_multiply_signs.binds fun _ _ _ _ _ _ us hl=>len2_ (fun _ _=>rfl) us hl⟩
  have F_sign_of_pair:=fun_mk (st:=s_sign_of_pair) l7 c7 k7
  have D_sign_of_pair:Def K mg "sign_of_pair" s_sign_of_pair ["combine", "fact", "other_fact"]:=⟨_,_,F_sign_of_pair,PySem.W.mg_of X G a7,F_sign_of_pair.binds fun _ _ _ _ _ _ us hl=>len3_ (fun _ _ _=>rfl) us hl⟩
  have F_kinit:=fun_mk (st:=s_kinit) l8 c8 k8
  have D_kinit:DefK K mg "Kind" "__init__" "Kind.__init__" s_kinit ["self", "terms", "leads"]:=⟨_,_,_,F_kinit,PySem.W.mg_of X G km_Kind,⟨kg_Kind,kr_Kind,kf_Kind⟩,F_kinit.binds fun _ _ _ _ _ _ us hl=>len3_ (fun _ _ _=>rfl) us hl⟩
  have D_init_Kind:DefC K mg "Kind" CK "Kind.__init__" s_kinit ["self", "terms", "leads"]:=⟨_,_,F_kinit,PySem.W.mg_of X G aC_Kind,⟨rMk_Kind,ai_Kind,n8,rKp_Kind⟩,F_kinit.binds fun _ _ _ _ _ _ us hl=>len3_ (fun _ _ _=>rfl) us hl⟩
  have D_init_Signs:DefC K mg "Signs" CS "Kind.__init__" s_kinit ["self", "terms", "leads"]:=⟨_,_,F_kinit,PySem.W.mg_of X G aC_Signs,⟨rMk_Signs,ai_Signs,n8,rKp_Signs⟩,F_kinit.binds fun _ _ _ _ _ _ us hl=>len3_ (fun _ _ _=>rfl) us hl⟩
  have F_ktop:=fun_mk (st:=s_ktop) l9 c9 k9
  have D_ktop:DefM K CK "top" "Kind.top" s_ktop ["self"]:=⟨_,_,F_ktop,⟨a9,n9,k9⟩,F_ktop.binds fun _ _ _ _ _ _ us hl=>len1_ (fun _=>rfl) us hl⟩
  have F_kworth:=fun_mk (st:=s_kworth) l10 c10 k10
  have D_kworth:DefM K CK "worth" "Kind.worth" s_kworth ["self", "term", "known"]:=⟨_,_,F_kworth,⟨a10,n10,k10⟩,F_kworth.binds fun _ _ _ _ _ _ us hl=>len3_ (fun _ _ _=>rfl) us hl⟩
  have F_stop:=fun_mk (st:=s_stop) l11 c11 k11
  have D_stop:DefM K CS "top" "Signs.top" s_stop ["self"]:=⟨_,_,F_stop,⟨a11,n11,k11⟩,F_stop.binds fun _ _ _ _ _ _ us hl=>len1_ (fun _=>rfl) us hl⟩
  have F_sworth:=fun_mk (st:=s_sworth) l12 c12 k12
  have D_sworth:DefM K CS "worth" "Signs.worth" s_sworth ["self", "term", "known"]:=⟨_,_,F_sworth,⟨a12,n12,k12⟩,F_sworth.binds fun _ _ _ _ _ _ us hl=>len3_ (fun _ _ _=>rfl) us hl⟩
  have F_ninit:=fun_mk (st:=s_ninit) l13 c13 k13
  have D_init_Names:DefC K mg "Names" CN "Names.__init__" s_ninit ["self", "terms", "leads"]:=⟨_,_,F_ninit,PySem.W.mg_of X G aC_Names,⟨rMk_Names,ai_Names,n13,rKp_Names⟩,F_ninit.binds fun _ _ _ _ _ _ us hl=>len3_ (fun _ _ _=>rfl) us hl⟩
  have F_ntop:=fun_mk (st:=s_ntop) l14 c14 k14
  have D_ntop:DefM K CN "top" "Names.top" s_ntop ["self"]:=⟨_,_,F_ntop,⟨a14,n14,k14⟩,F_ntop.binds fun _ _ _ _ _ _ us hl=>len1_ (fun _=>rfl) us hl⟩
  have F_nworth:=fun_mk (st:=s_nworth) l15 c15 k15
  have D_nworth:DefM K CN "worth" "Names.worth" s_nworth ["self", "term", "known"]:=⟨_,_,F_nworth,⟨a15,n15,k15⟩,F_nworth.binds fun _ _ _ _ _ _ us hl=>len3_ (fun _ _ _=>rfl) us hl⟩
  have F_mark:=fun_mk (st:=s_mark) l16 c16 k16
  have D_mark:Def K mg "mark" s_mark ["term", "leads"]:=⟨_,_,F_mark,PySem.W.mg_of X G a16,F_mark.binds fun _ _ _ _ _ _ us hl=>len2_ (fun _ _=>rfl) us hl⟩
  have F_join_classes:=fun_mk (st:=s_join_classes) l17 c17 k17
  have D_join_classes:Def K mg "join_classes" s_join_classes ["leads", "a", "b"]:=⟨_,_,F_join_classes,PySem.W.mg_of X G a17,F_join_classes.binds fun _ _ _ _ _ _ us hl=>len3_ (fun _ _ _=>rfl) us hl⟩
  have F_join_like:=fun_mk (st:=s_join_like) l18 c18 k18
  have D_join_like:Def K mg "join_like" s_join_like ["terms", "leads"]:=⟨_,_,F_join_like,PySem.W.mg_of X G a18,F_join_like.binds fun _ _ _ _ _ _ us hl=>len2_ (fun _ _=>rfl) us hl⟩
  have F_closed:=fun_mk (st:=s_closed) l19 c19 k19
  have D_closed:Def K mg "closed" s_closed ["terms", "edges"]:=⟨_,_,F_closed,PySem.W.mg_of X G a19,F_closed.binds fun _ _ _ _ _ _ us hl=>len2_ (fun _ _=>rfl) us hl⟩
  have F_word:=fun_mk (st:=s_word) l20 c20 k20
  have D_word:Def K mg "_law_word" s_word ["_law_cell", "_law_head"]:=⟨_,_,F_word,PySem.W.mg_of X G a20,F_word.binds fun _ _ _ _ _ _ us hl=>len2_ (fun _ _=>rfl) us hl⟩
  have F_number:=fun_mk (st:=s_number) l21 c21 k21
  have D_number:Def K mg "_law_number" s_number ["_law_cell"]:=⟨_,_,F_number,PySem.W.mg_of X G a21,F_number.binds fun _ _ _ _ _ _ us hl=>len1_ (fun _=>rfl) us hl⟩
  have F_knot:=fun_mk (st:=s_knot) l22 c22 k22
  have D_knot:Def K mg "_law_knot" s_knot ["_law_cell", "_law_many", "_law_head"]:=⟨_,_,F_knot,PySem.W.mg_of X G a22,F_knot.binds fun _ _ _ _ _ _ us hl=>len3_ (fun _ _ _=>rfl) us hl⟩
  have F_term:=fun_mk (st:=s_term) l23 c23 k23
  have D_term:Def K mg "_law_term" s_term ["_law_cell", "_law_many", "_law_head"]:=⟨_,_,F_term,PySem.W.mg_of X G a23,F_term.binds fun _ _ _ _ _ _ us hl=>len3_ (fun _ _ _=>rfl) us hl⟩
  have F_made:=fun_mk (st:=s_made) l24 c24 k24
  have D_made:Def K mg "_law_made" s_made ["_law_script"]:=⟨_,_,F_made,PySem.W.mg_of X G a24,F_made.binds fun _ _ _ _ _ _ us hl=>len1_ (fun _=>rfl) us hl⟩
  have F_members:=fun_mk (st:=s_members) l25 c25 k25
  have D_members:Def K mg "members" s_members ["leads", "k"]:=⟨_,_,F_members,PySem.W.mg_of X G a25,F_members.binds fun _ _ _ _ _ _ us hl=>len2_ (fun _ _=>rfl) us hl⟩
  have F_learned:=fun_mk (st:=s_learned) l26 c26 k26
  have D_learned:Def K mg "learned" s_learned ["kind"]:=⟨_,_,F_learned,PySem.W.mg_of X G a26,F_learned.binds fun _ _ _ _ _ _ us hl=>len1_ (fun _=>rfl) us hl⟩
  have F_nfree:=fun_mk (st:=s_nfree) l27 c27 k27
  have D_nfree:DefM K CN "free" "Names.free" s_nfree ["self", "known", "k", "name"]:=⟨_,_,F_nfree,⟨a27,n27,k27⟩,F_nfree.binds fun _ _ _ _ _ _ us hl=>len4_ (fun _ _ _ _=>rfl) us hl⟩
  have F_numbers:=fun_mk (st:=s_numbers) l28 c28 k28
  have D_numbers:Def K mg "numbers" s_numbers ["terms", "leads", "k"]:=⟨_,_,F_numbers,PySem.W.mg_of X G a28,F_numbers.binds fun _ _ _ _ _ _ us hl=>len3_ (fun _ _ _=>rfl) us hl⟩
  have F_odds:=fun_mk (st:=s_odds) l29 c29 k29
  have D_odds:Def K mg "odds" s_odds ["terms", "leads"]:=⟨_,_,F_odds,PySem.W.mg_of X G a29,F_odds.binds fun _ _ _ _ _ _ us hl=>len2_ (fun _ _=>rfl) us hl⟩
  have F_law:=fun_mk (st:=s_law) l30 c30 k30
  have F_order:=fun_mk (st:=s_order) l31 c31 k31
  have D_order:Def K mg "_law_order" s_order ["_law_terms", "_law_script"]:=⟨_,_,F_order,PySem.W.mg_of X G a31,F_order.binds fun _ _ _ _ _ _ us hl=>len2_ (fun _ _=>rfl) us hl⟩
  have F_anew:=fun_mk (st:=s_anew) l32 c32 k32
  have D_anew:Def K mg "_law_anew" s_anew ["_law_terms", "_law_order_here"]:=⟨_,_,F_anew,PySem.W.mg_of X G a32,F_anew.binds fun _ _ _ _ _ _ us hl=>len2_ (fun _ _=>rfl) us hl⟩
  have F_alike:=fun_mk (st:=s_alike) l33 c33 k33
  have D_alike:Def K mg "_law_alike" s_alike ["_law_terms", "_law_leads", "_law_others", "_law_later", "_law_order_here", "_law_asked"]:=⟨_,_,F_alike,PySem.W.mg_of X G a33,F_alike.binds fun _ _ _ _ _ _ us hl=>len6_ (fun _ _ _ _ _ _=>rfl) us hl⟩
  refine ⟨PySem.W.fnOf "law" "law" (defArgs s_law) (defBody s_law) (defScope s_law) .none kV30 dc30 pm30 an30 cd30 ct30,fun s v => .of_eq rfl,fun base _ _ => ?_⟩
  have Zs:TopS K mg CS t_SIGN_BITS:=⟨cls_Signs,nA_Signs_terms,nA_Signs_leads,g_NEGATIVE,g_NOUGHT,g_POSITIVE,g_ANY_SIGN,g_SIGN_BITS,q_SIGN_BITS⟩
  have Zn:TopN K CN:=⟨cls_Names,nA_Names_terms,nA_Names_leads,nA_Names_held,nA_Names_bits,nA_Names_standing⟩
  have h_is_sum:=ok_is_sum (P:=l.prog) (w:=w) (base:=base) B D_is_sum
  have h_is_product:=ok_is_product (P:=l.prog) (w:=w) (base:=base) B D_is_product
  have h_is_opposite:=ok_is_opposite (P:=l.prog) (w:=w) (base:=base) B D_is_opposite
  have h_is_binder:=ok_is_binder (P:=l.prog) (w:=w) (base:=base) B D_is_binder
  have h_sign_of_number:=ok_sign_of_number (P:=l.prog) (w:=w) (base:=base) Zs D_sign_of_number
  have h_add_signs:=ok_add_signs (P:=l.prog) (w:=w) (base:=base) Zs D_add_signs
  have h_multiply_signs:=ok_multiply_signs (P:=l.prog) (w:=w) (base:=base) Zs D_multiply_signs
  have h_sign_of_pair:=ok_sign_of_pair (P:=l.prog) (w:=w) (base:=base) Zs D_sign_of_pair
  have h_init_Signs:=ok_kinit (P:=l.prog) (w:=w) (base:=base) B Zs D_init_Signs
  have h_kinit:=ok_kinitK (P:=l.prog) (w:=w) (base:=base) B Zn D_kinit
  have h_init_Names:=ok_ninit B Zn h_kinit D_init_Names
  have h_stop:=ok_top (P:=l.prog) (w:=w) (base:=base) Zs D_stop
  have h_ntop:=ok_topN (P:=l.prog) (w:=w) (base:=base) B Zn D_ntop
  have h_sworth:=ok_worth Zs h_is_sum h_is_product h_is_opposite h_sign_of_number h_sign_of_pair h_add_signs h_multiply_signs D_sworth
  have h_nworth:=ok_worthN B Zn h_is_binder D_nworth
  have h_nfree:=ok_nfree (P:=l.prog) (w:=w) (mg:=mg) (base:=base) Zn D_nfree
  have h_mark:=ok_mark (P:=l.prog) (w:=w) (base:=base) B D_mark
  have h_join_classes:=ok_join_classes (P:=l.prog) (w:=w) (base:=base) B D_join_classes
  have h_join_like:=ok_join_like B h_mark h_join_classes D_join_like
  have h_closed:=ok_closed B h_join_classes h_join_like D_closed
  have h_members:=ok_members (P:=l.prog) (w:=w) (base:=base) B D_members
  have h_numbers:=ok_numbers h_members D_numbers
  have h_odds:=ok_odds B b_sorted h_numbers D_odds
  have h_learnedS:=ok_learnedG B (lrnS (K:=K)) (Nat.le_refl 3) cls_Signs nA_Signs_terms nA_Signs_leads h_stop h_sworth h_members D_learned
  have h_learnedN:=ok_learnedG B (lrnN (K:=K)) (show 2≤3 by decide) cls_Names nA_Names_terms nA_Names_leads h_ntop h_nworth h_members D_learned
  have h_word:=ok_word2 (P:=l.prog) (w:=w) (base:=base) D_word
  have h_number:=ok_number (P:=l.prog) (w:=w) (base:=base) D_number
  have h_knot:=ok_knot B h_word D_knot
  have h_term:=ok_termM B h_word h_number h_knot D_term
  have h_made:=ok_made B h_term D_made
  have h_order:=ok_order (P:=l.prog) (w:=w) (base:=base) B b_all D_order
  have h_anew:=ok_anew (P:=l.prog) (w:=w) (base:=base) B D_anew
  have h_alike:=ok_alike B b_sorted cls_Signs cls_Names h_init_Signs h_init_Names h_learnedS h_learnedN h_nfree h_numbers h_odds D_alike
  exact ok_law B b_reversed h_made h_order h_anew h_closed h_word h_alike F_law
theorem walk {l:PySem.W.OpenLaw} {q:Program} {loose:List Str} {XP:(Str→Option Value)→Heap→Prop} {YP:World→Heap→Prop} {d:DefRec} {K:Params→PySem.W.Frag} (hn:l.most=some 63) (hdf:d.params.defaults = [])
    (hY:∀ (w:World) (h:Heap),YP w h→(K w.params).In h)
    (F:∀ (w:World) (mg:Str→Option Value) (fa:Addr) (h:Heap),(K w.params).In h→h.Ns mainGlobals mg→mg d.name=some (.ref fa) →
      ∃ fd:FuncData,(∀ (s:Shared) (u:Value),BindsTo s fd ⟨[u], []⟩ [("_law_script",u)])∧∀ base:Heap,(K w.params).In base→base.Ns mainGlobals mg→FnOk l.prog w (K w.params) mg base CX0 6 fa fd ["_law_script"] (spLaw (K w.params))) :
    PySem.W.WalkO q loose XP YP l.row.toRowW d [] (fun f vs=>PySem.call f vs) :=
  L2.walk_ofB (n:=63) (k:=6) (x := "_law_script") (CX:=fun _=>CX0) (sp:=fun w=>spLaw (K w.params)) hn (by decide) hdf ⟨rfl,by decide,by decide⟩ hY F (fun _ _ a ns hl hb hS=>⟨a,ns,rfl,hS,hl,hb,fun _=>rfl⟩) fun _ _ _ _ _ z=>z
end K39
open PySem PySem.W PyProof.Rows
set_option maxRecDepth 100000 in
set_option maxHeartbeats 0 in
theorem PySem.Challenge.cw_samewise_k39_whole_facts_by_any_order_holds : PySem.Challenge.rw_samewise_k39_whole_facts_by_any_order.Holds := by
  refine KHd.top ?_
  k_fill
  refine K39.walk (l:=PySem.Challenge.rw_samewise_k39_whole_facts_by_any_order) rfl rfl (fun w h Y=>PySem.W.kIn_of Y) ?F
  case F =>
    intro w mg fa h KX G hmg
    refine' K39.all_mk KX G hmg ?aC_Kind ?aC_Signs ?aC_Names ?a0 ?l0 ?c0 ?k0 ?a1 ?l1 ?c1 ?k1 ?a2 ?l2 ?c2 ?k2 ?a3 ?l3 ?c3 ?k3 ?a4 ?l4 ?c4 ?k4 ?a5 ?l5 ?c5 ?k5 ?a6 ?l6 ?c6 ?k6 ?a7 ?l7 ?c7 ?k7 ?km_Kind ?kg_Kind ?kr_Kind ?kf_Kind ?ai_Kind ?ai_Signs ?l8 ?c8 ?k8 ?n8 ?a9 ?l9 ?c9 ?k9 ?n9 ?a10 ?l10 ?c10 ?k10 ?n10 ?a11 ?l11 ?c11 ?k11 ?n11 ?a12 ?l12 ?c12 ?k12 ?n12 ?ai_Names ?l13 ?c13 ?k13 ?n13 ?a14 ?l14 ?c14 ?k14 ?n14 ?a15 ?l15 ?c15 ?k15 ?n15 ?a16 ?l16 ?c16 ?k16 ?a17 ?l17 ?c17 ?k17 ?a18 ?l18 ?c18 ?k18 ?a19 ?l19 ?c19 ?k19 ?a20 ?l20 ?c20 ?k20 ?a21 ?l21 ?c21 ?k21 ?a22 ?l22 ?c22 ?k22 ?a23 ?l23 ?c23 ?k23 ?a24 ?l24 ?c24 ?k24 ?a25 ?l25 ?c25 ?k25 ?a26 ?l26 ?c26 ?k26 ?a27 ?l27 ?c27 ?k27 ?n27 ?a28 ?l28 ?c28 ?k28 ?a29 ?l29 ?c29 ?k29 ?a30 ?l30 ?c30 ?k30 ?a31 ?l31 ?c31 ?k31 ?a32 ?l32 ?c32 ?k32 ?a33 ?l33 ?c33 ?k33 ?rMk_Kind ?rKp_Kind ?rPg_Kind ?rHd_Kind ?rPo_Kind ?rSa_Kind ?nA_Kind_terms ?nA_Kind_leads ?rMk_Signs ?rKp_Signs ?rPg_Signs ?rHd_Signs ?rPo_Signs ?rSa_Signs ?nA_Signs_terms ?nA_Signs_leads ?rMk_Names ?rKp_Names ?rPg_Names ?rHd_Names ?rPo_Names ?rSa_Names ?nA_Names_terms ?nA_Names_leads ?nA_Names_held ?nA_Names_bits ?nA_Names_standing ?gi_NEGATIVE ?gi_NOUGHT ?gi_POSITIVE ?gi_ANY_SIGN ?gt_SIGN_BITS ?lt_SIGN_BITS ?z0 ?z1 ?z2 ?z3 ?z4 ?z5 ?z6 ?z7 ?z8 ?z9 ?z10 ?z11 ?z12 ?z13 ?z14
    (case aC_Kind=>k_is)
    (case aC_Signs=>k_is)
    (case aC_Names=>k_is)
    (case a0=>k_is)
    (case l0=>k_is)
    (case c0=>k_is)
    (case k0=>k_is)
    (case a1=>k_is)
    (case l1=>k_is)
    (case c1=>k_is)
    (case k1=>k_is)
    (case a2=>k_is)
    (case l2=>k_is)
    (case c2=>k_is)
    (case k2=>k_is)
    (case a3=>k_is)
    (case l3=>k_is)
    (case c3=>k_is)
    (case k3=>k_is)
    (case a4=>k_is)
    (case l4=>k_is)
    (case c4=>k_is)
    (case k4=>k_is)
    (case a5=>k_is)
    (case l5=>k_is)
    (case c5=>k_is)
    (case k5=>k_is)
    (case a6=>k_is)
    (case l6=>k_is)
    (case c6=>k_is)
    (case k6=>k_is)
    (case a7=>k_is)
    (case l7=>k_is)
    (case c7=>k_is)
    (case k7=>k_is)
    (case km_Kind=>k_is)
    (case kg_Kind=>k_is)
    (case kr_Kind=>k_is)
    (case kf_Kind=>k_is)
    (case ai_Kind=>k_is)
    (case ai_Signs=>k_is)
    (case l8=>k_is)
    (case c8=>k_is)
    (case k8=>k_is)
    (case n8=>k_is)
    (case a9=>k_is)
    (case l9=>k_is)
    (case c9=>k_is)
    (case k9=>k_is)
    (case n9=>k_is)
    (case a10=>k_is)
    (case l10=>k_is)
    (case c10=>k_is)
    (case k10=>k_is)
    (case n10=>k_is)
    (case a11=>k_is)
    (case l11=>k_is)
    (case c11=>k_is)
    (case k11=>k_is)
    (case n11=>k_is)
    (case a12=>k_is)
    (case l12=>k_is)
    (case c12=>k_is)
    (case k12=>k_is)
    (case n12=>k_is)
    (case ai_Names=>k_is)
    (case l13=>k_is)
    (case c13=>k_is)
    (case k13=>k_is)
    (case n13=>k_is)
    (case a14=>k_is)
    (case l14=>k_is)
    (case c14=>k_is)
    (case k14=>k_is)
    (case n14=>k_is)
    (case a15=>k_is)
    (case l15=>k_is)
    (case c15=>k_is)
    (case k15=>k_is)
    (case n15=>k_is)
    (case a16=>k_is)
    (case l16=>k_is)
    (case c16=>k_is)
    (case k16=>k_is)
    (case a17=>k_is)
    (case l17=>k_is)
    (case c17=>k_is)
    (case k17=>k_is)
    (case a18=>k_is)
    (case l18=>k_is)
    (case c18=>k_is)
    (case k18=>k_is)
    (case a19=>k_is)
    (case l19=>k_is)
    (case c19=>k_is)
    (case k19=>k_is)
    (case a20=>k_is)
    (case l20=>k_is)
    (case c20=>k_is)
    (case k20=>k_is)
    (case a21=>k_is)
    (case l21=>k_is)
    (case c21=>k_is)
    (case k21=>k_is)
    (case a22=>k_is)
    (case l22=>k_is)
    (case c22=>k_is)
    (case k22=>k_is)
    (case a23=>k_is)
    (case l23=>k_is)
    (case c23=>k_is)
    (case k23=>k_is)
    (case a24=>k_is)
    (case l24=>k_is)
    (case c24=>k_is)
    (case k24=>k_is)
    (case a25=>k_is)
    (case l25=>k_is)
    (case c25=>k_is)
    (case k25=>k_is)
    (case a26=>k_is)
    (case l26=>k_is)
    (case c26=>k_is)
    (case k26=>k_is)
    (case a27=>k_is)
    (case l27=>k_is)
    (case c27=>k_is)
    (case k27=>k_is)
    (case n27=>k_is)
    (case a28=>k_is)
    (case l28=>k_is)
    (case c28=>k_is)
    (case k28=>k_is)
    (case a29=>k_is)
    (case l29=>k_is)
    (case c29=>k_is)
    (case k29=>k_is)
    (case a30=>k_is)
    (case l30=>k_is)
    (case c30=>k_is)
    (case k30=>k_is)
    (case a31=>k_is)
    (case l31=>k_is)
    (case c31=>k_is)
    (case k31=>k_is)
    (case a32=>k_is)
    (case l32=>k_is)
    (case c32=>k_is)
    (case k32=>k_is)
    (case a33=>k_is)
    (case l33=>k_is)
    (case c33=>k_is)
    (case k33=>k_is)
    (case rMk_Kind=>k_is)
    (case rKp_Kind=>k_is)
    (case rPg_Kind=>k_is)
    (case rHd_Kind=>k_is)
    (case rPo_Kind=>k_is)
    (case rSa_Kind=>k_is)
    (case nA_Kind_terms=>k_is)
    (case nA_Kind_leads=>k_is)
    (case rMk_Signs=>k_is)
    (case rKp_Signs=>k_is)
    (case rPg_Signs=>k_is)
    (case rHd_Signs=>k_is)
    (case rPo_Signs=>k_is)
    (case rSa_Signs=>k_is)
    (case nA_Signs_terms=>k_is)
    (case nA_Signs_leads=>k_is)
    (case rMk_Names=>k_is)
    (case rKp_Names=>k_is)
    (case rPg_Names=>k_is)
    (case rHd_Names=>k_is)
    (case rPo_Names=>k_is)
    (case rSa_Names=>k_is)
    (case nA_Names_terms=>k_is)
    (case nA_Names_leads=>k_is)
    (case nA_Names_held=>k_is)
    (case nA_Names_bits=>k_is)
    (case nA_Names_standing=>k_is)
    (case gi_NEGATIVE=>k_is)
    (case gi_NOUGHT=>k_is)
    (case gi_POSITIVE=>k_is)
    (case gi_ANY_SIGN=>k_is)
    (case gt_SIGN_BITS=>k_is)
    (case lt_SIGN_BITS=>k_is)
    (case z0=>k_is)
    (case z1=>k_is)
    (case z2=>k_is)
    (case z3=>k_is)
    (case z4=>k_is)
    (case z5=>k_is)
    (case z6=>k_is)
    (case z7=>k_is)
    (case z8=>k_is)
    (case z9=>k_is)
    (case z10=>k_is)
    (case z11=>k_is)
    (case z12=>k_is)
    (case z13=>k_is)
    (case z14=>k_is)
#print axioms PySem.Challenge.cw_samewise_k39_whole_facts_by_any_order_holds
