import PyProof.Rows.All
import Wide.All
import OpenK.AllK
import Wide.FinOn
import Lean
import PyProof.EqAt
import PyProof.EqKinds
import PyProof.TupleCall
import KE.KTryMore
import KE.KIntText
import KE.RegKTryMore
import PySem.Challenge.RW_samewise_k12_holes_put
set_option Elab.async false
set_option linter.all false
set_option maxRecDepth 100000
set_option maxHeartbeats 4000000
namespace L2
open PySem PySem.Spec PyProof.Rows

noncomputable abbrev Key := Sum Int Str
noncomputable def keyIs : Key → Value → Bool
  | .inl k, v => Value.isInt k v
  | .inr x, v => Value.isStrOf x v
noncomputable def keyH (w : World) : Key → Int
  | .inl k => hashInt k
  | .inr x => hashStr w x
theorem keyIs_shape : ∀ {k : Key} {v : Value}, keyIs k v = true → (∃ i t, k = Sum.inl i ∧ v = Value.int i t) ∨ (∃ x t, k = Sum.inr x ∧ v = Value.str x t)
  | .inl i, v, h => by
    obtain ⟨t, e⟩ := Value.isInt_shape (k := i) (v := v) h
    exact .inl ⟨i, t, rfl, e⟩
  | .inr x, v, h => by
    obtain ⟨t, e⟩ := Value.isStrOf_shape (x := x) (v := v) h
    exact .inr ⟨x, t, rfl, e⟩
theorem keyIs_int (i : Int) (t : Tok) : keyIs (.inl i) (.int i t) = true := by simp [keyIs, Value.isInt]
theorem keyIs_str (x : Str) (t : Tok) : keyIs (.inr x) (.str x t) = true := by simp [keyIs, Value.isStrOf]
theorem key_ll (a b : Int) : decide ((Sum.inl a : Key) = Sum.inl b) = (a == b) := by
  by_cases e : a = b
  · subst e; simp
  · have h : ¬ (Sum.inl a : Key) = Sum.inl b := fun q => e (Sum.inl.inj q)
    rw [decide_eq_false h]
    exact (beq_eq_false_iff_ne.mpr e).symm
theorem key_rr (a b : Str) : decide ((Sum.inr a : Key) = Sum.inr b) = decide (a = b) := by
  by_cases e : a = b
  · subst e; simp
  · have h : ¬ (Sum.inr a : Key) = Sum.inr b := fun q => e (Sum.inr.inj q)
    rw [decide_eq_false h, decide_eq_false e]
theorem key_lr (a : Int) (b : Str) : decide ((Sum.inl a : Key) = Sum.inr b) = false := decide_eq_false (fun q => nomatch q)
theorem key_rl (a : Str) (b : Int) : decide ((Sum.inr a : Key) = Sum.inl b) = false := decide_eq_false (fun q => nomatch q)

noncomputable def mixKind (prog : Program) (w : World) : PySem.KeyKind prog w Key where
  is := keyIs
  hash := keyH w
  inj := fun v a b ha hb => by
    rcases keyIs_shape ha with ⟨i, t, rfl, rfl⟩ | ⟨x, t, rfl, rfl⟩
    · rcases keyIs_shape hb with ⟨j, u, rfl, e⟩ | ⟨y, u, rfl, e⟩
      · injection e with e1 _; rw [e1]
      · exact nomatch e
    · rcases keyIs_shape hb with ⟨j, u, rfl, e⟩ | ⟨y, u, rfl, e⟩
      · exact nomatch e
      · injection e with e1 _; rw [e1]
  byValue := fun k v h => by
    rcases keyIs_shape h with ⟨i, t, rfl, rfl⟩ | ⟨x, t, rfl, rfl⟩ <;> rfl
  pyHash := fun hv h => by
    rcases keyIs_shape hv with ⟨i, t, rfl, rfl⟩ | ⟨x, t, rfl, rfl⟩
    · exact wpAny_pyHash_int h
    · exact wpAny_pyHash_str h
  eqBool := fun hu hv h => by
    rcases keyIs_shape hu with ⟨i, t, rfl, rfl⟩ | ⟨x, t, rfl, rfl⟩
    · rcases keyIs_shape hv with ⟨j, u, rfl, rfl⟩ | ⟨y, u, rfl, rfl⟩
      · rw [key_ll] at h; exact wpAny_eqBool_int h
      · rw [key_lr] at h; exact SeqAt.EqAt.int_str i t y u _ _ _ _ h
    · rcases keyIs_shape hv with ⟨j, u, rfl, rfl⟩ | ⟨y, u, rfl, rfl⟩
      · rw [key_rl] at h; exact SeqAt.EqAt.str_int x t j u _ _ _ _ h
      · rw [key_rr] at h; exact wpAny_eqBool_str h
  «strs» := fun k x t v h => by
    rcases keyIs_shape h with ⟨i, u, rfl, e⟩ | ⟨y, u, rfl, e⟩
    · exact nomatch e
    · injection e with e1 _
      subst e1
      cases v <;> rfl

theorem mixKind_int (prog : Program) (w : World) (i : Int) (t : Tok) : (mixKind prog w).is (.inl i) (.int i t) = true := keyIs_int i t
theorem mixKind_str (prog : Program) (w : World) (x : Str) (t : Tok) : (mixKind prog w).is (.inr x) (.str x t) = true := keyIs_str x t
end L2

namespace L2
open PySem PySem.Spec PyProof.Rows

inductive V where
  | non | bl (b : Bool) | int (i : Int) | str (x : Str) | byt (b : Array UInt8) | flt (b : UInt64) | ref (a : Addr) | ty (n : String)
  deriving DecidableEq

noncomputable def RelV : V → Value → Prop
  | .non, u => u = Value.none
  | .bl b, u => u = Value.bool b
  | .int i, u => ∃ t, u = Value.int i t
  | .str x, u => ∃ t, u = Value.str x t
  | .byt b, u => ∃ t, u = Value.bytes b t
  | .flt b, u => ∃ t, u = Value.float b t
  | .ref a, u => u = Value.ref a
  | .ty n, u => u = Value.type n

noncomputable abbrev Vals : List V → List Value → Prop := Paired RelV
theorem Vals.length {xs : List V} {us : List Value} (r : Vals xs us) : xs.length = us.length := Paired.length r
theorem Vals.get : ∀ {xs : List V} {us : List Value} {i : Nat} {x : V}, Vals xs us → xs[i]? = some x → ∃ u, us[i]? = some u ∧ RelV x u
  | _, _, _, _, .nil, e => by simp at e
  | _, _, 0, _, .cons r _, e => by simp at e; subst e; exact ⟨_, rfl, r⟩
  | _, _, i + 1, x, .cons _ t, e => by
    obtain ⟨u, h1, h2⟩ := Vals.get (i := i) (x := x) t (by simpa using e)
    exact ⟨u, by simpa using h1, h2⟩
theorem Vals.append : ∀ {xs ys : List V} {us ws : List Value}, Vals xs us → Vals ys ws → Vals (xs ++ ys) (us ++ ws)
  | _, _, _, _, .nil, s => s
  | _, _, _, _, .cons r t, s => .cons r (Vals.append t s)
theorem Vals.take : ∀ {xs : List V} {us : List Value} (n : Nat), Vals xs us → Vals (xs.take n) (us.take n)
  | _, _, 0, _ => .nil
  | _, _, _ + 1, .nil => .nil
  | _, _, n + 1, .cons r t => .cons r (Vals.take n t)
theorem Vals.drop : ∀ {xs : List V} {us : List Value} (n : Nat), Vals xs us → Vals (xs.drop n) (us.drop n)
  | _, _, 0, r => r
  | _, _, _ + 1, .nil => .nil
  | _, _, n + 1, .cons _ t => Vals.drop n t

noncomputable def RelO : Option V → Option Value → Prop
  | some v, some u => RelV v u
  | none, none => True
  | _, _ => False
noncomputable def KV {κ : Type} : List (κ × V) → List (κ × Value) → Prop := Paired fun (p : κ × V) (q : κ × Value) => p.1 = q.1 ∧ RelV p.2 q.2

noncomputable def kV : Key → V
  | .inl i => .int i
  | .inr x => .str x

inductive HO where
    | lst (xs : List V)
    | tup (xs : List V)
    | dK (kvs : List (Key × V)) | dT (kvs : List (List Key × V))
    | set (S : Int → Bool) (n : Nat)
    | ins (C dx : Addr) (fs : List (Str × V))
    | own (x : Addr)
    | xd (fs : List (Str × V))
    | met (f x : Addr)
    | rng (lo hi : Int)
    | frz (o : Obj) (u : HO)
    | tbl (ps : Array Value)
    | ext (φ : Heap → Prop)

noncomputable abbrev Hp := Addr → Option HO
noncomputable def upd (H : Hp) (a : Addr) (o : HO) : Hp := fun b => if b = a then some o else H b
theorem upd_same {H : Hp} {a : Addr} {o : HO} : upd H a o a = some o := by unfold upd; rw [if_pos rfl]
theorem upd_ne {H : Hp} {a b : Addr} {o : HO} (h : b ≠ a) : upd H a o b = H b := by unfold upd; rw [if_neg h]
theorem upd_upd {H : Hp} {a : Addr} {o u : HO} : upd (upd H a o) a u = upd H a u := by
  funext b; unfold upd; split <;> rfl
theorem ne_of {H : Hp} {a b : Addr} {o u : HO} (h : H a = some o) (h' : H b = some u) (d : o ≠ u) : a ≠ b := by
  intro e; subst e; rw [h] at h'; exact d (Option.some.inj h')
theorem ne_of_none {H : Hp} {a b : Addr} {o : HO} (h : H a = some o) (h' : H b = none) : a ≠ b := by
  intro e; subst e; rw [h] at h'; cases h'

noncomputable def IsTupN (h : Heap) (a : Addr) (items : Array Value) : Prop := ∃ o, h.get? a = some o ∧ o.cls = .type "tuple" ∧ ∃ n, o.data = .seq items n ∧ o.dict = none
theorem IsTupN.tup {h : Heap} {a : Addr} {items : Array Value} (x : IsTupN h a items) : IsTup h a items := let ⟨o, e, c, n, d, _⟩ := x; ⟨o, e, c, n, d⟩
theorem IsTupN.new (h : Heap) (items : Array Value) : IsTupN (h.push { cls := .type "tuple", data := .seq items }) h.objs.size items := ⟨_, Heap.get?_push_size _ rfl, rfl, _, rfl, rfl⟩
section
variable (P : Program) (w : World)
noncomputable def ObjOk (H : Hp) (h : Heap) (a : Addr) : HO → Prop
  | .lst xs => xs.length ≤ sizeLine ∧ ∃ (its : List Value) (n : Nat), Vals xs its ∧ h.get? a = some { cls := .type "list", data := .seq its.toArray n }
  | .tup xs => xs.length ≤ sizeLine ∧ ∃ its : List Value, Vals xs its ∧ IsTupN h a its.toArray
  | .dK kvs => kvs.length ≤ sizeLine ∧ (a == sysModules) = false ∧ ∃ vs, KV kvs vs ∧ h.DictOf (mixKind P w) a vs
  | .dT kvs => kvs.length ≤ sizeLine ∧ (a == sysModules) = false ∧ ∃ xs : List (List Key × Addr × Value),
      Paired (fun (p : List Key × V) (q : List Key × Addr × Value) => p.1 = q.1 ∧ H q.2.1 = some (.tup (p.1.map kV)) ∧ RelV p.2 q.2.2) kvs xs ∧
      ∃ o es ep, h.get? a = some o ∧ o.ExactDict ∧ o.data = .dict es ep ∧ es.toList = xs.map (entryOfKey (tupleKind (mixKind P w))) ∧ (xs.map (·.1)).Nodup
  | .set S n => h.SetOf (intKind P w) a S n
  | .ins C dx fs => H dx = some (.own a) ∧ fs.length ≤ 1000 ∧ dx ≠ a ∧ h.get? a = some (PySem.W.instObj C dx) ∧
      ∃ mA, h.Ns1 dx mA ∧ (∀ f, RelO (fs.lookup f) (mA f)) ∧ PySem.Within mA (fs.map (·.1))
  | .own _ => ∃ o, h.get? a = some o
  | .xd fs => ∃ mA, h.Ns1 a mA ∧ ∀ f, RelO (fs.lookup f) (mA f)
  | .rng lo hi => ∃ t u v, h.get? a = some { cls := .type "range", data := .fields #[.int lo t, .int hi u, .int 1 v] }
  | .frz o u => h.get? a = some o ∧ ObjOk H h a u
  | .tbl ps => h.get? a = some { cls := .none, data := .fields ps }
  | .met f x => h.get? a = some (PySem.W.methodObj (.ref f) (.ref x))
  | .ext φ => φ h ∧ (∃ o, h.get? a = some o) ∧ ∀ h1 h2 : Heap, φ h1 → (∀ o, h1.get? a = some o → h2.get? a = some o) → φ h2
noncomputable def HOk (H : Hp) (h : Heap) : Prop := ∀ a o, H a = some o → ObjOk P w H h a o
end

section
variable {P : Program} {w : World} {H H' : Hp} {h h' : Heap} {a : Addr} {o : HO}
theorem ObjOk.lt (x : ObjOk P w H h a o) : a < h.objs.size := by
  cases o with
  | lst xs => obtain ⟨_, _, _, _, e⟩ := x; exact Heap.lt_size e
  | tup xs => obtain ⟨_, _, _, p⟩ := x; exact p.tup.lt
  | dK kvs => obtain ⟨_, _, _, _, o, _, _, e, _⟩ := x; exact Heap.lt_size e
  | dT kvs => obtain ⟨_, _, _, _, o, _, _, e, _⟩ := x; exact Heap.lt_size e
  | set S n => obtain ⟨o, _, _, _, e, _⟩ := x; exact Heap.lt_size e
  | ins C dx fs => obtain ⟨_, _, _, e, _⟩ := x; exact Heap.lt_size e
  | own y => obtain ⟨_, e⟩ := x; exact Heap.lt_size e
  | xd fs => obtain ⟨_, ⟨_, _, _, e, _⟩, _⟩ := x; exact Heap.lt_size e
  | rng lo hi => obtain ⟨_, _, _, e⟩ := x; exact Heap.lt_size e
  | frz ob u => obtain ⟨e, _⟩ := x; exact Heap.lt_size e
  | tbl ps => exact Heap.lt_size (show h.get? a = some _ from x)
  | met f y => exact Heap.lt_size (show h.get? a = some _ from x)
  | ext φ => obtain ⟨_, ⟨_, e⟩, _⟩ := x; exact Heap.lt_size e
theorem Paired.mapP {α β : Type} {F G : α → β → Prop} : ∀ {l₁ : List α} {l₂ : List β}, Paired F l₁ l₂ → (∀ a b, F a b → G a b) → Paired G l₁ l₂
  | _, _, .nil, _ => .nil
  | _, _, .cons r t, f => .cons (f _ _ r) (Paired.mapP t f)
theorem ObjOk.stay (x : ObjOk P w H h a o) (k : ∀ b u, (b = a ∨ H b = some (.own a)) → h.get? b = some u → h'.get? b = some u)
    (ho : ∀ b, H b = some (.own a) → H' b = some (.own a)) (ht : ∀ b xs, H b = some (.tup xs) → H' b = some (.tup xs)) : ObjOk P w H' h' a o := by
  induction o with
  | lst xs => obtain ⟨z, its, n, r, e⟩ := x; exact ⟨z, its, n, r, k _ _ (.inl rfl) e⟩
  | tup xs => obtain ⟨z, its, r, ob, e, c⟩ := x; exact ⟨z, its, r, ob, k _ _ (.inl rfl) e, c⟩
  | dK kvs => obtain ⟨z, y, vs, r, ob, es, ep, e, c⟩ := x; exact ⟨z, y, vs, r, ob, es, ep, k _ _ (.inl rfl) e, c⟩
  | dT kvs =>
    obtain ⟨z, y, xs, r, ob, es, ep, e, c⟩ := x
    exact ⟨z, y, xs, Paired.mapP r fun p q z => ⟨z.1, ht _ _ z.2.1, z.2.2⟩, ob, es, ep, k _ _ (.inl rfl) e, c⟩
  | set S n => obtain ⟨ob, es, ep, t, e, c⟩ := x; exact ⟨ob, es, ep, t, k _ _ (.inl rfl) e, c⟩
  | ins C dx fs =>
    obtain ⟨d, z, ne, e, mA, ⟨od, es, ep, e2, c⟩, r⟩ := x
    exact ⟨ho _ d, z, ne, k _ _ (.inl rfl) e, mA, ⟨od, es, ep, k _ _ (.inr d) e2, c⟩, r⟩
  | own y => obtain ⟨ob, e⟩ := x; exact ⟨ob, k _ _ (.inl rfl) e⟩
  | xd fs => obtain ⟨mA, ⟨od, es, ep, e, c⟩, r⟩ := x; exact ⟨mA, ⟨od, es, ep, k _ _ (.inl rfl) e, c⟩, r⟩
  | rng lo hi => obtain ⟨t, u, v, e⟩ := x; exact ⟨t, u, v, k _ _ (.inl rfl) e⟩
  | frz ob u ih => obtain ⟨e, q⟩ := x; exact ⟨k _ _ (.inl rfl) e, ih q⟩
  | tbl ps =>
    have e : h.get? a = some { cls := .none, data := .fields ps } := x
    show h'.get? a = some { cls := .none, data := .fields ps }
    exact k a _ (.inl rfl) e
  | met f y =>
    have e : h.get? a = some (PySem.W.methodObj (.ref f) (.ref y)) := x
    show h'.get? a = some (PySem.W.methodObj (.ref f) (.ref y))
    exact k a _ (.inl rfl) e
  | ext φ => obtain ⟨p, ⟨o, e⟩, st⟩ := x; exact ⟨st _ _ p fun o q => k _ _ (.inl rfl) q, ⟨o, k _ _ (.inl rfl) e⟩, st⟩
theorem HOk.lt (x : HOk P w H h) (e : H a = some o) : a < h.objs.size := (x a o e).lt
theorem HOk.fresh (x : HOk P w H h) (e : h.objs.size ≤ a) : H a = none := by
  cases q : H a with
  | none => rfl
  | some u => exact absurd (Nat.lt_of_lt_of_le (x.lt q) e) (Nat.lt_irrefl _)
theorem HOk.kept (x : HOk P w H h) (k : ∀ b u, h.get? b = some u → h'.get? b = some u) : HOk P w H h' := fun a o e =>
  (x a o e).stay (fun b u _ q => k b u q) (fun _ q => q) fun _ _ q => q
theorem HOk.laid (x : HOk P w H h) (k : ∀ b u, h.get? b = some u → h'.get? b = some u) (hp : h.objs.size ≤ a) (new : ObjOk P w (upd H a o) h' a o) : HOk P w (upd H a o) h' := fun b u e => by
  have hn := x.fresh hp
  by_cases hb : b = a
  · subst hb; rw [upd_same] at e; cases e; exact new
  · rw [upd_ne hb] at e
    exact (x b u e).stay (fun c v _ q => k c v q) (fun c q => by rw [upd_ne (ne_of_none q hn)]; exact q) fun c xs q => by rw [upd_ne (ne_of_none q hn)]; exact q
end

noncomputable def Rd (H : Hp) (a : Addr) (u : HO) : Prop := H a = some u ∨ ∃ o, H a = some (.frz o u)
theorem Rd.ok {P : Program} {w : World} {H : Hp} {h : Heap} {a : Addr} {u : HO} (r : Rd H a u) (x : HOk P w H h) : ObjOk P w H h a u := by
  rcases r with r | ⟨o, r⟩
  · exact x a u r
  · obtain ⟨_, q⟩ := x a _ r
    exact q
noncomputable def Mut : Option HO → Prop
  | some (.lst _) => True
  | some (.dK _) => True
  | some (.dT _) => True
  | some (.set _ _) => True
  | some (.ins _ _ _) => True
  | some (.ext _) => True
  | _ => False
section
variable {P : Program} {w : World} {H : Hp} {h h' : Heap} {x e : Addr} {o' : HO}
theorem HOk.write (ok : HOk P w H h) (mu : Mut (H x)) (he : e = x ∨ H e = some (.own x)) (k : ∀ b u, b ≠ e → h.get? b = some u → h'.get? b = some u) (heo : ∃ u, h'.get? e = some u)
    (new : ObjOk P w (upd H x o') h' x o') : HOk P w (upd H x o') h' := fun b u q => by
  have nown : ∀ c y, H c = some (.own y) → c ≠ x := fun c y r z => by subst z; rw [r] at mu; exact mu
  have ntup : ∀ c xs, H c = some (.tup xs) → c ≠ x := fun c xs r z => by subst z; rw [r] at mu; exact mu
  by_cases hb : b = x
  · subst hb; rw [upd_same] at q; cases q; exact new
  · rw [upd_ne hb] at q
    by_cases hbe : b = e
    · have q' : H b = some (.own x) := by
        rcases he with z | z
        · exact absurd (hbe.trans z) hb
        · rw [hbe]; exact z
      rw [q] at q'; cases q'
      obtain ⟨v, hv⟩ := heo
      exact ⟨v, by rw [hbe]; exact hv⟩
    · refine (ok b u q).stay (fun c v hc r => k c v ?_ r) (fun c r => by rw [upd_ne (nown c b r)]; exact r) fun c xs r => by rw [upd_ne (ntup c xs r)]; exact r
      rcases hc with rfl | hc
      · exact hbe
      · rintro rfl
        rcases he with z | z
        · exact nown c b hc z
        · rw [hc] at z; cases z; exact hb rfl
end

structure Un (fs ex : List Addr) (H H' : Hp) (h h' : Heap) : Prop where
  keep : ∀ b o, h.get? b = some o → H b = none → b ∉ fs → b ∉ ex → h'.get? b = some o
  slot : ∀ b o, h.get? b = some o → H b = none → b ∈ fs → b ∉ ex → ∃ sl, h'.get? b = some { o with slots := sl }
  free : ∀ b o, h.get? b = some o → H b = none → b ∉ ex → H' b = none
  there : ∀ b o, h.get? b = some o → b ∉ ex → ∃ o', h'.get? b = some o'
  tups : ∀ b xs, H b = some (.tup xs) → H' b = some (.tup xs)
  frzs : ∀ b o u, H b = some (.frz o u) → H' b = some (.frz o u)
  tbls : ∀ b ps, H b = some (.tbl ps) → ∃ more, H' b = some (.tbl (ps ++ more))
section
variable {fs fs' ex ex' : List Addr} {H H1 H2 : Hp} {h h1 h2 h' : Heap} {a x e : Addr} {o : HO}
theorem Un.any (u : Un fs ex H H1 h h1) {b : Addr} {ob : Obj} (q : h.get? b = some ob) (n : H b = none) (hx : b ∉ ex) : ∃ sl, h1.get? b = some { ob with slots := sl } := by
  by_cases hb : b ∈ fs
  · exact u.slot b ob q n hb hx
  · exact ⟨ob.slots, u.keep b ob q n hb hx⟩
theorem Un.kept (k : ∀ b u, h.get? b = some u → h'.get? b = some u) : Un fs ex H H h h' :=
  ⟨fun b ob q _ _ _ => k b ob q, fun b ob q _ _ _ => ⟨ob.slots, k b ob q⟩, fun _ _ _ n _ => n, fun b ob q _ => ⟨ob, k b ob q⟩, fun _ _ q => q, fun _ _ _ q => q, fun _ ps q => ⟨#[], by rw [q]; simp⟩⟩
theorem Un.refl : Un fs ex H H h h := Un.kept fun _ _ q => q
theorem Un.laid (k : ∀ b u, h.get? b = some u → h'.get? b = some u) (hp : h.objs.size ≤ a) (hn : H a = none) : Un fs ex H (upd H a o) h h' where
  keep := fun b u q _ _ _ => k b u q
  slot := fun b u q _ _ _ => ⟨u.slots, k b u q⟩
  free := fun b u q n _ => by rw [upd_ne (Nat.ne_of_lt (Nat.lt_of_lt_of_le (Heap.lt_size q) hp))]; exact n
  there := fun b u q _ => ⟨u, k b u q⟩
  tups := fun b xs q => by rw [upd_ne (ne_of_none q hn)]; exact q
  frzs := fun b u xs q => by rw [upd_ne (ne_of_none q hn)]; exact q
  tbls := fun b ps q => ⟨#[], by rw [upd_ne (ne_of_none q hn), q]; simp⟩
theorem Un.write (mu : Mut (H x)) (he : e = x ∨ H e = some (.own x)) (k : ∀ b u, b ≠ e → h.get? b = some u → h'.get? b = some u) (heo : ∃ u, h'.get? e = some u) : Un fs ex H (upd H x o) h h' := by
  have hx : ∀ b, H b = none → b ≠ x := fun b n z => by subst z; rw [n] at mu; exact mu
  have hb : ∀ b, H b = none → b ≠ e := fun b n z => by
    subst z
    rcases he with r | r
    · exact hx b n r
    · rw [n] at r; cases r
  have hm : ∀ b u, H b = some u → ¬ Mut (some u) → b ≠ x := fun b u q nm z => by subst z; rw [q] at mu; exact nm mu
  refine ⟨fun b u q n _ _ => k b u (hb b n) q, fun b u q n _ _ => ⟨u.slots, k b u (hb b n) q⟩, fun b u q n _ => by rw [upd_ne (hx b n)]; exact n, fun b u q _ => ?_,
    fun b xs q => by rw [upd_ne (hm b _ q fun z => z)]; exact q, fun b u xs q => by rw [upd_ne (hm b _ q fun z => z)]; exact q, fun b ps q => ⟨#[], by rw [upd_ne (hm b _ q fun z => z), q]; simp⟩⟩
  by_cases hbe : b = e
  · subst hbe; exact heo
  · exact ⟨u, k b u hbe q⟩
end

noncomputable def trk (h : Heap) (H : Hp) : List Addr := (List.range h.objs.size).filter fun a => (H a).isSome
noncomputable def hidT (h : Heap) (H : Hp) : Heap := PySem.W.hideAll h (trk h H)
theorem hidT_size (h : Heap) (H : Hp) : (hidT h H).objs.size = h.objs.size := PySem.W.hideAll_size _ _
theorem hidT_get {h : Heap} {H : Hp} {b : Addr} {o : Obj} (e : h.get? b = some o) (n : H b = none) : (hidT h H).get? b = some o :=
  PySem.W.hideAll_get _ e fun hm => by
    have q : (H b).isSome = true := (List.mem_filter.mp hm).2
    rw [n] at q; simp at q
theorem of_hidT {h : Heap} {H : Hp} {b : Addr} {o : Obj} (e : (hidT h H).get? b = some o) : h.get? b = some o ∧ H b = none := by
  have e' : h.get? b = some o := PySem.W.of_hideAll (trk h H) e
  refine ⟨e', ?_⟩
  cases q : H b with
  | none => rfl
  | some x =>
    have hm : b ∈ trk h H := List.mem_filter.mpr ⟨List.mem_range.mpr (Heap.lt_size e'), by simp [q]⟩
    have z : (hidT h H).get? b = none := PySem.W.hideAll_none (trk h H) hm
    rw [z] at e; cases e

end L2

namespace L2
open PySem PySem.Spec PyProof.Rows

structure Mod (K : PySem.W.Frag) (mg : Str → Option Value) (base : Heap) : Prop where
  kin : K.In base
  glob : base.Ns mainGlobals mg
  blt : ∃ mb, base.Ns builtinsNs mb ∧ ∀ x : Str, x ≠ "__name__" → mb x = bootBuiltins x
  nolimit : base.NoLimit

structure Cx where
  prog : Program
  w : World
  K : PySem.W.Frag
  mg : Str → Option Value
  base : Heap
  A : Around
  N : List Str
  s₀ : Shared
  H₀ : Hp
  env : Env
  outer : List Env
  stack : List Env
  ex : List Addr
  fn : Str → Bool
  calm : Bool
  pn : List (Addr × Obj)
  xe : Value → Shared → Prop
noncomputable def frs (l : List Env) : List Addr := l.filterMap (·.frame)
noncomputable abbrev Cx.fs (X : Cx) : List Addr := frs X.outer

noncomputable def Vis (sc : Scope) (x : Str) : Prop := sc.names.lookup x = some .local ∨ sc.names.lookup x = some .cell ∨ sc.names.lookup x = some .free
noncomputable def Loc (sc : Scope) (x : Str) : Prop := sc.names.lookup x = some .local ∨ sc.names.lookup x = some .cell
noncomputable def Look (env : Env) (h : Heap) (m : Str → Option Value) (x : Str) (u : Value) : Prop :=
  (env.kindOf x = some .local ∧ m x = some u) ∨ ((env.kindOf x = some .cell ∨ env.kindOf x = some .free) ∧ ∃ c, env.cells.lookup x = some c ∧ h.IsCell c (some u))

structure Cx.Ok (X : Cx) : Prop where
  mod : Mod X.K X.mg X.base
  kind : X.env.scope.kind = .function
  glob : X.env.globals = mainGlobals
  blt : X.env.builtins = builtinsNs
  above : X.s₀.heap.objs.size ≤ X.env.locals
  inj : ∀ x y c, X.env.cells.lookup x = some c → X.env.cells.lookup y = some c → x = y
  has : ∀ x, (X.env.kindOf x = some .cell ∨ X.env.kindOf x = some .free) → ∃ c, X.env.cells.lookup x = some c
  cab : ∀ x c, X.fn x = true → X.env.cells.lookup x = some c → X.s₀.heap.objs.size ≤ c
  hd : X.calm = true → X.A.handled = none
  frames : X.A.frames = some X.stack
  stk : X.stack = X.outer ∨ (X.stack = X.env :: X.outer ∧ X.env.frame = some X.env.locals)
  exf : ∀ b ∈ X.ex, b ≠ X.env.locals ∧ ∀ x c, X.env.cells.lookup x = some c → c ≠ b
  bs : ∀ b o, X.base.get? b = some o → X.s₀.heap.get? b = some o ∧ X.H₀ b = none
  bsz : X.base.objs.size ≤ X.s₀.heap.objs.size
  noex : ∀ b o, X.base.get? b = some o → b ∉ X.ex
  exfs : ∀ b ∈ X.ex, b ∉ X.fs
  funs : X.s₀.heap.FunFrames X.base X.outer
  frf : ∀ b ∈ X.fs, X.H₀ b = none

structure Inv (X : Cx) (pins : List (Addr × Obj)) (σ : List (Option V)) (H : Hp) (s : Shared) : Prop where
  ok : X.Ok
  os : s.os = X.s₀.os
  bare : AllBare s.gens
  base : Un X.fs X.ex X.H₀ H X.s₀.heap s.heap
  loc : ∃ m, s.heap.Ns X.env.locals m ∧ ∀ (i : Nat) (x : Str) (v : V), X.N[i]? = some x → σ[i]? = some (some v) → Vis X.env.scope x → ∃ u, RelV v u ∧ Look X.env s.heap m x u
  cell : ∀ x c, X.env.cells.lookup x = some c → ∃ v, s.heap.IsCell c v
  free : H X.env.locals = none
  freeC : ∀ x c, X.env.cells.lookup x = some c → H c = none
  pin : ∀ p ∈ X.pn ++ pins, s.heap.get? p.1 = some p.2 ∧ H p.1 = none ∧ p.1 ≠ X.env.locals ∧ p.1 ∉ X.fs ∧ ∀ v, p.2.data ≠ .cell v
  hok : HOk X.prog X.w H s.heap
  len : σ.length = X.N.length

section
variable {X : Cx} {pins : List (Addr × Obj)} {σ : List (Option V)} {H H' : Hp} {s : Shared} {h' : Heap}

theorem Cx.Ok.nofr (ok : X.Ok) {b : Addr} {o : Obj} (e : X.base.get? b = some o) : b ∉ X.fs := fun hb => by
  have := (ok.funs.mem hb).1
  rw [e] at this; cases this
theorem Inv.bs (I : Inv X pins σ H s) : ∀ b o, X.base.get? b = some o → s.heap.get? b = some o ∧ H b = none := fun b o e =>
  ⟨I.base.keep b o (I.ok.bs b o e).1 (I.ok.bs b o e).2 (I.ok.nofr e) (I.ok.noex b o e), I.base.free b o (I.ok.bs b o e).1 (I.ok.bs b o e).2 (I.ok.noex b o e)⟩
theorem Inv.bk (I : Inv X pins σ H s) : ∀ b o, X.base.get? b = some o → s.heap.get? b = some o := fun b o e => (I.bs b o e).1
theorem Inv.mod (I : Inv X pins σ H s) : Mod X.K X.mg X.base := I.ok.mod
theorem Inv.kIn (I : Inv X pins σ H s) : X.K.In s.heap := I.ok.mod.kin.keeps I.bk
theorem Inv.lt (I : Inv X pins σ H s) : X.env.locals < s.heap.objs.size := let ⟨_, hn, _⟩ := I.loc; hn.lt
theorem Inv.sz (I : Inv X pins σ H s) : X.s₀.heap.objs.size ≤ s.heap.objs.size := Nat.le_trans I.ok.above (Nat.le_of_lt I.lt)
theorem Inv.nofs (I : Inv X pins σ H s) {a : Addr} (h : s.heap.objs.size ≤ a) : a ∉ X.fs := fun hb => by
  obtain ⟨_, o, ho, _⟩ := I.ok.funs.mem hb
  exact absurd (Nat.lt_of_lt_of_le (Heap.lt_size ho) (Nat.le_trans I.sz h)) (Nat.lt_irrefl _)
theorem Inv.cne (I : Inv X pins σ H s) : ∀ x c, X.env.cells.lookup x = some c → c ≠ X.env.locals := fun x c e z => by
  obtain ⟨v, o, ho, hd⟩ := I.cell x c e
  obtain ⟨m, ⟨o', es, ep, ho', hd', _⟩, _⟩ := I.loc
  rw [z, ho'] at ho; cases ho; rw [hd'] at hd; cases hd
theorem Inv.funs (I : Inv X pins σ H s) : s.heap.FunFrames X.base X.outer := by
  have all : ∀ (l : List Env), (∀ b ∈ frs l, b ∈ X.fs) → X.s₀.heap.FunFrames X.base l → s.heap.FunFrames X.base l := by
    intro l
    induction l with
    | nil => intro _ _; trivial
    | cons env r ih =>
      intro hs hl
      obtain ⟨hk, ⟨L, o, hf, hn, ho, hd⟩, hr⟩ := hl
      have hL : L ∈ X.fs := hs L (by unfold frs; rw [List.filterMap_cons, hf]; exact List.mem_cons_self)
      obtain ⟨sl, e⟩ := I.base.slot L o ho (I.ok.frf L hL) hL fun z => I.ok.exfs L z hL
      exact ⟨hk, ⟨L, _, hf, hn, e, hd⟩, ih (fun b hb => hs b (by unfold frs; rw [List.filterMap_cons, hf]; exact List.mem_cons_of_mem _ hb)) hr⟩
  exact all X.outer (fun _ hb => hb) I.ok.funs

theorem Inv.stack (I : Inv X pins σ H s) : s.heap.FunFrames X.base X.stack := by
  rcases I.ok.stk with e | ⟨e, hf⟩
  · rw [e]; exact I.funs
  · rw [e]
    obtain ⟨m, hn, _⟩ := I.loc
    refine .cons (by rw [I.ok.kind]; decide) hf hn ?_ I.funs
    exact Heap.get?_none_of_le (Nat.le_trans I.ok.bsz I.ok.above)
theorem Inv.stkSub (I : Inv X pins σ H s) : ∀ b ∈ frs X.stack, b ∈ X.env.locals :: X.fs := fun b hb => by
  rcases I.ok.stk with e | ⟨e, hf⟩
  · rw [e] at hb; exact List.mem_cons_of_mem _ hb
  · rw [e] at hb
    unfold frs at hb
    rw [List.filterMap_cons, hf] at hb
    exact hb
theorem Inv.stkFree (I : Inv X pins σ H s) : ∀ b ∈ frs X.stack, H b = none := fun b hb => by
  rcases List.mem_cons.mp (I.stkSub b hb) with e | hb
  · rw [e]; exact I.free
  · obtain ⟨_, o, ho, _⟩ := I.ok.funs.mem hb
    exact I.base.free b o ho (I.ok.frf b hb) fun z => I.ok.exfs b z hb

theorem Inv.step {g' : Array GenState} {t' : Nat} {d' : Drawn} {ch : List Addr} (I : Inv X pins σ H s)
    (hch : ∀ b ∈ ch, (b ∈ X.ex ∨ X.s₀.heap.objs.size ≤ b) ∧ b ≠ X.env.locals ∧ (∀ x c, X.env.cells.lookup x = some c → c ≠ b) ∧ ∀ p ∈ X.pn ++ pins, p.1 ≠ b)
    (keep : ∀ b o, b ≠ X.env.locals → b ∉ X.fs → b ∉ ch → s.heap.get? b = some o → H b = none → h'.get? b = some o)
    (slot : ∀ b o, b ≠ X.env.locals → b ∈ X.fs → b ∉ ch → s.heap.get? b = some o → H b = none → ∃ sl, h'.get? b = some { o with slots := sl }) (free : ∀ b o, b ∉ ch → s.heap.get? b = some o → H b = none → H' b = none)
    (there : ∀ b o, b ∉ ch → s.heap.get? b = some o → ∃ o', h'.get? b = some o')
    (tups : ∀ b xs, H b = some (.tup xs) → H' b = some (.tup xs)) (frzs : ∀ b o u, H b = some (.frz o u) → H' b = some (.frz o u)) (tbls : ∀ b ps, H b = some (.tbl ps) → ∃ more, H' b = some (.tbl (ps ++ more)))
    (ns : ∀ m, s.heap.Ns X.env.locals m → h'.Ns X.env.locals m) (hok : HOk X.prog X.w H' h') (hg : AllBare g') :
    Inv X pins σ H' { s with heap := h', gens := g', drawn := d', toks := t' } := by
  have neL : ∀ b o, X.s₀.heap.get? b = some o → b ≠ X.env.locals := fun b o e => Nat.ne_of_lt (Nat.lt_of_lt_of_le (Heap.lt_size e) I.ok.above)
  have neC : ∀ b o, X.s₀.heap.get? b = some o → b ∉ X.ex → b ∉ ch := fun b o e hx hb => by
    rcases (hch b hb).1 with z | z
    · exact hx z
    · exact absurd (Nat.lt_of_lt_of_le (Heap.lt_size e) z) (Nat.lt_irrefl _)
  have cellK : ∀ x c, X.env.cells.lookup x = some c → ∀ v, s.heap.IsCell c v → h'.IsCell c v := fun x c e v ⟨o, ho, hd⟩ => by
    have nch : c ∉ ch := fun z => (hch c z).2.2.1 x c e rfl
    by_cases hc : c ∈ X.fs
    · obtain ⟨sl, q⟩ := slot c o (I.cne x c e) hc nch ho (I.freeC x c e)
      exact ⟨_, q, hd⟩
    · exact ⟨o, keep c o (I.cne x c e) hc nch ho (I.freeC x c e), hd⟩
  refine ⟨I.ok, I.os, hg, ⟨fun b o e n hb hx => ?_, fun b o e n hb hx => ?_, fun b o e n hx => ?_, fun b o e hx => ?_, fun b xs e => tups b xs (I.base.tups b xs e), fun b o xs e => frzs b o xs (I.base.frzs b o xs e), fun b ps e => ?_⟩, ?_, fun x c e => ?_, ?_, fun x c e => ?_, fun p hp => ?_, hok, I.len⟩
  · exact keep b o (neL b o e) hb (neC b o e hx) (I.base.keep b o e n hb hx) (I.base.free b o e n hx)
  · obtain ⟨sl, e1⟩ := I.base.slot b o e n hb hx
    obtain ⟨sl', e2⟩ := slot b _ (neL b o e) hb (neC b o e hx) e1 (I.base.free b o e n hx)
    exact ⟨sl', e2⟩
  · obtain ⟨o', e1⟩ := I.base.there b o e hx
    exact free b o' (neC b o e hx) e1 (I.base.free b o e n hx)
  · obtain ⟨o', e1⟩ := I.base.there b o e hx
    exact there b o' (neC b o e hx) e1
  · obtain ⟨m1, e1⟩ := I.base.tbls b ps e
    obtain ⟨m2, e2⟩ := tbls b _ e1
    exact ⟨m1 ++ m2, by rw [e2, Array.append_assoc]⟩
  · obtain ⟨m, hn, hl⟩ := I.loc
    refine ⟨m, ns m hn, fun i x v e1 e2 e3 => ?_⟩
    obtain ⟨u, r, l⟩ := hl i x v e1 e2 e3
    refine ⟨u, r, ?_⟩
    rcases l with l | ⟨k, c, e, z⟩
    · exact .inl l
    · exact .inr ⟨k, c, e, cellK x c e _ z⟩
  · obtain ⟨v, z⟩ := I.cell x c e
    exact ⟨v, cellK x c e v z⟩
  · obtain ⟨m, ⟨o, _, _, ho, _⟩, _⟩ := I.loc
    exact free _ o (fun z => (hch _ z).2.1 rfl) ho I.free
  · obtain ⟨v, o, ho, hd⟩ := I.cell x c e
    exact free c o (fun z => (hch c z).2.2.1 x c e rfl) ho (I.freeC x c e)
  · obtain ⟨e, n, ne, nf, d⟩ := I.pin p hp
    have nch : p.1 ∉ ch := fun z => (hch p.1 z).2.2.2 p hp rfl
    exact ⟨keep p.1 p.2 ne nf nch e n, free p.1 p.2 nch e n, ne, nf, d⟩
theorem Inv.un {t' : Nat} (I : Inv X pins σ H s) (u : Un X.fs [] H H' s.heap h') (hok : HOk X.prog X.w H' h') : Inv X pins σ H' { s with heap := h', toks := t' } := by
  obtain ⟨m, ⟨o, es, ep, ho, r⟩, _⟩ := id I.loc
  obtain ⟨sl, hL⟩ := u.any ho I.free (by simp)
  exact I.step (g' := s.gens) (d' := s.drawn) (ch := []) (fun _ z => nomatch z) (fun b o _ hb _ e n => u.keep b o e n hb (by simp)) (fun b o _ hb _ e n => u.slot b o e n hb (by simp)) (fun b o _ e n => u.free b o e n (by simp)) (fun b o _ e => u.there b o e (by simp)) u.tups u.frzs u.tbls (fun m' hm => by
    obtain ⟨o', es', ep', ho', r'⟩ := hm
    rw [ho] at ho'; cases ho'
    exact ⟨_, es', ep', hL, r'⟩) hok I.bare
theorem Inv.call {g' : Array GenState} {t' : Nat} {d' : Drawn} {ch : List Addr} (I : Inv X pins σ H s) (u : Un (frs X.stack) ch H H' s.heap h') (hok : HOk X.prog X.w H' h') (hg : AllBare g')
    (hch : ∀ b ∈ ch, (b ∈ X.ex ∨ X.s₀.heap.objs.size ≤ b) ∧ b ≠ X.env.locals ∧ (∀ x c, X.env.cells.lookup x = some c → c ≠ b) ∧ ∀ p ∈ X.pn ++ pins, p.1 ≠ b) :
    Inv X pins σ H' { s with heap := h', gens := g', drawn := d', toks := t' } := by
  obtain ⟨m, ⟨o, es, ep, ho, r⟩, _⟩ := id I.loc
  obtain ⟨sl, hL⟩ := u.any ho I.free fun z => (hch _ z).2.1 rfl
  exact I.step (ch := ch) hch (fun b o hL hb hc e n => u.keep b o e n (fun z => (List.mem_cons.mp (I.stkSub b z)).elim hL hb) hc) (fun b o _ _ hc e n => u.any e n hc) (fun b o hc e n => u.free b o e n hc) (fun b o hc e => u.there b o e hc) u.tups u.frzs u.tbls (fun m' hm => by
    obtain ⟨o', es', ep', ho', r'⟩ := hm
    rw [ho] at ho'; cases ho'
    exact ⟨_, es', ep', hL, r'⟩) hok hg
theorem Inv.turned {t' : Nat} {it : Addr} (I : Inv X pins σ H s) (k : ∀ b o, b ≠ it → s.heap.get? b = some o → h'.get? b = some o) (hn : H it = none) (hL : it ≠ X.env.locals)
    (h1 : it ∈ X.ex ∨ X.s₀.heap.objs.size ≤ it) (h2 : ∀ x c, X.env.cells.lookup x = some c → c ≠ it) (h3 : ∀ p ∈ X.pn ++ pins, p.1 ≠ it) : Inv X pins σ H { s with heap := h', toks := t' } := by
  have nit : ∀ b u, H b = some u → b ≠ it := fun b u e z => by rw [z, hn] at e; cases e
  refine I.step (g' := s.gens) (d' := s.drawn) (ch := [it]) (fun b hb => ?_) (fun b o _ _ hc e _ => k b o (fun z => hc (by simp [z])) e) (fun b o _ _ hc e _ => ⟨o.slots, k b o (fun z => hc (by simp [z])) e⟩) (fun _ _ _ _ n => n)
    (fun b o hc e => ⟨o, k b o (fun z => hc (by simp [z])) e⟩) (fun _ _ e => e) (fun _ _ _ e => e) (fun b ps e => ⟨#[], by rw [e]; simp⟩) (fun m hm => ?_) (fun b u e => ?_) I.bare
  · have e : b = it := by simpa using hb
    subst e
    exact ⟨h1, hL, h2, h3⟩
  · obtain ⟨o, es, ep, ho, r⟩ := hm
    exact ⟨o, es, ep, k _ o (Ne.symm hL) ho, r⟩
  · refine (I.hok b u e).stay (fun c v hc q => k c v ?_ q) (fun _ q => q) fun _ _ q => q
    rcases hc with z | z
    · rw [z]; exact nit b u e
    · exact nit c _ z
theorem Inv.tok (I : Inv X pins σ H s) (t : Nat) : Inv X pins σ H { s with toks := t } := I.un (h' := s.heap) (t' := t) Un.refl I.hok
theorem Inv.kept {t' : Nat} (I : Inv X pins σ H s) (k : ∀ b u, s.heap.get? b = some u → h'.get? b = some u) : Inv X pins σ H { s with heap := h', toks := t' } := I.un (Un.kept k) (I.hok.kept k)
theorem Inv.laid {a : Addr} {o : HO} {t' : Nat} (I : Inv X pins σ H s) (k : ∀ b u, s.heap.get? b = some u → h'.get? b = some u) (hp : s.heap.objs.size ≤ a) (new : ObjOk X.prog X.w (upd H a o) h' a o) :
    Inv X pins σ (upd H a o) { s with heap := h', toks := t' } := I.un (Un.laid k hp (I.hok.fresh hp)) (I.hok.laid k hp new)
theorem Inv.write {x e : Addr} {o : HO} {t' : Nat} (I : Inv X pins σ H s) (mu : Mut (H x)) (he : e = x ∨ H e = some (.own x)) (k : ∀ b u, b ≠ e → s.heap.get? b = some u → h'.get? b = some u) (heo : ∃ u, h'.get? e = some u)
    (new : ObjOk X.prog X.w (upd H x o) h' x o) : Inv X pins σ (upd H x o) { s with heap := h', toks := t' } := I.un (Un.write mu he k heo) (I.hok.write mu he k heo new)
theorem Inv.pins_of {pins' : List (Addr × Obj)} (I : Inv X pins σ H s) (h : ∀ p ∈ pins', s.heap.get? p.1 = some p.2 ∧ H p.1 = none ∧ p.1 ≠ X.env.locals ∧ p.1 ∉ X.fs ∧ ∀ v, p.2.data ≠ .cell v) : Inv X pins' σ H s :=
  ⟨I.ok, I.os, I.bare, I.base, I.loc, I.cell, I.free, I.freeC, fun p hp => (List.mem_append.mp hp).elim (fun z => I.pin p (List.mem_append_left _ z)) (h p), I.hok, I.len⟩

theorem nodup_ix {N : List Str} (hN : N.Nodup) {i j : Nat} {x : Str} (a : N[i]? = some x) (b : N[j]? = some x) : i = j := by
  obtain ⟨h1, e1⟩ := List.getElem?_eq_some_iff.mp a
  obtain ⟨h2, e2⟩ := List.getElem?_eq_some_iff.mp b
  exact (List.getElem_inj hN).mp (e1.trans e2.symm)

theorem store_ok2 {M : Model} {A : Around} {E : Value → Shared → Prop} {i : Nat} {x : Str} {v : V} {u : Value} {Q : Unit → Shared → Prop} (I : Inv X pins σ H s) (hN : X.N.Nodup) (hi : X.N[i]? = some x) (hx : Loc X.env.scope x) (r : RelV v u)
    (h : ∀ s', Inv X pins (σ.set i (some v)) H s' → (∃ a, Heap.SameBut a s.heap s'.heap ∧ (a = X.env.locals ∨ X.env.cells.lookup x = some a)) → Q () s') (hf : X.fn x = true ∨ X.env.scope.names.lookup x = some .local := by first | exact .inl rfl | exact .inr rfl | assumption) : wpAny M A (storeName X.env x u) Q E s := by
  obtain ⟨m, hn, hl⟩ := id I.loc
  have hcls : (X.env.scope.kind == .class || (X.env.scope.kind == .module && X.env.locals != X.env.globals)) = false := by rw [I.ok.kind]; rfl
  have hiσ : i < σ.length := by rw [I.len]; exact (List.getElem?_eq_some_iff.mp hi).1
  have cne := I.cne
  have tracked : ∀ {a : Addr} {h' : Heap}, (∃ o, s.heap.get? a = some o ∧ H a = none) → Heap.SameBut a s.heap h' → HOk X.prog X.w H h' := fun {a h'} ha hs b ob e => by
    obtain ⟨_, _, hfree⟩ := ha
    refine (I.hok b ob e).stay (fun c w' hc q => (hs.2 c ?_).trans q) (fun _ q => q) fun _ _ q => q
    rintro rfl
    rcases hc with rfl | hc
    · rw [hfree] at e; cases e
    · rw [hfree] at hc; cases hc
  rcases hx with hk | hk
  · refine wpAny_storeName_local hk hn (fun h' hn' hs => ?_) hcls
    obtain ⟨oL, _, _, hoL, _⟩ := id hn
    refine h _ ⟨I.ok, I.os, I.bare, ⟨fun b o e n hb hx => ?_, fun b o e n hb hx => ?_, I.base.free, fun b o e hx => ?_, I.base.tups, I.base.frzs, I.base.tbls⟩, ⟨_, hn', fun j y v' e1 e2 e3 => ?_⟩, fun y c e => ?_, I.free, I.freeC, fun p hp => ?_, tracked ⟨oL, hoL, I.free⟩ hs, by simpa using I.len⟩ ⟨_, hs, .inl rfl⟩
    · exact (hs.2 b (Nat.ne_of_lt (Nat.lt_of_lt_of_le (Heap.lt_size e) I.ok.above))).trans (I.base.keep b o e n hb hx)
    · obtain ⟨sl, e1⟩ := I.base.slot b o e n hb hx
      exact ⟨sl, (hs.2 b (Nat.ne_of_lt (Nat.lt_of_lt_of_le (Heap.lt_size e) I.ok.above))).trans e1⟩
    · obtain ⟨o', e1⟩ := I.base.there b o e hx
      exact ⟨o', (hs.2 b (Nat.ne_of_lt (Nat.lt_of_lt_of_le (Heap.lt_size e) I.ok.above))).trans e1⟩
    · by_cases hj : j = i
      · subst hj
        rw [hi] at e1; cases e1
        rw [List.getElem?_set_self hiσ] at e2
        cases e2
        exact ⟨u, r, .inl ⟨hk, by simp⟩⟩
      · rw [List.getElem?_set_ne (Ne.symm hj)] at e2
        obtain ⟨u', r', q⟩ := hl j y v' e1 e2 e3
        refine ⟨u', r', ?_⟩
        rcases q with ⟨k, e⟩ | ⟨k, c, e, z⟩
        · refine .inl ⟨k, ?_⟩
          have : y ≠ x := fun e => hj (nodup_ix hN e1 (e ▸ hi))
          simp [this, e]
        · exact .inr ⟨k, c, e, z.sameBut hs (cne y c e)⟩
    · obtain ⟨w', z⟩ := I.cell y c e
      exact ⟨w', z.sameBut hs (cne y c e)⟩
    · obtain ⟨e, n, ne, nf, d⟩ := I.pin p hp
      exact ⟨(hs.2 p.1 ne).trans e, n, ne, nf, d⟩
  · have hfn : X.fn x = true := by
      rcases hf with z | z
      · exact z
      · rw [z] at hk; cases hk
    obtain ⟨c, hc⟩ := I.ok.has x (.inl hk)
    obtain ⟨w', z⟩ := I.cell x c hc
    refine wpAny_storeName_cell I.ok.kind hk hc z (fun h' hc' hs => ?_)
    obtain ⟨oc, hoc, hocd⟩ := id z
    refine h { s with heap := h' } ⟨I.ok, I.os, I.bare, ⟨fun b o e n hb hx => ?_, fun b o e n hb hx => ?_, I.base.free, fun b o e hx => ?_, I.base.tups, I.base.frzs, I.base.tbls⟩, ⟨m, hn.sameBut hs (Ne.symm (cne x c hc)), fun j y v' e1 e2 e3 => ?_⟩, fun y c' e => ?_, I.free, I.freeC, fun p hp => ?_, tracked ⟨oc, hoc, I.freeC x c hc⟩ hs, by simpa using I.len⟩ ⟨c, hs, .inr hc⟩
    · exact (hs.2 b (Nat.ne_of_lt (Nat.lt_of_lt_of_le (Heap.lt_size e) (I.ok.cab x c hfn hc)))).trans (I.base.keep b o e n hb hx)
    · obtain ⟨sl, e1⟩ := I.base.slot b o e n hb hx
      exact ⟨sl, (hs.2 b (Nat.ne_of_lt (Nat.lt_of_lt_of_le (Heap.lt_size e) (I.ok.cab x c hfn hc)))).trans e1⟩
    · obtain ⟨o', e1⟩ := I.base.there b o e hx
      exact ⟨o', (hs.2 b (Nat.ne_of_lt (Nat.lt_of_lt_of_le (Heap.lt_size e) (I.ok.cab x c hfn hc)))).trans e1⟩
    · by_cases hj : j = i
      · subst hj
        rw [hi] at e1; cases e1
        rw [List.getElem?_set_self hiσ] at e2
        cases e2
        exact ⟨u, r, .inr ⟨.inl hk, c, hc, hc'⟩⟩
      · rw [List.getElem?_set_ne (Ne.symm hj)] at e2
        obtain ⟨u', r', q⟩ := hl j y v' e1 e2 e3
        refine ⟨u', r', ?_⟩
        rcases q with q | ⟨k, c', e, z'⟩
        · exact .inl q
        · refine .inr ⟨k, c', e, z'.sameBut hs ?_⟩
          rintro rfl
          exact hj (nodup_ix hN e1 (I.ok.inj _ _ _ e hc ▸ hi))
    · by_cases hcc : c' = c
      · subst hcc; exact ⟨_, hc'⟩
      · obtain ⟨w2, z2⟩ := I.cell y c' e
        exact ⟨w2, z2.sameBut hs hcc⟩
    · obtain ⟨e, n, ne, nf, d⟩ := I.pin p hp
      refine ⟨(hs.2 p.1 ?_).trans e, n, ne, nf, d⟩
      intro q
      rw [q, hoc] at e
      have q' : oc = p.2 := Option.some.inj e
      exact d w' (by rw [← q']; exact hocd)
theorem store_ok {M : Model} {A : Around} {E : Value → Shared → Prop} {i : Nat} {x : Str} {v : V} {u : Value} {Q : Unit → Shared → Prop} (I : Inv X pins σ H s) (hN : X.N.Nodup) (hi : X.N[i]? = some x) (hx : Loc X.env.scope x) (r : RelV v u)
    (h : ∀ s', Inv X pins (σ.set i (some v)) H s' → Q () s') (hf : X.fn x = true ∨ X.env.scope.names.lookup x = some .local := by first | exact .inl rfl | exact .inr rfl | assumption) : wpAny M A (storeName X.env x u) Q E s :=
  store_ok2 I hN hi hx r (fun s' I' _ => h s' I') hf
theorem Inv.call' {s' : Shared} {ch : List Addr} (I : Inv X pins σ H s) (ho : s'.os = s.os) (u : Un (frs X.stack) ch H H' s.heap s'.heap) (hok : HOk X.prog X.w H' s'.heap) (hg : AllBare s'.gens)
    (hch : ∀ b ∈ ch, (b ∈ X.ex ∨ X.s₀.heap.objs.size ≤ b) ∧ b ≠ X.env.locals ∧ (∀ x c, X.env.cells.lookup x = some c → c ≠ b) ∧ ∀ p ∈ X.pn ++ pins, p.1 ≠ b) : Inv X pins σ H' s' := by
  obtain ⟨h', g', d', t', o'⟩ := s'
  have e : o' = s.os := ho
  subst e
  exact I.call (g' := g') (t' := t') (d' := d') u hok hg hch
end

noncomputable abbrev XK := Value → Option Addr → Hp → Prop
noncomputable abbrev St := List (Option V)
noncomputable abbrev VK := V → Hp → Prop
noncomputable abbrev TE := St → Hp → VK → Prop
noncomputable abbrev TT := St → Hp → (Bool → Hp → Prop) → Prop
noncomputable abbrev TA := St → Hp → (List V → Hp → Prop) → Prop
structure Ends where
  nx : St → Hp → Prop
  rt : VK
  bk : St → Hp → Prop := fun _ _ => False
  ct : St → Hp → Prop := fun _ _ => False
noncomputable abbrev TS := Ends → St → Hp → Prop

noncomputable def EP (X : Cx) (pins : List (Addr × Obj)) (σ : St) (Q : VK) (u : Value) (s' : Shared) : Prop := ∃ v H', Inv X pins σ H' s' ∧ RelV v u ∧ Q v H'
noncomputable def TP (X : Cx) (pins : List (Addr × Obj)) (σ : St) (Q : Bool → Hp → Prop) (b : Bool) (s' : Shared) : Prop := ∃ H', Inv X pins σ H' s' ∧ Q b H'
noncomputable def AP (X : Cx) (pins : List (Addr × Obj)) (σ : St) (Q : List V → Hp → Prop) (us : List Value) (s' : Shared) : Prop := ∃ vs H', Inv X pins σ H' s' ∧ Vals vs us ∧ Q vs H'
noncomputable def SP (X : Cx) (pins : List (Addr × Obj)) (D : Ends) (f : Flow) (s' : Shared) : Prop :=
  match f with
  | .next => ∃ σ' H', Inv X pins σ' H' s' ∧ D.nx σ' H'
  | .brk => ∃ σ' H', Inv X pins σ' H' s' ∧ D.bk σ' H'
  | .cont => ∃ σ' H', Inv X pins σ' H' s' ∧ D.ct σ' H'
  | .ret u => ∃ v σ' H', Inv X pins σ' H' s' ∧ RelV v u ∧ D.rt v H'

noncomputable def PE (X : Cx) (e : Expr) (t : TE) : Prop :=
  ∀ (pins : List (Addr × Obj)) (s : Shared) (σ : St) (H : Hp) (Q : VK), Inv X pins σ H s → t σ H Q → wpAny (model X.prog X.w) X.A (eval e X.env) (EP X pins σ Q) X.xe s
noncomputable def PT (X : Cx) (e : Expr) (t : TT) : Prop :=
  ∀ (pins : List (Addr × Obj)) (s : Shared) (σ : St) (H : Hp) (Q : Bool → Hp → Prop), Inv X pins σ H s → t σ H Q → wpAny (model X.prog X.w) X.A (isTrue e X.env (eval e X.env)) (TP X pins σ Q) X.xe s
noncomputable def PW (X : Cx) (e : Expr) (t : TT) : Prop :=
  ∀ (whole : Sem Value) (pins : List (Addr × Obj)) (s : Shared) (σ : St) (H : Hp) (Q : Bool → Hp → Prop), Inv X pins σ H s → t σ H Q → wpAny (model X.prog X.w) X.A (isTrue e X.env whole) (TP X pins σ Q) X.xe s
theorem PW.pt {X : Cx} {e : Expr} {t : TT} (h : PW X e t) : PT X e t := h _
noncomputable def PA (X : Cx) (es : List Expr) (t : TA) : Prop :=
  ∀ (pos : Pos) (pins : List (Addr × Obj)) (s : Shared) (σ : St) (H : Hp) (Q : List V → Hp → Prop), Inv X pins σ H s → t σ H Q → wpAny (model X.prog X.w) X.A (spliced (backTo pos (starEach es X.env))) (AP X pins σ Q) X.xe s
noncomputable def PS (X : Cx) (st : Stmt) (t : TS) : Prop :=
  ∀ (pins : List (Addr × Obj)) (s : Shared) (σ : St) (H : Hp) (D : Ends), Inv X pins σ H s → t D σ H → wpAny (model X.prog X.w) X.A (exec st X.env) (SP X pins D) X.xe s
noncomputable def PSs (X : Cx) (st : List Stmt) (t : TS) : Prop :=
  ∀ (pins : List (Addr × Obj)) (s : Shared) (σ : St) (H : Hp) (D : Ends), Inv X pins σ H s → t D σ H → wpAny (model X.prog X.w) X.A (execs st X.env) (SP X pins D) X.xe s
theorem thn {α : Type} {t : Sem α} {Q Q' : α → Shared → Prop} {M : Model} {A : Around} {E : Value → Shared → Prop} {s : Shared} (h : wpAny M A t Q E s) (hQ : ∀ a s, Q a s → Q' a s) : wpAny M A t Q' E s := wpAny_mono h hQ fun _ _ x => x
end L2

namespace L2
open PySem PySem.Spec PyProof.Rows
section
variable {X : Cx}


inductive TVar (i : Nat) (σ : St) (H : Hp) (Q : VK) : Prop
  | mk (v : V) (e : σ[i]? = some (some v)) (q : Q v H) : TVar i σ H Q
noncomputable def tVar (i : Nat) : TE := fun σ H Q => TVar i σ H Q
noncomputable def tC (v : V) : TE := fun _ H Q => Q v H
theorem pe_var {i : Nat} {x : Str} {pos : Pos} (hN : X.N[i]? = some x) (hv : Vis X.env.scope x) (hd : (x == ("__debug__" : Str)) = false := by decide) (hcd : (x == ("__classdict__" : Str)) = false := by decide) : PE X (.Name x pos) (tVar i) := by
  intro pins s σ H Q I h
  obtain ⟨v, e, h⟩ := h
  obtain ⟨m, hn, hl⟩ := I.loc
  obtain ⟨u, r, l⟩ := hl i x v hN e hv
  have fin : EP X pins σ Q u s := ⟨v, H, I, r, h⟩
  rcases l with ⟨hk, hm⟩ | ⟨hk, c, hc, hcell⟩
  · exact wpAny_Name (wpAny_loadName_local I.ok.kind hk hn hm fin) hd
  · rcases hk with hk | hk
    · exact wpAny_Name (wpAny_loadName_cell I.ok.kind hk hc hcell fin) hd
    · exact wpAny_Name (wpAny_loadName_free I.ok.kind hk hc hcell fin hcd) hd
theorem pe_int {i j pos} : PE X (.Constant (.int i) j pos) (tC (.int i)) := fun _ _ _ H _ I h => wpAny_Constant_int ⟨.int i, H, I.tok _, ⟨_, rfl⟩, h⟩
theorem pe_bl {b j pos} : PE X (.Constant (.bool b) j pos) (tC (.bl b)) := fun _ _ _ H _ I h => Constant_bool ⟨.bl b, H, I, rfl, h⟩
theorem pe_str {x j pos} : PE X (.Constant (.str x) j pos) (tC (.str x)) := fun _ _ _ H _ I h => Calls.Constant_str ⟨.str x, H, I.tok _, ⟨_, rfl⟩, h⟩

noncomputable def Gl (X : Cx) (x : Str) : Prop := X.env.kindOf x = some .globalImplicit
theorem ld_glob {E : Value → Shared → Prop} {pins : List (Addr × Obj)} {s : Shared} {σ : St} {H : Hp} {x : Str} {u : Value} {pos : Pos} {Q : Value → Shared → Prop} (I : Inv X pins σ H s) (hg : Gl X x) (hm : X.mg x = some u) (h : Q u s)
    (hd : (x == ("__debug__" : Str)) = false := by decide) : wpAny (model X.prog X.w) X.A (eval (.Name x pos) X.env) Q E s :=
  Calls.Name_function_global I.ok.kind hg (Calls.loadGlobal_global (by rw [I.ok.glob]; exact I.mod.glob.keeps I.bk) hm h) hd
theorem ld_blt {E : Value → Shared → Prop} {pins : List (Addr × Obj)} {s : Shared} {σ : St} {H : Hp} {x : Str} {u : Value} {pos : Pos} {Q : Value → Shared → Prop} (I : Inv X pins σ H s) (hg : Gl X x) (hm : X.mg x = none) (hv : bootBuiltins x = some u) (h : Q u s)
    (hn : x ≠ "__name__" := by decide) (hd : (x == ("__debug__" : Str)) = false := by decide) : wpAny (model X.prog X.w) X.A (eval (.Name x pos) X.env) Q E s := by
  obtain ⟨mb, h1, h2⟩ := I.mod.blt
  exact Calls.Name_function_global I.ok.kind hg (Calls.loadGlobal_builtin (by rw [I.ok.glob]; exact I.mod.glob.keeps I.bk) hm (by rw [I.ok.blt]; exact h1.keeps I.bk) ((h2 x hn).trans hv) h) hd
theorem pe_bltn {x : Str} {v : V} {u : Value} {pos : Pos} (hg : Gl X x) (hm : X.mg x = none) (hv : bootBuiltins x = some u) (r : RelV v u) (hn : x ≠ "__name__" := by decide) (hd : (x == ("__debug__" : Str)) = false := by decide) : PE X (.Name x pos) (tC v) :=
  fun _ _ _ H _ I h => ld_blt I hg hm hv ⟨v, H, I, r, h⟩ hn hd

variable {a b : Expr} {ta tb : TE} {pos : Pos}

noncomputable def PC (X : Cx) (op : CmpOp) (a b : Expr) (t : TE) : Prop :=
  ∀ (pins : List (Addr × Obj)) (s : Shared) (σ : St) (H : Hp) (Q : VK), Inv X pins σ H s → t σ H Q →
    wpAny (model X.prog X.w) X.A (eval a X.env) (fun v s₁ => wpAny (model X.prog X.w) X.A (eval b X.env) (fun u s₂ => wpAny (model X.prog X.w) X.A (compareOp op v u) (EP X pins σ Q) X.xe s₂) X.xe s₁) X.xe s
inductive J_tB (Q : Bool → Hp → Prop) (x : V) (H1 : Hp) : Prop
  | mk : ∀ c, (x = .bl c) → (Q c H1) → J_tB Q x H1
noncomputable def tB (t : TE) : TT := fun σ H Q => t σ H fun x H1 => J_tB Q x H1
theorem pt_cmp {op : CmpOp} {t : TE} (h : PC X op a b t) (h1 : behindInMarks op b = false := by first | exact nobehind _ (by decide) (by decide) | rfl) : PT X (.Compare a [op] [b] pos) (tB t) := by
  intro pins s σ H Q I hw
  refine wpAny_isTrue_Compare1 (thn (h pins s σ H _ I hw) fun v s1 h1 => thn h1 fun u s2 h2 => thn h2 fun c s3 ⟨x, H1, I1, r1, q1⟩ => ?_) h1
  obtain ⟨d, rfl, q⟩ := q1
  cases r1
  exact wpAny_truthy_bool ⟨H1, I1, q⟩
theorem pt_val {e : Expr} {t : TE} (h : PE X e t) (he : ∀ whole, isTrue e X.env whole = (do let v ← whole; standAt e.pos; holding [v] (truthy v)) := by intro _; rfl) : PT X e (tB t) := by
  intro pins s σ H Q I hw
  refine isTrue_plain (thn (h pins s σ H _ I hw) fun v s1 ⟨x, H1, I1, r1, q1⟩ => ?_) (he _)
  obtain ⟨d, rfl, q⟩ := q1
  cases r1
  exact wpAny_truthy_bool ⟨H1, I1, q⟩

variable {tA tB' : TT} {rest : List Expr}
noncomputable def tOr (t u : TT) : TT := fun σ H Q => t σ H fun c H1 => if c = true then Q true H1 else u σ H1 Q
noncomputable def tNot (t : TT) : TT := fun σ H Q => t σ H fun c H1 => Q (!c) H1
theorem pw_or1 (ha : PT X a tA) : PW X (.BoolOp .Or [a] pos) tA := by
  intro wh pins s σ H Q I h
  refine isTrue_or (thn (ha pins s σ H Q I h) fun c s1 e => ?_)
  cases c with
  | false => exact isTrue_or_nil e
  | true => exact e
theorem pw_or (ha : PT X a tA) (hb : PW X (.BoolOp .Or (b :: rest) pos) tB') : PW X (.BoolOp .Or (a :: b :: rest) pos) (tOr tA tB') := by
  intro wh pins s σ H Q I h
  refine isTrue_or (thn (ha pins s σ H _ I h) fun c s1 ⟨H1, I1, q1⟩ => ?_)
  cases c with
  | true => exact ⟨H1, I1, q1⟩
  | false => exact hb wh pins s1 σ H1 Q I1 q1
theorem pt_not (ha : PT X a tA) : PT X (.UnaryOp .Not a pos) (tNot tA) := by
  intro pins s σ H Q I h
  exact isTrue_not (ha pins s σ H (fun c H1 => Q (!c) H1) I h)
noncomputable def tAndV (ta tb : TE) : TE := fun σ H Q => ta σ H fun x H1 => ∃ c, x = .bl c ∧ if c = true then tb σ H1 Q else Q (.bl false) H1
noncomputable def tOrV (ta tb : TE) : TE := fun σ H Q => ta σ H fun x H1 => ∃ c, x = .bl c ∧ if c = true then Q (.bl true) H1 else tb σ H1 Q
inductive J_tNotV (Q : VK) (x : V) (H1 : Hp) : Prop
  | mk : ∀ c, (x = .bl c) → (Q (.bl (!c)) H1) → J_tNotV Q x H1
noncomputable def tNotV (ta : TE) : TE := fun σ H Q => ta σ H fun x H1 => J_tNotV Q x H1
theorem pe_one {op} {t : TE} (h : PE X a t) : PE X (.BoolOp op [a] pos) t := fun pins s σ H Q I hw => BoolOp_one (h pins s σ H Q I hw)
theorem pe_and (ha : PE X a ta) (hb : PE X (.BoolOp .And (b :: rest) pos) tb) : PE X (.BoolOp .And (a :: b :: rest) pos) (tAndV ta tb) := by
  intro pins s σ H Q I h
  refine BoolOp_and (thn (ha pins s σ H _ I h) fun v s1 ⟨x, H1, I1, r1, q1⟩ => ?_)
  obtain ⟨c, rfl, q1⟩ := q1
  cases r1
  refine wpAny_truthy_bool ?_
  cases c with
  | true => exact hb pins s1 σ H1 Q I1 q1
  | false => exact ⟨.bl false, H1, I1, rfl, q1⟩
theorem pe_or (ha : PE X a ta) (hb : PE X (.BoolOp .Or (b :: rest) pos) tb) : PE X (.BoolOp .Or (a :: b :: rest) pos) (tOrV ta tb) := by
  intro pins s σ H Q I h
  refine BoolOp_or (thn (ha pins s σ H _ I h) fun v s1 ⟨x, H1, I1, r1, q1⟩ => ?_)
  obtain ⟨c, rfl, q1⟩ := q1
  cases r1
  refine wpAny_truthy_bool ?_
  cases c with
  | false => exact hb pins s1 σ H1 Q I1 q1
  | true => exact ⟨.bl true, H1, I1, rfl, q1⟩
theorem pe_not (ha : PE X a ta) : PE X (.UnaryOp .Not a pos) (tNotV ta) := by
  intro pins s σ H Q I h
  refine UnaryOp_ (thn (ha pins s σ H _ I h) fun v s1 ⟨x, H1, I1, r1, q1⟩ => ?_)
  obtain ⟨c, rfl, q1⟩ := q1
  cases r1
  exact not_of (wpAny_truthy_bool ⟨.bl (!c), H1, I1, rfl, q1⟩)
end
end L2

namespace L2
open PySem PySem.Spec PyProof.Rows

noncomputable def SqL (K : PySem.W.Frag) (H : Hp) (a : Addr) (xs : List V) : Prop :=
  Rd H a (.lst xs) ∨
    ∃ (o : Obj) (its : Array Value) (n : Nat), K.lookup a = some o ∧ o.cls = .type "list" ∧ o.dict = none ∧ o.data = .seq its n ∧ its.size ≤ sizeLine ∧ Vals xs its.toList
noncomputable def SqT (K : PySem.W.Frag) (H : Hp) (a : Addr) (xs : List V) : Prop :=
  Rd H a (.tup xs) ∨
    ∃ (o : Obj) (its : Array Value) (n : Nat), K.lookup a = some o ∧ o.cls = .type "tuple" ∧ o.data = .seq its n ∧ its.size ≤ sizeLine ∧ Vals xs its.toList
noncomputable def absV : Value → Option V
  | .none => some .non
  | .bool b => some (.bl b)
  | .int i _ => some (.int i)
  | .str x _ => some (.str x)
  | .bytes b _ => some (.byt b)
  | .float b _ => some (.flt b)
  | .ref a => some (.ref a)
  | .type n => some (.ty n)
  | _ => none
theorem RelV.abs {x : V} {u : Value} (r : RelV x u) : absV u = some x := by
  cases x with
  | non => cases r; rfl
  | bl _ => cases r; rfl
  | int _ => obtain ⟨t, rfl⟩ := r; rfl
  | str _ => obtain ⟨t, rfl⟩ := r; rfl
  | byt _ => obtain ⟨t, rfl⟩ := r; rfl
  | flt _ => obtain ⟨t, rfl⟩ := r; rfl
  | ref _ => cases r; rfl
  | ty _ => cases r; rfl
theorem RelV.inj {x y : V} {u : Value} (r : RelV x u) (q : RelV y u) : x = y := Option.some.inj (r.abs.symm.trans q.abs)
theorem Vals.inj : ∀ {xs ys : List V} {us : List Value}, Vals xs us → Vals ys us → xs = ys
  | _, _, _, .nil, .nil => rfl
  | _, _, _, .cons r t, .cons r' t' => by rw [r.inj r', Vals.inj t t']
section
variable {X : Cx} {pins : List (Addr × Obj)} {σ : St} {H : Hp} {s : Shared} {a : Addr} {xs ys : List V}
theorem SqL.of {K : PySem.W.Frag} (h : H a = some (.lst xs)) : SqL K H a xs := .inl (.inl h)
theorem SqT.of {K : PySem.W.Frag} (h : H a = some (.tup xs)) : SqT K H a xs := .inl (.inl h)
theorem Inv.list (I : Inv X pins σ H s) (h : SqL X.K H a xs) : ∃ its : List Value, Vals xs its ∧ PlainL s.heap a its.toArray ∧ xs.length ≤ sizeLine := by
  rcases h with h | ⟨o, its, n, hk, hc, hd, hs, hz, r⟩
  · obtain ⟨z, its, n, r, e⟩ := h.ok I.hok
    exact ⟨its, r, ⟨_, n, e, rfl, rfl, rfl⟩, z⟩
  · refine ⟨its.toList, r, ⟨o, n, I.kIn a o hk, hc, hd, by simpa using hs⟩, ?_⟩
    have e := r.length
    simp only [Array.length_toList] at e
    omega
theorem Inv.tuple (I : Inv X pins σ H s) (h : SqT X.K H a xs) : ∃ its : List Value, Vals xs its ∧ IsTup s.heap a its.toArray ∧ xs.length ≤ sizeLine := by
  rcases h with h | ⟨o, its, n, hk, hc, hs, hz, r⟩
  · obtain ⟨z, its, r, p⟩ := h.ok I.hok
    exact ⟨its, r, p.tup, z⟩
  · refine ⟨its.toList, r, ⟨o, I.kIn a o hk, hc, n, by simpa using hs⟩, ?_⟩
    have e := r.length
    simp only [Array.length_toList] at e
    omega
theorem Inv.list_inj (I : Inv X pins σ H s) (h : SqL X.K H a xs) (h' : SqL X.K H a ys) : xs = ys := by
  obtain ⟨its, r, ⟨o, n, e, _, _, d⟩, _⟩ := I.list h
  obtain ⟨its', r', ⟨o', n', e', _, _, d'⟩, _⟩ := I.list h'
  rw [e] at e'; cases e'
  rw [d] at d'
  injection d' with d1 _
  have : its = its' := by simpa using congrArg Array.toList d1
  subst this
  exact r.inj r'
theorem Inv.tuple_inj (I : Inv X pins σ H s) (h : SqT X.K H a xs) (h' : SqT X.K H a ys) : xs = ys := by
  obtain ⟨its, r, ⟨o, e, _, n, d⟩, _⟩ := I.tuple h
  obtain ⟨its', r', ⟨o', e', _, n', d'⟩, _⟩ := I.tuple h'
  rw [e] at e'; cases e'
  rw [d] at d'
  injection d' with d1 _
  have : its = its' := by simpa using congrArg Array.toList d1
  subst this
  exact r.inj r'
end

noncomputable abbrev Cx.wish (X : Cx) (E : Value → Shared → Prop) : Cx := { X with xe := E }
noncomputable abbrev Cx.nox (X : Cx) : Cx := X.wish fun _ _ => False
theorem Cx.Ok.wish {X : Cx} (ok : X.Ok) (E : Value → Shared → Prop) : (X.wish E).Ok :=
  ⟨ok.mod, ok.kind, ok.glob, ok.blt, ok.above, ok.inj, ok.has, ok.cab, ok.hd, ok.frames, ok.stk, ok.exf, ok.bs, ok.bsz, ok.noex, ok.exfs, ok.funs, ok.frf⟩
theorem Cx.Ok.unwish {X : Cx} {E : Value → Shared → Prop} (ok : (X.wish E).Ok) : X.Ok :=
  ⟨ok.mod, ok.kind, ok.glob, ok.blt, ok.above, ok.inj, ok.has, ok.cab, ok.hd, ok.frames, ok.stk, ok.exf, ok.bs, ok.bsz, ok.noex, ok.exfs, ok.funs, ok.frf⟩
section
variable {X : Cx} {pins : List (Addr × Obj)} {σ : St} {H : Hp} {s : Shared} {E : Value → Shared → Prop}
theorem Inv.wish (I : Inv X pins σ H s) (E : Value → Shared → Prop) : Inv (X.wish E) pins σ H s := ⟨I.ok.wish E, I.os, I.bare, I.base, I.loc, I.cell, I.free, I.freeC, I.pin, I.hok, I.len⟩
theorem Inv.unwish (I : Inv (X.wish E) pins σ H s) : Inv X pins σ H s := ⟨I.ok.unwish, I.os, I.bare, I.base, I.loc, I.cell, I.free, I.freeC, I.pin, I.hok, I.len⟩
theorem SP.unwish {D : Ends} {f : Flow} {s' : Shared} (h : SP (X.wish E) pins D f s') : SP X pins D f s' := by
  cases f with
  | next => obtain ⟨σ', H', I, q⟩ := h; exact ⟨σ', H', I.unwish, q⟩
  | brk => obtain ⟨σ', H', I, q⟩ := h; exact ⟨σ', H', I.unwish, q⟩
  | cont => obtain ⟨σ', H', I, q⟩ := h; exact ⟨σ', H', I.unwish, q⟩
  | ret u => obtain ⟨v, σ', H', I, r, q⟩ := h; exact ⟨v, σ', H', I.unwish, r, q⟩
theorem PSs.nox {st : List Stmt} {t : TS} (h : PSs X.nox st t) : PSs X st t := fun pins s σ H D I hw =>
  wpAny_mono (h pins s σ H D (I.wish _) hw) (fun _ _ q => q.unwish) fun _ _ z => False.elim z
end

section
variable {X : Cx} {st : Stmt} {rest : List Stmt} {t u : TS} {e : Expr} {te : TE} {pos : Pos}
noncomputable def tNext : TS := fun D σ H => D.nx σ H
noncomputable def tSeq (t u : TS) : TS := fun D σ H => t { D with nx := u D } σ H
theorem pss_nil : PSs X [] tNext := fun _ _ σ H _ I h => wpAny_execs_nil ⟨σ, H, I, h⟩
theorem pss_cons (h1 : PS X st t) (h2 : PSs X rest u) : PSs X (st :: rest) (tSeq t u) := by
  intro pins s σ H D I h
  refine wpAny_execs_cons (thn (h1 pins s σ H { D with nx := u D } I h) fun f s1 q => ?_)
  cases f with
  | next =>
    obtain ⟨σ', H', I', q⟩ := q
    exact h2 pins s1 σ' H' D I' q
  | ret v => exact q
  | brk => exact q
  | cont => exact q
theorem pss_one (h1 : PS X st t) : PSs X [st] t := by
  intro pins s σ H D I h
  refine wpAny_execs_cons (thn (h1 pins s σ H D I h) fun f s1 q => ?_)
  cases f with
  | next => exact wpAny_execs_nil q
  | ret v => exact q
  | brk => exact q
  | cont => exact q
theorem Inv.quiet {pins : List (Addr × Obj)} {σ : St} {H : Hp} {s : Shared} (I : Inv X pins σ H s) : interactive X.env = false := by simp [interactive, I.ok.kind]
noncomputable def tDrop (te : TE) : TS := fun D σ H => te σ H fun _ H1 => D.nx σ H1
theorem ps_expr (he : PE X e te) (hs : swapsWith e none pos.line X.env = pure false := by rfl) : PS X (.Expr e pos) (tDrop te) := by
  intro pins s σ H D I h
  exact wpAny_Expr_any (thn (he pins s σ H _ I h) fun v s1 ⟨x, H1, I1, r1, q1⟩ => ⟨σ, H1, I1, q1⟩) I.quiet hs
noncomputable def tRet (te : TE) : TS := fun D σ H => te σ H D.rt
theorem ps_ret (he : PE X e te) : PS X (.Return (some e) pos) (tRet te) := by
  intro pins s σ H D I h
  exact wpAny_Return_some (thn (he pins s σ H _ I h) fun v s1 ⟨x, H1, I1, r1, q1⟩ => ⟨x, σ, H1, I1, r1, q1⟩)
noncomputable def tIfS (c : TT) (t u : TS) : TS := fun D σ H => c σ H fun b H1 => if b = true then t D σ H1 else u D σ H1
theorem ps_if {c : Expr} {a b : List Stmt} {tc : TT} (hc : PT X c tc) (ha : PSs X a t) (hb : PSs X b u) : PS X (.If c a b pos) (tIfS tc t u) := by
  intro pins s σ H D I h
  refine wpAny_If (thn (hc pins s σ H _ I h) fun d s1 ⟨H1, I1, q1⟩ => ?_)
  cases d with
  | true => exact ha pins s1 σ H1 D I1 q1
  | false => exact hb pins s1 σ H1 D I1 q1
end

noncomputable abbrev TG := V → St → Hp → (St → Hp → Prop) → Prop
noncomputable def PG (X : Cx) (target : Expr) (t : TG) : Prop :=
  ∀ (pins : List (Addr × Obj)) (s : Shared) (σ : St) (H : Hp) (v : V) (u : Value) (Q : St → Hp → Prop), Inv X pins σ H s → RelV v u → t v σ H Q →
    wpAny (model X.prog X.w) X.A (assign target X.env u) (fun _ s' => ∃ σ' H', Inv X pins σ' H' s' ∧ Q σ' H') X.xe s
section
variable {X : Cx} {pos : Pos}
noncomputable def gName (i : Nat) : TG := fun v σ H Q => Q (σ.set i (some v)) H
theorem pg_name {i : Nat} {x : Str} (hN : X.N.Nodup) (hi : X.N[i]? = some x) (hx : Loc X.env.scope x) (hf : X.fn x = true ∨ X.env.scope.names.lookup x = some .local := by first | exact .inl rfl | exact .inr rfl | assumption) : PG X (.Name x pos) (gName i) := by
  intro pins s σ H v u Q I r h
  exact wpAny_assign_Name (store_ok I hN hi hx r (fun s' I' => ⟨_, H, I', h⟩) hf)
noncomputable def tAsg (te : TE) (g : TG) : TS := fun D σ H => te σ H fun x H1 => g x σ H1 D.nx
theorem ps_set {i : Nat} {x : Str} {e : Expr} {te : TE} {pos' : Pos} (hN : X.N.Nodup) (hi : X.N[i]? = some x) (hx : Loc X.env.scope x) (he : PE X e te) (hs : swapsWith e (some (.Name x pos')) pos.line X.env = pure false := by rfl) (hf : X.fn x = true ∨ X.env.scope.names.lookup x = some .local := by first | exact .inl rfl | exact .inr rfl | assumption) :
    PS X (.Assign [.Name x pos'] e pos) (tAsg te (gName i)) := by
  intro pins s σ H D I h
  refine wpAny_Assign_Name (thn (he pins s σ H _ I h) fun v s1 ⟨y, H1, I1, r1, q1⟩ => ?_) hs
  exact store_ok I1 hN hi hx r1 (fun s2 I2 => ⟨_, H1, I2, q1⟩) hf
end

section
variable {X : Cx} {pos : Pos}
noncomputable def tWhile (c : TT) (tb : TS) : TS := fun D σ H => ∃ W : Nat → St → Hp → Prop, (∃ m, W m σ H) ∧ ∀ m σ H, W m σ H →
  c σ H fun b H1 => if b = true then ∃ N : St → Hp → Prop, (∀ σ' H', N σ' H' → ∃ m', m' < m ∧ W m' σ' H') ∧ tb { D with nx := N, ct := N, bk := D.nx } σ H1 else D.nx σ H1
theorem ps_while {c : Expr} {body : List Stmt} {tc : TT} {tb : TS} (hp : PassesOwn (model X.prog X.w) X.A X.env X.xe) (hc : PT X c tc) (hb : PSs X body tb) : PS X (.While c body [] pos) (tWhile tc tb) := by
  intro pins s σ H D I h
  obtain ⟨W, ⟨m0, w0⟩, turn⟩ := h
  refine wpAny_While (codeAny_whileLoop (fun n s' => ∃ σ' H', Inv X pins σ' H' s' ∧ W n σ' H') ?_ m0 ⟨σ, H, I, w0⟩)
  rintro n s1 ⟨σ1, H1, I1, w1⟩
  refine wpAny_passesOwn hp (thn (hc pins s1 σ1 H1 _ I1 (turn n σ1 H1 w1)) fun b s2 ⟨H2, I2, q2⟩ => ?_)
  cases b with
  | true =>
    obtain ⟨N, hN, q2⟩ := q2
    rw [if_pos rfl]
    refine wpAny_passesOwn hp (thn (hb pins s2 σ1 H2 _ I2 q2) fun f s3 q3 => ?_)
    cases f with
    | next =>
      obtain ⟨σ3, H3, I3, n3⟩ := q3
      obtain ⟨m', hm, w3⟩ := hN σ3 H3 n3
      exact ⟨m', hm, σ3, H3, I3, w3⟩
    | cont =>
      obtain ⟨σ3, H3, I3, n3⟩ := q3
      obtain ⟨m', hm, w3⟩ := hN σ3 H3 n3
      exact ⟨m', hm, σ3, H3, I3, w3⟩
    | brk => exact q3
    | ret v => exact q3
  | false =>
    rw [if_neg Bool.false_ne_true]
    exact wpAny_execs_nil ⟨σ1, H2, I2, q2⟩
end

structure It where
  go : Nat → Hp → Prop
  yld : Nat → Hp → V → Hp → Prop
  stop : Nat → Hp → Prop
noncomputable def FpOk (X : Cx) (pins : List (Addr × Obj)) (H : Hp) (b : Addr) : Prop :=
  H b = none ∧ b ≠ X.env.locals ∧ b ∉ X.fs ∧ (b ∈ X.ex ∨ X.s₀.heap.objs.size ≤ b) ∧ (∀ x c, X.env.cells.lookup x = some c → c ≠ b) ∧ ∀ p ∈ X.pn ++ pins, p.1 ≠ b
theorem Inv.fpOk {X : Cx} {pins : List (Addr × Obj)} {σ : St} {H H' : Hp} {s : Shared} {b : Addr} (I : Inv X pins σ H s) (hb : s.heap.objs.size ≤ b) (hn : H' b = none) : FpOk X pins H' b := by
  refine ⟨hn, Nat.ne_of_gt (Nat.lt_of_lt_of_le I.lt hb), I.nofs hb, .inr (Nat.le_trans I.sz hb), fun x c e z => ?_, fun p hp z => ?_⟩
  · obtain ⟨v, q⟩ := I.cell x c e
    exact absurd (Nat.lt_of_lt_of_le q.lt (by rw [z]; exact hb)) (Nat.lt_irrefl _)
  · exact absurd (Nat.lt_of_lt_of_le (Heap.lt_size (I.pin p hp).1) (by rw [z]; exact hb)) (Nat.lt_irrefl _)
structure Turn (P : Program) (w : World) (K : PySem.W.Frag) (tg : Expr) (J : It) (fp : List Addr) (it : Addr) (tn : Nat → Heap → Prop) : Prop where
  mem : it ∈ fp
  obj : ∀ i h, tn i h → ∀ b ∈ fp, ∃ o, h.get? b = some o ∧ ∀ v, o.data ≠ .cell v
  keep : ∀ i h h', tn i h → (∀ b ∈ fp, ∀ o, h.get? b = some o → h'.get? b = some o) → tn i h'
  item : ∀ (X : Cx), X.prog = P → X.w = w → X.K = K → X.calm = true → ∀ (i : Nat) (pins : List (Addr × Obj)) (s : Shared) (σ : St) (H : Hp) (E : Value → Shared → Prop), Inv X pins σ H s → (∀ b ∈ fp, FpOk X pins H b) → tn i s.heap → J.go i H →
    wpAny (model P w) X.A (pyNext (.ref it)) (fun r s1 => ∃ u, r = some u ∧
      wpAny (model P w) X.A (letOwnedTupleGo tg (.ref it) u) (fun _ s2 => ∃ x H', Inv X pins σ H' s2 ∧ RelV x u ∧ J.yld i H x H' ∧ tn (i + 1) s2.heap ∧ ∀ b ∈ fp, H' b = none) E s1) E s
  done : ∀ (X : Cx), X.prog = P → X.w = w → X.K = K → X.calm = true → ∀ (i : Nat) (pins : List (Addr × Obj)) (s : Shared) (σ : St) (H : Hp) (E : Value → Shared → Prop), Inv X pins σ H s → (∀ b ∈ fp, FpOk X pins H b) → tn i s.heap → J.stop i H →
    wpAny (model P w) X.A (pyNext (.ref it)) (fun r s1 => r = none ∧ Inv X pins σ H s1) E s
  self : ∀ (A : Around) (i : Nat) (s : Shared) (Q : Value → Shared → Prop) (E : Value → Shared → Prop), tn i s.heap → Q (.ref it) s → wpAny (model P w) A (pyIter (.ref it)) Q E s
noncomputable abbrev TI := St → Hp → (It → Hp → Prop) → Prop
noncomputable def PIE (X : Cx) (pins : List (Addr × Obj)) (σ : St) (tg : Expr) (R : It → Hp → Prop) (itv : Value) (s2 : Shared) : Prop :=
  ∃ (it : Addr) (fp : List Addr) (tn : Nat → Heap → Prop) (J : It) (H' : Hp), itv = .ref it ∧ Inv X pins σ H' s2 ∧ Turn X.prog X.w X.K tg J fp it tn ∧ tn 0 s2.heap ∧ (∀ b ∈ fp, FpOk X pins H' b) ∧ R J H'
noncomputable def PI (X : Cx) (tg iter : Expr) (wi : TI) : Prop :=
  ∀ (pins : List (Addr × Obj)) (s : Shared) (σ : St) (H : Hp) (R : It → Hp → Prop), Inv X pins σ H s → wi σ H R →
    wpAny (model X.prog X.w) X.A (eval iter X.env) (fun v s1 => wpAny (model X.prog X.w) X.A (pyIter v) (PIE X pins σ tg R) X.xe s1) X.xe s

theorem go_of {M : Model} {A : Around} {E : Value → Shared → Prop} {s : Shared} {tg : Expr} {it : Addr} {u : Value} {o : Obj} {n : String} {vs : Array Value} {Q : Unit → Shared → Prop} (ho : s.heap.get? it = some o) (hc : o.cls = .type n) (hd : o.data = .fields vs)
    (hn : ["enumerate", "zip", "dict_itemiterator", "dict_reverseitemiterator", "odict_iterator", "itertools.zip_longest", "itertools.pairwise"].contains n = false) (hQ : Q () s) : wpAny M A (letOwnedTupleGo tg (.ref it) u) Q E s := by
  unfold letOwnedTupleGo
  cases tg <;> first
    | exact wpAny_pure hQ
    | (cases u <;> first
        | exact wpAny_pure hQ
        | (refine wpAny_bind (wpAny_load ho ?_)
           rw [hc, hd]
           show wpAny M A (if (["enumerate", "zip", "dict_itemiterator", "dict_reverseitemiterator", "odict_iterator", "itertools.zip_longest", "itertools.pairwise"].contains n && vs[0]? == some (rawInt _)) = true then _ else _) Q E s
           rw [if_neg (by intro h; rw [hn, Bool.false_and] at h; cases h)]
           exact wpAny_pure hQ))

noncomputable def Itl (K : PySem.W.Frag) (a : Addr) : It :=
  ⟨fun i H => ∃ xs x, SqL K H a xs ∧ xs[i]? = some x, fun i H x H' => H' = H ∧ ∀ xs, SqL K H a xs → xs[i]? = some x, fun i H => ∃ xs, SqL K H a xs ∧ xs.length ≤ i⟩
noncomputable def Itt (K : PySem.W.Frag) (a : Addr) : It :=
  ⟨fun i H => ∃ xs x, SqT K H a xs ∧ xs[i]? = some x, fun i H x H' => H' = H ∧ ∀ xs, SqT K H a xs → xs[i]? = some x, fun i H => ∃ xs, SqT K H a xs ∧ xs.length ≤ i⟩
noncomputable def Itr (lo : Int) (n : Nat) : It := ⟨fun i _ => i < n, fun i H x H' => H' = H ∧ x = .int (lo + i), fun i _ => n ≤ i⟩
theorem turn_list {P : Program} {w : World} {K : PySem.W.Frag} {tg : Expr} (a it : Addr) : Turn P w K tg (Itl K a) [it] it (fun i h => h.IsListIter it a i) where
  mem := by simp
  obj := fun i h st b hb => by
    have e : b = it := by simpa using hb
    subst e
    obtain ⟨o, e, c, d⟩ := st
    exact ⟨o, e, fun v z => by rw [d] at z; cases z⟩
  keep := fun i h h' st k => st.at fun o e => k it (by simp) o e
  item := by
    intro X hP hw hK hc i pins s σ H E I hf st hg
    subst hP hw hK
    obtain ⟨xs, x, hq, hx⟩ := hg
    obtain ⟨its, rv, p, hz⟩ := I.list hq
    obtain ⟨u, hu, ru⟩ := rv.get hx
    obtain ⟨f0, f1, f2, f3, f4, f5⟩ := hf it (by simp)
    refine wpAny_pyNext_list_item st p.isList (x := u) (by simpa using hu) fun h' st' sb => ?_
    have I1 : Inv X pins σ H { s with heap := h' } := I.turned (t' := s.toks) (fun b o hb e => (sb.2 b hb).trans e) f0 f1 f3 f4 f5
    obtain ⟨o, e, c, d⟩ := id st'
    exact ⟨u, rfl, go_of (s := { s with heap := h' }) e c d (by decide) ⟨x, H, I1, ru, ⟨rfl, fun ys hy => by rw [I.list_inj hy hq]; exact hx⟩, st', fun b hb => (hf b hb).1⟩⟩
  done := by
    intro X hP hw hK hc i pins s σ H E I hf st hg
    subst hP hw hK
    obtain ⟨xs, hq, hx⟩ := hg
    obtain ⟨its, rv, p, hz⟩ := I.list hq
    obtain ⟨f0, f1, f2, f3, f4, f5⟩ := hf it (by simp)
    have hl := rv.length
    exact wpAny_pyNext_list_end (I.ok.hd hc) st p.isList (by simp; omega) fun h' eb => ⟨rfl, I.turned (t' := s.toks) (fun b o hb e => eb b o hb e) f0 f1 f3 f4 f5⟩
  self := fun _ _ _ _ _ st h => wpAny_pyIter_listiter st h
theorem turn_tuple {P : Program} {w : World} {K : PySem.W.Frag} {tg : Expr} (a it : Addr) : Turn P w K tg (Itt K a) [it] it (fun i h => h.IsTupleIter it a i) where
  mem := by simp
  obj := fun i h st b hb => by
    have e : b = it := by simpa using hb
    subst e
    obtain ⟨o, e, c, d⟩ := st
    exact ⟨o, e, fun v z => by rw [d] at z; cases z⟩
  keep := fun i h h' st k => st.at fun o e => k it (by simp) o e
  item := by
    intro X hP hw hK hc i pins s σ H E I hf st hg
    subst hP hw hK
    obtain ⟨xs, x, hq, hx⟩ := hg
    obtain ⟨its, rv, p, hz⟩ := I.tuple hq
    obtain ⟨u, hu, ru⟩ := rv.get hx
    obtain ⟨f0, f1, f2, f3, f4, f5⟩ := hf it (by simp)
    refine wpAny_pyNext_tuple_item st (show s.heap.IsTuple a its.toArray from p) (x := u) (by simpa using hu) fun h' st' sb => ?_
    have I1 : Inv X pins σ H { s with heap := h' } := I.turned (t' := s.toks) (fun b o hb e => (sb.2 b hb).trans e) f0 f1 f3 f4 f5
    obtain ⟨o, e, c, d⟩ := id st'
    exact ⟨u, rfl, go_of (s := { s with heap := h' }) e c d (by decide) ⟨x, H, I1, ru, ⟨rfl, fun ys hy => by rw [I.tuple_inj hy hq]; exact hx⟩, st', fun b hb => (hf b hb).1⟩⟩
  done := by
    intro X hP hw hK hc i pins s σ H E I hf st hg
    subst hP hw hK
    obtain ⟨xs, hq, hx⟩ := hg
    obtain ⟨its, rv, p, hz⟩ := I.tuple hq
    obtain ⟨f0, f1, f2, f3, f4, f5⟩ := hf it (by simp)
    have hl := rv.length
    exact wpAny_pyNext_tuple_end (I.ok.hd hc) st (show s.heap.IsTuple a its.toArray from p) (by simp; omega) fun h' eb => ⟨rfl, I.turned (t' := s.toks) (fun b o hb e => eb b o hb e) f0 f1 f3 f4 f5⟩
  self := fun _ _ _ _ _ st h => wpAny_pyIter_tupleiter st h
theorem turn_range {P : Program} {w : World} {K : PySem.W.Frag} {tg : Expr} (it : Addr) (lo : Int) (n : Nat) : Turn P w K tg (Itr lo n) [it] it (fun i h => IsRangeIter h it (lo + (i : Nat) * 1) ((n : Int) - (i : Nat)) 1) where
  mem := by simp
  obj := fun i h st b hb => by
    have e : b = it := by simpa using hb
    subst e
    exact ⟨_, st, fun v z => by
      have z' : Data.fields _ = Data.cell v := z
      cases z'⟩
  keep := fun i h h' st k => k it (by simp) _ st
  item := by
    intro X hP hw hK hc i pins s σ H E I hf st hg
    subst hP hw hK
    obtain ⟨f0, f1, f2, f3, f4, f5⟩ := hf it (by simp)
    have W := Walks.range (prog := X.prog) (w := X.w) (I.ok.hd hc) it lo 1 n
    refine W.item i s _ _ hg st fun v h' tk hv st' kk => ?_
    obtain ⟨t, rfl⟩ := hv
    have I1 : Inv X pins σ H { s with heap := h', toks := tk } := I.turned (fun b o hb e => kk b o (by simpa using hb) e) f0 f1 f3 f4 f5
    refine ⟨_, rfl, go_of (s := { s with heap := h', toks := tk }) (n := "range_iterator") st' rfl rfl (by decide) ⟨.int (lo + i), H, I1, ⟨t, ?_⟩, ⟨rfl, rfl⟩, st', fun b hb => (hf b hb).1⟩⟩
    rw [Int.mul_one]
  done := by
    intro X hP hw hK hc i pins s σ H E I hf st hg
    subst hP hw hK
    obtain ⟨f0, f1, f2, f3, f4, f5⟩ := hf it (by simp)
    exact wpAny_pyNext_range_end (I.ok.hd hc) st (by have : n ≤ i := hg; omega) fun h' eb => ⟨rfl, I.turned (t' := s.toks) (fun b o hb e => eb b o hb e) f0 f1 f3 f4 f5⟩
  self := fun _ _ _ _ _ st h => wpAny_pyIter_rangeiter st h
end L2

namespace L2
open PySem PySem.Spec PyProof.Rows
section
variable {X : Cx} {tg : Expr}
inductive J_iList (K : PySem.W.Frag) (R : It → Hp → Prop) (x : V) (H1 : Hp) : Prop
  | mk : ∀ a, (x = .ref a) → ((∃ xs, SqL K H1 a xs)) → (R (Itl K a) H1) → J_iList K R x H1
noncomputable def iList (K : PySem.W.Frag) (tl : TE) : TI := fun σ H R => tl σ H fun x H1 => J_iList K R x H1
inductive J_iTup (K : PySem.W.Frag) (R : It → Hp → Prop) (x : V) (H1 : Hp) : Prop
  | mk : ∀ a, (x = .ref a) → ((∃ xs, SqT K H1 a xs)) → (R (Itt K a) H1) → J_iTup K R x H1
noncomputable def iTup (K : PySem.W.Frag) (tl : TE) : TI := fun σ H R => tl σ H fun x H1 => J_iTup K R x H1
theorem pi_list {l : Expr} {tl : TE} (hl : PE X l tl) : PI X tg l (iList X.K tl) := by
  intro pins s σ H R I h
  refine thn (hl pins s σ H _ I h) fun v s1 ⟨x, H1, I1, r1, q1⟩ => ?_
  obtain ⟨a, e, ⟨xs, hq⟩, q⟩ := q1
  subst e
  cases r1
  obtain ⟨its, rv, p, hz⟩ := I1.list hq
  refine wpAny_pyIter_list p.isList ?_
  refine ⟨s1.heap.objs.size, [s1.heap.objs.size], _, _, H1, rfl, I1.kept (t' := s1.toks) fun b o e => Heap.get?_push_of_some _ e, turn_list a _, ⟨_, Heap.get?_push_size _ rfl, rfl, rfl⟩, fun b hb => ?_, q⟩
  have e : b = s1.heap.objs.size := by simpa using hb
  subst e
  exact I1.fpOk (Nat.le_refl _) (I1.hok.fresh (Nat.le_refl _))
theorem pi_tup {l : Expr} {tl : TE} (hl : PE X l tl) : PI X tg l (iTup X.K tl) := by
  intro pins s σ H R I h
  refine thn (hl pins s σ H _ I h) fun v s1 ⟨x, H1, I1, r1, q1⟩ => ?_
  obtain ⟨a, e, ⟨xs, hq⟩, q⟩ := q1
  subst e
  cases r1
  obtain ⟨its, rv, p, hz⟩ := I1.tuple hq
  refine wpAny_pyIter_tuple (show s1.heap.IsTuple a its.toArray from p) ?_
  refine ⟨s1.heap.objs.size, [s1.heap.objs.size], _, _, H1, rfl, I1.kept (t' := s1.toks) fun b o e => Heap.get?_push_of_some _ e, turn_tuple a _, ⟨_, Heap.get?_push_size _ rfl, rfl, rfl⟩, fun b hb => ?_, q⟩
  have e : b = s1.heap.objs.size := by simpa using hb
  subst e
  exact I1.fpOk (Nat.le_refl _) (I1.hok.fresh (Nat.le_refl _))
theorem range_it {pins : List (Addr × Obj)} {σ : St} {H : Hp} {s : Shared} {R : It → Hp → Prop} {E : Value → Shared → Prop} {lo hi : Int} {t u v : Tok} {tk : Nat} (I : Inv X pins σ H s) (h1 : -(2 ^ 62) ≤ lo) (h2 : lo < 2 ^ 62) (h3 : -(2 ^ 62) ≤ hi) (h4 : hi < 2 ^ 62)
    (q : R (Itr lo (hi - lo).toNat) H) : wpAny (model X.prog X.w) X.A (pyIter (.ref s.heap.objs.size)) (PIE X pins σ tg R) E { s with heap := s.heap.push { cls := .type "range", data := .fields #[.int lo t, .int hi u, .int 1 v] }, toks := tk } := by
  refine wpAny_pyIter_range (IsRange.new ..) (small_one h1 h2 h3 h4) ?_
  have I1 : Inv X pins σ H { s with heap := s.heap.push { cls := .type "range", data := .fields #[.int lo t, .int hi u, .int 1 v] }, toks := tk } := I.kept fun b o e => Heap.get?_push_of_some _ e
  refine ⟨(s.heap.push { cls := .type "range", data := .fields #[.int lo t, .int hi u, .int 1 v] }).objs.size, [(s.heap.push { cls := .type "range", data := .fields #[.int lo t, .int hi u, .int 1 v] }).objs.size], _, _, H, rfl,
    I1.kept (t' := tk) fun b o e => Heap.get?_push_of_some _ e, turn_range _ lo (hi - lo).toNat, ?_, fun b hb => ?_, q⟩
  · have e1 : lo + ((0 : Nat) : Int) * 1 = lo := by simp
    have e2 : (((hi - lo).toNat : Nat) : Int) - ((0 : Nat) : Int) = Builtin.Range.rangeSize lo hi 1 := by rw [rangeSize_one]; split <;> omega
    show IsRangeIter _ _ (lo + ((0 : Nat) : Int) * 1) ((((hi - lo).toNat : Nat) : Int) - ((0 : Nat) : Int)) 1
    rw [e1, e2]
    exact Heap.get?_push_size _ rfl
  · have e : b = (s.heap.push { cls := .type "range", data := .fields #[.int lo t, .int hi u, .int 1 v] }).objs.size := by simpa using hb
    subst e
    exact I1.fpOk (Nat.le_refl _) (I1.hok.fresh (Nat.le_refl _))
inductive J_iRng1 (R : It → Hp → Prop) (vs : List V) (H1 : Hp) : Prop
  | mk : ∀ (j : Int), (vs = [.int j]) → (-(2 ^ 62) ≤ j) → (j < 2 ^ 62) → (R (Itr 0 j.toNat) H1) → J_iRng1 R vs H1
noncomputable def iRng1 (ta : TA) : TI := fun σ H R => ta σ H fun vs H1 => J_iRng1 R vs H1
theorem pi_range1 {a : Expr} {ta : TA} {p pos : Pos} (hg : Gl X "range") (hm : X.mg "range" = none) (ha : PA X [a] ta) (hs : starEach [a] X.env = [(false, eval a X.env)] := by rfl) : PI X tg (.Call (.Name "range" p) [a] [] pos) (iRng1 ta) := by
  intro pins s σ H R I h
  refine Call_ (ld_blt I hg hm boot_range (PyProof.Rows.callWith_type1 (thn (ha pos pins s σ H _ I h) fun us s1 ⟨vs, H1, I1, r1, q1⟩ => ?_) hs rfl))
  obtain ⟨j, e, q1, q2, q⟩ := q1
  subst e
  cases r1 with
  | cons r rr =>
    cases rr
    obtain ⟨t, rfl⟩ := r
    exact call_range_1 (range_it I1 (by omega) (by omega) q1 q2 (by simpa using q))

noncomputable def tFor (wi : TI) (g : TG) (tb : TS) : TS := fun D σ H => wi σ H fun J H1 => ∃ W : Nat → Nat → St → Hp → Prop, (∃ m, W 0 m σ H1) ∧ ∀ i m σ H, W i m σ H →
  (J.stop i H ∧ D.nx σ H) ∨ (J.go i H ∧ ∃ N : St → Hp → Prop, (∀ σ' H', N σ' H' → ∃ m', m' < m ∧ W (i + 1) m' σ' H') ∧ ∀ x H', J.yld i H x H' → g x σ H' fun σ2 H2 => tb { D with nx := N, ct := N, bk := D.nx } σ2 H2)
noncomputable def pinsAt (fp : List Addr) (h : Heap) : List (Addr × Obj) := fp.filterMap fun b => (h.get? b).map fun o => (b, o)
theorem mem_pinsAt {fp : List Addr} {h : Heap} {b : Addr} {o : Obj} (hb : b ∈ fp) (e : h.get? b = some o) : (b, o) ∈ pinsAt fp h := List.mem_filterMap.mpr ⟨b, hb, by rw [e]; rfl⟩
theorem of_pinsAt {fp : List Addr} {h : Heap} {p : Addr × Obj} (hp : p ∈ pinsAt fp h) : p.1 ∈ fp ∧ h.get? p.1 = some p.2 := by
  obtain ⟨b, hb, e⟩ := List.mem_filterMap.mp hp
  cases q : h.get? b with
  | none => rw [q] at e; cases e
  | some o =>
    rw [q] at e
    have e' : (b, o) = p := Option.some.inj e
    subst e'
    exact ⟨hb, q⟩
theorem Inv.pinned {pins : List (Addr × Obj)} {σ : St} {H : Hp} {s : Shared} {fp : List Addr} (I : Inv X pins σ H s) (hf : ∀ b ∈ fp, FpOk X pins H b) (ho : ∀ b ∈ fp, ∃ o, s.heap.get? b = some o ∧ ∀ v, o.data ≠ .cell v) : Inv X (pins ++ pinsAt fp s.heap) σ H s :=
  I.pins_of fun p hp => (List.mem_append.mp hp).elim (fun z => I.pin p (List.mem_append_right _ z)) fun z => by
    obtain ⟨hb, e⟩ := of_pinsAt z
    obtain ⟨f0, f1, f2, _⟩ := hf p.1 hb
    obtain ⟨o, e', d⟩ := ho p.1 hb
    rw [e] at e'; cases e'
    exact ⟨e, f0, f1, f2, d⟩
theorem Inv.unpinned {pins pl : List (Addr × Obj)} {σ : St} {H : Hp} {s : Shared} (I : Inv X (pins ++ pl) σ H s) : Inv X pins σ H s := I.pins_of fun p hp => I.pin p (List.mem_append_right _ (List.mem_append_left _ hp))
theorem ps_for {iter : Expr} {body : List Stmt} {wi : TI} {g : TG} {tb : TS} {pos : Pos} (hp : PassesOwn (model X.prog X.w) X.A X.env X.xe) (hc : X.calm = true) (hi : PI X tg iter wi) (hg : PG X tg g) (hb : PSs X body tb)
    (hs : ∀ x, foldedSetIterable iter X.env x = pure x := by intro _; rfl) : PS X (.For tg iter body [] pos) (tFor wi g tb) := by
  intro pins s σ H D I h
  refine wpAny_For (thn (hi pins s σ H _ I h) fun v s1 h1 => thn h1 fun itv s2 h2 => ?_) hs
  obtain ⟨it, fp, tn, J, H2, e, I2, T, st2, f2, W, ⟨m0, w0⟩, turn⟩ := h2
  subst e
  -- what stays true of the iterator's objects through the loop
  have stat : ∀ {H' : Hp}, (∀ b ∈ fp, H' b = none) → ∀ b ∈ fp, FpOk X pins H' b := fun hn b hb => ⟨hn b hb, (f2 b hb).2⟩
  refine codeAny_forLoop_any (fun n s' => ∃ i σ' H', Inv X pins σ' H' s' ∧ tn i s'.heap ∧ (∀ b ∈ fp, H' b = none) ∧ W i n σ' H') ?_ m0 ⟨0, σ, H2, I2, st2, fun b hb => (f2 b hb).1, w0⟩
  rintro n s3 ⟨i, σ3, H3, I3, st3, fr3, w3⟩
  rcases turn i n σ3 H3 w3 with ⟨stop, qn⟩ | ⟨go, N, hN, step⟩
  · refine wpAny_passesOwn hp (thn (T.done X rfl rfl rfl hc i pins s3 σ3 H3 X.xe I3 (stat fr3) st3 stop) fun r s4 ⟨hr, I4⟩ => ?_)
    subst hr
    exact wpAny_execs_nil ⟨σ3, H3, I4, qn⟩
  · refine wpAny_passesOwn hp (thn (T.item X rfl rfl rfl hc i pins s3 σ3 H3 X.xe I3 (stat fr3) st3 go) fun r s4 ⟨u, hr, h4⟩ => ?_)
    subst hr
    refine wpAny_passesOwn hp (thn h4 fun _ s5 ⟨x, H5, I5, r5, y5, st5, fr5⟩ => ?_)
    have I5' := I5.pinned (stat fr5) (T.obj _ _ st5)
    refine wpAny_passesOwn hp (thn (hg _ s5 σ3 H5 x u _ I5' r5 (step x H5 y5)) fun _ s6 ⟨σ6, H6, I6, q6⟩ => ?_)
    refine wpAny_passesOwn hp (thn (hb _ s6 σ6 H6 _ I6 q6) fun f s7 q7 => ?_)
    have again : ∀ {σ7 : St} {H7 : Hp}, Inv X (pins ++ pinsAt fp s5.heap) σ7 H7 s7 → N σ7 H7 → ∃ m, m < n ∧ ∃ i σ' H', Inv X pins σ' H' s7 ∧ tn i s7.heap ∧ (∀ b ∈ fp, H' b = none) ∧ W i m σ' H' := fun {σ7 H7} I7 n7 => by
      obtain ⟨m', hm, w7⟩ := hN σ7 H7 n7
      refine ⟨m', hm, i + 1, σ7, H7, I7.unpinned, T.keep _ _ _ st5 fun b hb o e => (I7.pin (b, o) (List.mem_append_right _ (List.mem_append_right _ (mem_pinsAt hb e)))).1, fun b hb => ?_, w7⟩
      obtain ⟨o, e, d⟩ := T.obj _ _ st5 b hb
      exact (I7.pin (b, o) (List.mem_append_right _ (List.mem_append_right _ (mem_pinsAt hb e)))).2.1
    cases f with
    | next => obtain ⟨σ7, H7, I7, n7⟩ := q7; exact again I7 n7
    | cont => obtain ⟨σ7, H7, I7, n7⟩ := q7; exact again I7 n7
    | brk => obtain ⟨σ7, H7, I7, q7⟩ := q7; exact ⟨σ7, H7, I7.unpinned, q7⟩
    | ret v => obtain ⟨x7, σ7, H7, I7, r7, q7⟩ := q7; exact ⟨x7, σ7, H7, I7.unpinned, r7, q7⟩
end

theorem for_list {K : PySem.W.Frag} {a : Addr} {xs : List V} {g : TG} {tb : TS} {D : Ends} {σ : St} {H : Hp} (Pv : Nat → St → Hp → Prop) (h0 : Pv 0 σ H) (hl : ∀ i σ H, i ≤ xs.length → Pv i σ H → SqL K H a xs)
    (hs : ∀ i x σ H, xs[i]? = some x → Pv i σ H → g x σ H fun σ2 H2 => tb { D with nx := Pv (i + 1), ct := Pv (i + 1), bk := D.nx } σ2 H2) (hd : ∀ σ H, Pv xs.length σ H → D.nx σ H) :
    ∃ W : Nat → Nat → St → Hp → Prop, (∃ m, W 0 m σ H) ∧ ∀ i m σ H, W i m σ H →
      ((Itl K a).stop i H ∧ D.nx σ H) ∨ ((Itl K a).go i H ∧ ∃ N : St → Hp → Prop, (∀ σ' H', N σ' H' → ∃ m', m' < m ∧ W (i + 1) m' σ' H') ∧ ∀ x H', (Itl K a).yld i H x H' → g x σ H' fun σ2 H2 => tb { D with nx := N, ct := N, bk := D.nx } σ2 H2) := by
  refine ⟨fun i m σ H => m = xs.length - i ∧ i ≤ xs.length ∧ Pv i σ H, ⟨xs.length, by simp, Nat.zero_le _, h0⟩, ?_⟩
  rintro i m σ H ⟨rfl, hi, p⟩
  have q := hl i σ H hi p
  by_cases hlt : i < xs.length
  · refine .inr ⟨⟨xs, xs[i], q, by simp [hlt]⟩, Pv (i + 1), fun σ' H' p' => ⟨xs.length - (i + 1), by omega, rfl, hlt, p'⟩, fun x H' y => ?_⟩
    obtain ⟨e, y⟩ := y
    subst e
    exact hs i x σ _ (y xs q) p
  · have e : i = xs.length := by omega
    subst e
    exact .inl ⟨⟨xs, q, Nat.le_refl _⟩, hd σ H p⟩
theorem for_tup {K : PySem.W.Frag} {a : Addr} {xs : List V} {g : TG} {tb : TS} {D : Ends} {σ : St} {H : Hp} (Pv : Nat → St → Hp → Prop) (h0 : Pv 0 σ H) (hl : ∀ i σ H, i ≤ xs.length → Pv i σ H → SqT K H a xs)
    (hs : ∀ i x σ H, xs[i]? = some x → Pv i σ H → g x σ H fun σ2 H2 => tb { D with nx := Pv (i + 1), ct := Pv (i + 1), bk := D.nx } σ2 H2) (hd : ∀ σ H, Pv xs.length σ H → D.nx σ H) :
    ∃ W : Nat → Nat → St → Hp → Prop, (∃ m, W 0 m σ H) ∧ ∀ i m σ H, W i m σ H →
      ((Itt K a).stop i H ∧ D.nx σ H) ∨ ((Itt K a).go i H ∧ ∃ N : St → Hp → Prop, (∀ σ' H', N σ' H' → ∃ m', m' < m ∧ W (i + 1) m' σ' H') ∧ ∀ x H', (Itt K a).yld i H x H' → g x σ H' fun σ2 H2 => tb { D with nx := N, ct := N, bk := D.nx } σ2 H2) := by
  refine ⟨fun i m σ H => m = xs.length - i ∧ i ≤ xs.length ∧ Pv i σ H, ⟨xs.length, by simp, Nat.zero_le _, h0⟩, ?_⟩
  rintro i m σ H ⟨rfl, hi, p⟩
  have q := hl i σ H hi p
  by_cases hlt : i < xs.length
  · refine .inr ⟨⟨xs, xs[i], q, by simp [hlt]⟩, Pv (i + 1), fun σ' H' p' => ⟨xs.length - (i + 1), by omega, rfl, hlt, p'⟩, fun x H' y => ?_⟩
    obtain ⟨e, y⟩ := y
    subst e
    exact hs i x σ _ (y xs q) p
  · have e : i = xs.length := by omega
    subst e
    exact .inl ⟨⟨xs, q, Nat.le_refl _⟩, hd σ H p⟩
theorem for_range {lo : Int} {n : Nat} {g : TG} {tb : TS} {D : Ends} {σ : St} {H : Hp} (Pv : Nat → St → Hp → Prop) (h0 : Pv 0 σ H)
    (hs : ∀ i σ H, i < n → Pv i σ H → g (.int (lo + i)) σ H fun σ2 H2 => tb { D with nx := Pv (i + 1), ct := Pv (i + 1), bk := D.nx } σ2 H2) (hd : ∀ σ H, Pv n σ H → D.nx σ H) :
    ∃ W : Nat → Nat → St → Hp → Prop, (∃ m, W 0 m σ H) ∧ ∀ i m σ H, W i m σ H →
      ((Itr lo n).stop i H ∧ D.nx σ H) ∨ ((Itr lo n).go i H ∧ ∃ N : St → Hp → Prop, (∀ σ' H', N σ' H' → ∃ m', m' < m ∧ W (i + 1) m' σ' H') ∧ ∀ x H', (Itr lo n).yld i H x H' → g x σ H' fun σ2 H2 => tb { D with nx := N, ct := N, bk := D.nx } σ2 H2) := by
  refine ⟨fun i m σ H => m = n - i ∧ i ≤ n ∧ Pv i σ H, ⟨n, by simp, Nat.zero_le _, h0⟩, ?_⟩
  rintro i m σ H ⟨rfl, hi, p⟩
  by_cases hlt : i < n
  · refine .inr ⟨hlt, Pv (i + 1), fun σ' H' p' => ⟨n - (i + 1), by omega, rfl, hlt, p'⟩, fun x H' y => ?_⟩
    obtain ⟨e, y⟩ := y
    subst e y
    exact hs i σ _ hlt p
  · have e : i = n := by omega
    subst e
    exact .inl ⟨Nat.le_refl _, hd σ H p⟩
end L2

namespace L2
open PySem PySem.Spec PyProof.Rows

noncomputable abbrev R2 := V → V → Hp → VK → Prop
noncomputable def OpR (X : Cx) (f : Value → Value → Sem Value) (r : R2) : Prop :=
  ∀ (pins : List (Addr × Obj)) (s : Shared) (σ : St) (H : Hp) (x y : V) (v u : Value) (Q : VK), Inv X pins σ H s → RelV x v → RelV y u → r x y H Q →
    wpAny (model X.prog X.w) X.A (f v u) (EP X pins σ Q) X.xe s
noncomputable def CallR (X : Cx) (f : Value) (r : List V → Hp → VK → Prop) : Prop :=
  ∀ (pins : List (Addr × Obj)) (s : Shared) (σ : St) (H : Hp) (xs : List V) (us : List Value) (Q : VK), Inv X pins σ H s → Vals xs us → r xs H Q →
    wpAny (model X.prog X.w) X.A (call f us) (EP X pins σ Q) X.xe s

noncomputable def tOp (r : R2) (ta tb : TE) : TE := fun σ H Q => ta σ H fun x H1 => tb σ H1 fun y H2 => r x y H2 Q
inductive RI (C : Int → Int → Prop) (g : Int → Int → V) (x y : V) (H : Hp) (Q : VK) : Prop
  | mk (i j : Int) (hx : x = .int i) (hy : y = .int j) (hc : C i j) (q : Q (g i j) H) : RI C g x y H Q
noncomputable def rI (C : Int → Int → Prop) (g : Int → Int → V) : R2 := fun x y H Q => RI C g x y H Q
inductive RI0 (g : Int → Int → V) (x y : V) (H : Hp) (Q : VK) : Prop
  | mk (i j : Int) (hx : x = .int i) (hy : y = .int j) (q : Q (g i j) H) : RI0 g x y H Q
noncomputable def rI0 (g : Int → Int → V) : R2 := fun x y H Q => RI0 g x y H Q

section
variable {X : Cx} {a b c : Expr} {ta tb tc : TE} {pos : Pos}

theorem binT (ha : PE X a ta) (hb : PE X b tb) {pins : List (Addr × Obj)} {s : Shared} {σ : St} {H : Hp} {R : V → V → Hp → Prop} (I : Inv X pins σ H s)
    (h : ta σ H fun x H1 => tb σ H1 fun y H2 => R x y H2) {Q : Value → Shared → Prop} {f : Value → Value → Sem Value}
    (hf : ∀ v u s2 x y H2, Inv X pins σ H2 s2 → RelV x v → RelV y u → R x y H2 → wpAny (model X.prog X.w) X.A (f v u) Q X.xe s2) :
    wpAny (model X.prog X.w) X.A (eval a X.env) (fun v s₁ => wpAny (model X.prog X.w) X.A (eval b X.env) (fun u s₂ => wpAny (model X.prog X.w) X.A (f v u) Q X.xe s₂) X.xe s₁) X.xe s := by
  refine thn (ha pins s σ H _ I h) fun v s1 ⟨x, H1, I1, r1, q1⟩ => ?_
  refine thn (hb pins s1 σ H1 _ I1 q1) fun u s2 ⟨y, H2, I2, r2, q2⟩ => ?_
  exact hf v u s2 x y H2 I2 r1 r2 q2

theorem pe_op {op : Operator} {r : R2} (ho : OpR X (binaryOp op) r) (ha : PE X a ta) (hb : PE X b tb) : PE X (.BinOp a op b pos) (tOp r ta tb) := by
  intro pins s σ H Q I h
  exact wpAny_BinOp (binT ha hb I h fun v u s2 x y H2 I2 rx ry q => ho pins s2 σ H2 x y v u Q I2 rx ry q)

theorem opI {f : Value → Value → Sem Value} {C : Int → Int → Prop} {g : Int → Int → Int}
    (rule : ∀ (i j : Int) (t u : Tok) (s : Shared) (Q : Value → Shared → Prop) (E : Value → Shared → Prop), C i j → Q (.int (g i j) s.toks) { s with toks := s.toks + 1 } → wpAny (model X.prog X.w) X.A (f (.int i t) (.int j u)) Q E s) :
    OpR X f (rI C fun i j => .int (g i j)) := by
  intro pins s σ H x y v u Q I rx ry h
  obtain ⟨i, j, rfl, rfl, hc, q⟩ := h
  obtain ⟨t, rfl⟩ := rx
  obtain ⟨t', rfl⟩ := ry
  exact rule i j t t' s _ _ hc ⟨.int (g i j), H, I.tok _, ⟨_, rfl⟩, q⟩
theorem opI0 {f : Value → Value → Sem Value} {g : Int → Int → Int}
    (rule : ∀ (i j : Int) (t u : Tok) (s : Shared) (Q : Value → Shared → Prop) (E : Value → Shared → Prop), Q (.int (g i j) s.toks) { s with toks := s.toks + 1 } → wpAny (model X.prog X.w) X.A (f (.int i t) (.int j u)) Q E s) :
    OpR X f (rI0 fun i j => .int (g i j)) := by
  intro pins s σ H x y v u Q I rx ry h
  obtain ⟨i, j, rfl, rfl, q⟩ := h
  obtain ⟨t, rfl⟩ := rx
  obtain ⟨t', rfl⟩ := ry
  exact rule i j t t' s _ _ ⟨.int (g i j), H, I.tok _, ⟨_, rfl⟩, q⟩
theorem opB0 {f : Value → Value → Sem Value} {g : Int → Int → Bool}
    (rule : ∀ (i j : Int) (t u : Tok) (s : Shared) (Q : Value → Shared → Prop) (E : Value → Shared → Prop), Q (.bool (g i j)) s → wpAny (model X.prog X.w) X.A (f (.int i t) (.int j u)) Q E s) :
    OpR X f (rI0 fun i j => .bl (g i j)) := by
  intro pins s σ H x y v u Q I rx ry h
  obtain ⟨i, j, rfl, rfl, q⟩ := h
  obtain ⟨t, rfl⟩ := rx
  obtain ⟨t', rfl⟩ := ry
  exact rule i j t t' s _ _ ⟨.bl (g i j), H, I, rfl, q⟩

noncomputable def CDiv (i j : Int) : Prop := 0 < j ∧ j < 1073741824
noncomputable def CPow (i j : Int) : Prop := 0 ≤ j ∧ j ≤ 1000000 ∧ i.natAbs < 2 ^ 64
noncomputable def CMul (i j : Int) : Prop := (-(2 ^ 64) < i ∧ i < 2 ^ 64) ∨ (-(2 ^ 64) < j ∧ j < 2 ^ 64)
theorem CMul.ok {i j : Int} (h : CMul i j) : IntMulOk i j := by
  rcases h with ⟨h1, h2⟩ | ⟨h1, h2⟩
  · exact .of_left (intBits_le_64 h1 h2)
  · exact .of_right (intBits_le_64 h1 h2)

theorem op_add : OpR X (binaryOp .Add) (rI0 fun i j => .int (i + j)) := opI0 fun _ _ _ _ _ _ _ q => add_int q
theorem op_sub : OpR X (binaryOp .Sub) (rI0 fun i j => .int (i - j)) := opI0 fun _ _ _ _ _ _ _ q => sub_int q
theorem op_mul : OpR X (binaryOp .Mult) (rI CMul fun i j => .int (i * j)) := opI fun _ _ _ _ _ _ _ hc q => mul_int q hc.ok
theorem op_fdiv : OpR X (binaryOp .FloorDiv) (rI CDiv fun i j => .int (i / j)) := opI fun i j _ _ _ _ _ hc q => by
  have h1 : (0 : Int) < j := hc.1
  have h2 : j < 1073741824 := hc.2
  exact floordiv_int (by omega) (by rw [Int.fdiv_eq_ediv_of_nonneg i (by omega)]; exact q) (.inl (PyProof.noPylong_small (by omega)))
theorem op_mod : OpR X (binaryOp .Mod) (rI (fun _ j => 0 < j) fun i j => .int (i % j)) := opI fun i j _ _ _ _ _ hc q => by
  have h1 : (0 : Int) < j := hc
  exact mod_int' (by omega) (by rw [Int.fmod_eq_emod_of_nonneg i (by omega)]; exact q)
theorem op_pow : OpR X (binaryOp .Pow) (rI CPow fun i j => .int (i ^ j.toNat)) := opI fun _ _ _ _ _ _ _ hc q => pow_int_small hc.1 hc.2.1 hc.2.2 q



end

noncomputable def scal : V → V → Bool
  | .non, .non => true | .non, .int _ => true | .int _, .non => true | .non, .bl _ => true | .bl _, .non => true | .non, .str _ => true | .str _, .non => true
  | .int _, .int _ => true | .bl _, .bl _ => true | .str _, .str _ => true | .byt _, .byt _ => true
  | .int _, .str _ => true | .str _, .int _ => true | .bl _, .str _ => true | .str _, .bl _ => true
  | _, _ => false
noncomputable def rEq : R2 := fun x y H Q => scal x y = true ∧ Q (.bl (decide (x = y))) H
noncomputable def rNe : R2 := fun x y H Q => scal x y = true ∧ Q (.bl (!decide (x = y))) H

theorem dec_int {i j : Int} : decide (V.int i = V.int j) = (i == j) := by
  rw [Bool.eq_iff_iff]
  simp
theorem dec_bl {i j : Bool} : decide (V.bl i = V.bl j) = (i == j) := by
  rw [Bool.eq_iff_iff]
  simp
theorem dec_str {i j : Str} : decide (V.str i = V.str j) = (i == j) := by
  rw [Bool.eq_iff_iff]
  simp
theorem dec_byt {i j : Array UInt8} : decide (V.byt i = V.byt j) = (i.toList == j.toList) := by
  rw [Bool.eq_iff_iff]
  cases i
  cases j
  simp

section
variable {X : Cx} {a b c : Expr} {ta tb tc : TE} {pos : Pos}
theorem fin_bl {pins : List (Addr × Obj)} {σ : St} {H : Hp} {s : Shared} {Q : VK} {k k' : Bool} (I : Inv X pins σ H s) (q : Q (.bl k) H) (e : k = k') : EP X pins σ Q (.bool k') s := by
  subst e
  exact ⟨.bl k, H, I, rfl, q⟩
theorem op_eq : OpR X (compareOp .Eq) rEq := by
  intro pins s σ H x y v u Q I rx ry h
  obtain ⟨hs, q⟩ := h
  cases x with
  | non =>
    cases rx
    cases y with
    | non => cases ry; exact PySem.EqNone.eq_none_none (fin_bl I q (by simp))
    | bl j => cases ry; exact PySem.EqNone.eq_none_bool (fin_bl I q (by simp))
    | int j => obtain ⟨t', rfl⟩ := ry; exact PySem.EqNone.eq_none_int (fin_bl I q (by simp))
    | str j => obtain ⟨t', rfl⟩ := ry; exact PySem.EqNone.eq_none_str (fin_bl I q (by simp))
    | _ => exact absurd (show false = true from hs) Bool.false_ne_true
  | bl i =>
    cases rx
    cases y with
    | non => cases ry; exact PySem.EqNone.eq_bool_none (fin_bl I q (by simp))
    | bl j => cases ry; exact eq_bool (fin_bl I q dec_bl)
    | str j => obtain ⟨t', rfl⟩ := ry; exact PySem.EqMixed.eq_bool_str (fin_bl I q (by simp))
    | _ => exact absurd (show false = true from hs) Bool.false_ne_true
  | int i =>
    obtain ⟨t, rfl⟩ := rx
    cases y with
    | non => cases ry; exact PySem.EqNone.eq_int_none (fin_bl I q (by simp))
    | int j => obtain ⟨t', rfl⟩ := ry; exact eq_int (fin_bl I q dec_int)
    | str j => obtain ⟨t', rfl⟩ := ry; exact PySem.EqMixed.eq_int_str (fin_bl I q (by simp))
    | _ => exact absurd (show false = true from hs) Bool.false_ne_true
  | str i =>
    obtain ⟨t, rfl⟩ := rx
    cases y with
    | non => cases ry; exact PySem.EqNone.eq_str_none (fin_bl I q (by simp))
    | bl j => cases ry; exact PySem.EqMixed.eq_str_bool (fin_bl I q (by simp))
    | int j => obtain ⟨t', rfl⟩ := ry; exact PySem.EqMixed.eq_str_int (fin_bl I q (by simp))
    | str j => obtain ⟨t', rfl⟩ := ry; exact eq_str (fin_bl I q dec_str)
    | _ => exact absurd (show false = true from hs) Bool.false_ne_true
  | byt i =>
    obtain ⟨t, rfl⟩ := rx
    cases y with
    | byt j => obtain ⟨t', rfl⟩ := ry; exact PySem.W.eq_bytes (fin_bl I q dec_byt)
    | _ => exact absurd (show false = true from hs) Bool.false_ne_true
  | _ => cases y <;> exact absurd (show false = true from hs) Bool.false_ne_true
theorem op_ne : OpR X (compareOp .NotEq) rNe := by
  intro pins s σ H x y v u Q I rx ry h
  obtain ⟨hs, q⟩ := h
  cases x with
  | non =>
    cases rx
    cases y with
    | non => cases ry; exact PySem.EqNone.ne_none_none (fin_bl I q (by simp))
    | bl j => cases ry; exact PySem.EqNone.ne_none_bool (fin_bl I q (by simp))
    | int j => obtain ⟨t', rfl⟩ := ry; exact PySem.EqNone.ne_none_int (fin_bl I q (by simp))
    | str j => obtain ⟨t', rfl⟩ := ry; exact PySem.EqNone.ne_none_str (fin_bl I q (by simp))
    | _ => exact absurd (show false = true from hs) Bool.false_ne_true
  | bl i =>
    cases rx
    cases y with
    | non => cases ry; exact PySem.EqNone.ne_bool_none (fin_bl I q (by simp))
    | bl j => cases ry; exact ne_bool (fin_bl I q (congrArg not dec_bl))
    | str j => obtain ⟨t', rfl⟩ := ry; exact PySem.EqMixed.ne_bool_str (fin_bl I q (by simp))
    | _ => exact absurd (show false = true from hs) Bool.false_ne_true
  | int i =>
    obtain ⟨t, rfl⟩ := rx
    cases y with
    | non => cases ry; exact PySem.EqNone.ne_int_none (fin_bl I q (by simp))
    | int j => obtain ⟨t', rfl⟩ := ry; exact ne_int (fin_bl I q (congrArg not dec_int))
    | str j => obtain ⟨t', rfl⟩ := ry; exact PySem.EqMixed.ne_int_str (fin_bl I q (by simp))
    | _ => exact absurd (show false = true from hs) Bool.false_ne_true
  | str i =>
    obtain ⟨t, rfl⟩ := rx
    cases y with
    | non => cases ry; exact PySem.EqNone.ne_str_none (fin_bl I q (by simp))
    | bl j => cases ry; exact PySem.EqMixed.ne_str_bool (fin_bl I q (by simp))
    | int j => obtain ⟨t', rfl⟩ := ry; exact PySem.EqMixed.ne_str_int (fin_bl I q (by simp))
    | str j => obtain ⟨t', rfl⟩ := ry; exact ne_str (fin_bl I q (congrArg not dec_str))
    | _ => exact absurd (show false = true from hs) Bool.false_ne_true
  | byt i =>
    obtain ⟨t, rfl⟩ := rx
    cases y with
    | byt j => obtain ⟨t', rfl⟩ := ry; exact PySem.W.ne_bytes (fin_bl I q (congrArg not dec_byt))
    | _ => exact absurd (show false = true from hs) Bool.false_ne_true
  | _ => cases y <;> exact absurd (show false = true from hs) Bool.false_ne_true

theorem op_lt : OpR X (compareOp .Lt) (rI0 fun i j => .bl (decide (i < j))) := opB0 fun _ _ _ _ _ _ _ q => lt_int q
theorem op_gt : OpR X (compareOp .Gt) (rI0 fun i j => .bl (decide (j < i))) := opB0 fun _ _ _ _ _ _ _ q => gt_int q
theorem op_ge : OpR X (compareOp .GtE) (rI0 fun i j => .bl (decide (j ≤ i))) := opB0 fun _ _ _ _ _ _ _ q => ge_int q




theorem nomark (b : Expr) {op : CmpOp} (h : op ≠ .In := by decide) (h2 : op ≠ .NotIn := by decide) : behindInMarks op b = false := by
  have e1 : (op == CmpOp.In) = false := by cases op <;> first | rfl | exact absurd rfl h
  have e2 : (op == CmpOp.NotIn) = false := by cases op <;> first | rfl | exact absurd rfl h2
  cases b <;> simp [behindInMarks, e1, e2]
theorem pe_cmpR {op : CmpOp} {r : R2} (ho : OpR X (compareOp op) r) (ha : PE X a ta) (hb : PE X b tb) (hm : behindInMarks op b = false) : PE X (.Compare a [op] [b] pos) (tOp r ta tb) := by
  intro pins s σ H Q I h
  exact wpAny_Compare1 (binT ha hb I h fun v u s2 x y H2 I2 rx ry q => ho pins s2 σ H2 x y v u Q I2 rx ry q) hm
inductive RTest (x : V) (H : Hp) (Q : Bool → Hp → Prop) : Prop
  | mk (k : Bool) (hx : x = .bl k) (q : Q k H) : RTest x H Q
noncomputable def tTest (t : TE) : TT := fun σ H Q => t σ H fun x H' => RTest x H' Q
theorem pt_cmpR {op : CmpOp} {r : R2} (ho : OpR X (compareOp op) r) (ha : PE X a ta) (hb : PE X b tb) (hm : behindInMarks op b = false) : PT X (.Compare a [op] [b] pos) (tTest (tOp r ta tb)) := by
  intro pins s σ H Q I h
  refine wpAny_isTrue_Compare1 (thn (ha pins s σ H _ I h) fun v s1 ⟨x, H1, I1, r1, q1⟩ => thn (hb pins s1 σ H1 _ I1 q1) fun u s2 ⟨y, H2, I2, r2, q2⟩ =>
    thn (ho pins s2 σ H2 x y v u _ I2 r1 r2 q2) fun c s3 ⟨z, H3, I3, r3, k, e, q3⟩ => ?_) hm
  subst e
  cases r3
  exact wpAny_truthy_bool ⟨H3, I3, q3⟩

theorem line63 : (sizeLine : Nat) < 2 ^ 63 := by rw [sizeLine_eq]; decide

inductive J_op_add_str (x : V) (y : V) (H : Hp) (Q : VK) : Prop
  | mk : ∀ i j, (x = .str i) → (y = .str j) → (i.length + j.length ≤ sizeLine) → (Q (.str (i ++ j)) H) → J_op_add_str x y H Q
theorem op_add_str : OpR X (binaryOp .Add) (fun x y H Q => J_op_add_str x y H Q) := by
  intro pins s σ H x y v u Q I rx ry h
  obtain ⟨i, j, rfl, rfl, hz, q⟩ := h
  obtain ⟨t, rfl⟩ := rx
  obtain ⟨t', rfl⟩ := ry
  exact add_str (fun t' tk => ⟨.str (i ++ j), H, I.tok _, ⟨_, rfl⟩, q⟩) hz


theorem vals1 {x : V} {us : List Value} (r : Vals [x] us) : ∃ u, us = [u] ∧ RelV x u := by
  cases r with
  | cons r1 r2 => cases r2; exact ⟨_, rfl, r1⟩
theorem vals2 {x y : V} {us : List Value} (r : Vals [x, y] us) : ∃ u w', us = [u, w'] ∧ RelV x u ∧ RelV y w' := by
  cases r with
  | cons r1 r2 =>
    cases r2 with
    | cons r3 r4 => cases r4; exact ⟨_, _, rfl, r1, r3⟩
end
end L2

namespace L2
open PySem PySem.Spec PyProof.Rows

structure ObjM (h : Heap) (x dx C : Addr) (mA : Str → Option Value) : Prop where
  obj : h.get? x = some (PySem.W.instObj C dx)
  ns : h.Ns1 dx mA
  ne : dx ≠ x

theorem lookIn_ns {h : Heap} {dx : Addr} {mA : Str → Option Value} (n : h.Ns1 dx mA) : ∃ od, h.get? dx = some od ∧ ∀ name, PySem.W.lookIn name od = some (mA name) := by
  obtain ⟨o, es, ep, ho, hd, hk, _, hm⟩ := n
  refine ⟨o, ho, fun name => ?_⟩
  have e := hm name
  unfold nsFind findBy at e
  rw [← Array.find?_toList] at e
  unfold PySem.W.lookIn
  rw [hd]
  dsimp only
  split
  · rename_i y q
    rw [q] at e
    exact congrArg some e
  · rename_i q
    rw [q] at e
    have a : es.toList.any (·.refKey) = false := by
      rw [List.any_eq_false]
      intro y hy
      obtain ⟨z, t, hkey⟩ := hk y (Array.mem_toList_iff.mp hy)
      simp [DictEntry.refKey, hkey]
    have a' : ¬ es.toList.any (·.refKey) = true := by rw [a]; exact Bool.false_ne_true
    rw [if_neg a']
    exact congrArg some e

theorem ObjM.look {h : Heap} {x dx C : Addr} {mA : Str → Option Value} (I : ObjM h x dx C mA) : ∃ od, PySem.W.InstAt h x (PySem.W.instObj C dx) C (some od) ∧ ∀ name, PySem.W.lookIn name od = some (mA name) :=
  let ⟨od, ho, hl⟩ := lookIn_ns I.ns
  ⟨od, ⟨I.obj, rfl, rfl, ho⟩, hl⟩

section
variable {prog : Program} {w : World} {A : Around} {E : Value → Shared → Prop} {s : Shared} {K : PySem.W.Frag} {x dx C f : Addr} {mA : Str → Option Value} {name : Str} {v : Value}

theorem get_map {expr : Bool} {Q : Value → Shared → Prop} (X : K.In s.heap) (I : ObjM s.heap x dx C mA) (hg : PySem.W.plainGet K C name = true) (hh : PySem.W.hasDictIn K C = true)
    (ha : PySem.W.findIn K (.ref C) name = some none) (hv : mA name = some v) (hv' : PySem.W.handedIn v = true) (h : Q v { s with toks := s.toks + 1 }) :
    wpAny (model prog w) A (getAttr (.ref x) name expr) Q E s := by
  obtain ⟨od, J, hl⟩ := I.look
  exact PySem.W.get_value X J (PySem.W.plainGet_of hg).1 (PySem.W.findObj_own hh ha rfl (by rw [hl, hv])) hv' h


theorem get_meth {pl : Sem Bool} {Q : Value × List Value → Shared → Prop} (X : K.In s.heap) (I : ObjM s.heap x dx C mA) (hg : PySem.W.plainGet K C name = true)
    (hf : PySem.W.findIn K (.ref C) name = some (some (.ref f))) (ht : PySem.W.isFn K (.ref f) = true) (hv : mA name = none) (h : Q (.ref f, [.ref x]) s) :
    wpAny (model prog w) A (getMethod (.ref x) name pl) Q E s := by
  obtain ⟨od, J, hl⟩ := I.look
  exact PySem.W.method_fn X J (PySem.W.plainGet_of hg).1 (PySem.W.plainGet_of hg).2 hf (beq_iff_eq.mp ht) (by show (PySem.W.lookIn name od).map (·.isSome) = some false; rw [hl, hv]; rfl) h

theorem set_map {ns : List Str} {Q : Unit → Shared → Prop} (X : K.In s.heap) (I : ObjM s.heap x dx C mA)
    (hs : PySem.W.findIn K (.ref C) "__setattr__" = some (some (.builtin "object.__setattr__"))) (hp : PySem.W.plainOver K C = true) (ht : PySem.W.takerIn K C name = some none) (hh : PySem.W.hasDictIn K C = true)
    (hw : PySem.Within mA ns) (hsz : ns.length ≤ sizeLine)
    (h : ∀ h', ObjM h' x dx C (fun y => if y = name then some v else mA y) → Heap.SameBut dx s.heap h' → Q () { s with heap := h', toks := s.toks + 2 }) :
    wpAny (model prog w) A (setAttr (.ref x) name v) Q E s := by
  obtain ⟨od, J, hl⟩ := I.look
  refine PySem.W.set_plain X J hs (PySem.W.osa_open (s := { s with toks := s.toks + 1 }) (r := none) X J hp ht fun b => ?_)
  obtain ⟨cd, hc, hd'⟩ := PySem.W.any_some hh
  have hx : s.heap.get? x = some ⟨.ref C, some dx, .plain, #[]⟩ := I.obj
  refine wpAny_bind (wpAny_pure (wpAny_bind (wpAny_bind (wpAny_loadPart hx (wpAny_bind (PySem.W.Looks.here (s := { s with toks := s.toks + 1 }) (PySem.W.looks_clsIn X hc) ?_))))))
  rw [hd']
  refine wpAny_pure (a := some dx) (wpAny_bind (wpAny_pure (wpAny_bind ?_)))
  refine wpAny_nsSet1 (s := { s with toks := s.toks + 1 }) I.ns fun h' hn2 hs2 => ?_
  obtain ⟨oD, esD, epD, hoD, hdD, hcD⟩ := hn2.count (PySem.Within.cons name v hw)
  refine wpAny_bind (wpAny_lookBehind hoD (by rw [hdD]; exact pastItsLine_dict (Nat.le_trans hcD (by rw [List.length_cons]; omega))) ?_)
  exact wpAny_pure (h _ ⟨(hs2.2 _ (Ne.symm I.ne)).trans I.obj, hn2, I.ne⟩ hs2)

theorem make_map {R : Result → Shared → Prop} {vs : List Value} {kw : List (Str × Value)} (X : K.In s.heap) (hm : PySem.W.makesIn K C = true)
    (hi : PySem.W.findIn K (.ref C) "__init__" = some (some (.ref f))) (hf : PySem.W.typeIn K (.ref f) = some (.type "function"))
    (h : codeAny (model prog w) (A.under (.builtin "type.__call__" ⟨.ref C :: vs, kw⟩)) (.call (.ref f) ⟨.ref (s.heap.objs.size + 1) :: vs, kw⟩) (PySem.W.InitBack (s.heap.objs.size + 1) R)
      { s with heap := (s.heap.push PySem.W.emptyDict).push (PySem.W.instObj C s.heap.objs.size) }) :
    codeAny (model prog w) A (.call (.ref C) ⟨vs, kw⟩) R s := by
  obtain ⟨hh, g, d, t, os⟩ := s
  exact PySem.W.make_core (PySem.W.makes_of X hm) (PySem.W.looks_findIn X hi) (fun self => PySem.W.bind_fn X self hf) (.inl rfl) h
end

noncomputable def putF (f : Str) (v : V) : List (Str × V) → List (Str × V)
  | [] => [(f, v)]
  | (g, x) :: r => if g = f then (g, v) :: r else (g, x) :: putF f v r
theorem lookup_putF (f g : Str) (v : V) : ∀ fs : List (Str × V), (putF f v fs).lookup g = if g = f then some v else fs.lookup g
  | [] => by
    show List.lookup g [(f, v)] = _
    by_cases h : g = f
    · have hb : (g == f) = true := beq_iff_eq.mpr h
      simp only [List.lookup, hb, if_pos h]
    · have hb : (g == f) = false := beq_eq_false_iff_ne.mpr h
      simp only [List.lookup, hb, if_neg h]
  | (k, x) :: r => by
    have ih := lookup_putF f g v r
    rw [show putF f v ((k, x) :: r) = (if k = f then (k, v) :: r else (k, x) :: putF f v r) from rfl]
    by_cases hk : k = f
    · rw [if_pos hk]
      by_cases h : g = k
      · have hb : (g == k) = true := beq_iff_eq.mpr h
        simp only [List.lookup, hb, if_pos (h.trans hk)]
      · have hb : (g == k) = false := beq_eq_false_iff_ne.mpr h
        simp only [List.lookup, hb, if_neg (fun e : g = f => h (e.trans hk.symm))]
    · rw [if_neg hk]
      by_cases h : g = k
      · have hb : (g == k) = true := beq_iff_eq.mpr h
        simp only [List.lookup, hb, if_neg (fun e : g = f => hk (h.symm.trans e))]
      · have hb : (g == k) = false := beq_eq_false_iff_ne.mpr h
        simp only [List.lookup, hb]
        exact ih
theorem keys_putF (f : Str) (v : V) : ∀ fs : List (Str × V), f ∈ (putF f v fs).map (·.1) ∧ ∀ g, g ∈ fs.map (·.1) → g ∈ (putF f v fs).map (·.1)
  | [] => ⟨by simp [putF], fun g h => by simp at h⟩
  | (k, x) :: r => by
    obtain ⟨i1, i2⟩ := keys_putF f v r
    rw [show putF f v ((k, x) :: r) = (if k = f then (k, v) :: r else (k, x) :: putF f v r) from rfl]
    by_cases hk : k = f
    · rw [if_pos hk]
      subst hk
      exact ⟨by simp, fun g h => by simpa using h⟩
    · rw [if_neg hk]
      refine ⟨?_, fun g h => ?_⟩
      · rw [List.map_cons]
        exact List.mem_cons_of_mem _ i1
      · rw [List.map_cons] at h ⊢
        rcases List.mem_cons.mp h with e | e
        · exact List.mem_cons.mpr (.inl e)
        · exact List.mem_cons_of_mem _ (i2 g e)
theorem length_putF (f : Str) (v : V) : ∀ fs : List (Str × V), (putF f v fs).length ≤ fs.length + 1
  | [] => by simp [putF]
  | (k, x) :: r => by
    have ih := length_putF f v r
    rw [show putF f v ((k, x) :: r) = (if k = f then (k, v) :: r else (k, x) :: putF f v r) from rfl]
    by_cases hk : k = f
    · rw [if_pos hk, List.length_cons, List.length_cons]; omega
    · rw [if_neg hk, List.length_cons, List.length_cons]; omega

theorem RelO.some_of {v : V} {o : Option Value} (r : RelO (some v) o) : ∃ u, o = some u ∧ RelV v u := by
  cases o with
  | none => exact (show False from r).elim
  | some u => exact ⟨u, rfl, r⟩
theorem RelO.none_of {o : Option Value} (r : RelO none o) : o = none := by
  cases o with
  | none => rfl
  | some u => exact (show False from r).elim
theorem handed_of {v : V} {u : Value} (r : RelV v u) : PySem.W.handedIn u = true := by
  cases v with
  | non => cases (show u = Value.none from r); rfl
  | bl b => cases (show u = Value.bool b from r); rfl
  | int i => obtain ⟨t, e⟩ := (show ∃ t, u = Value.int i t from r); cases e; rfl
  | str x => obtain ⟨t, e⟩ := (show ∃ t, u = Value.str x t from r); cases e; rfl
  | byt b => obtain ⟨t, e⟩ := (show ∃ t, u = Value.bytes b t from r); cases e; rfl
  | flt b => obtain ⟨t, e⟩ := (show ∃ t, u = Value.float b t from r); cases e; rfl
  | ref a => cases (show u = Value.ref a from r); rfl
  | ty n => cases (show u = Value.type n from r); rfl

section
variable {P : Program} {w : World} {H H' : Hp} {h h' : Heap} {a C dx : Addr} {fs fs' : List (Str × V)}
theorem ins_get (hok : HOk P w H h) (e : H a = some (.ins C dx fs)) : ∃ mA, ObjM h a dx C mA ∧ (∀ f, RelO (fs.lookup f) (mA f)) ∧ PySem.Within mA (fs.map (·.1)) ∧ fs.length ≤ 1000 ∧ H dx = some (.own a) := by
  obtain ⟨d, z, ne, ob, mA, n, r, q⟩ := (show ObjOk P w H h a (.ins C dx fs) from hok a _ e)
  exact ⟨mA, ⟨ob, n, ne⟩, r, q, z, d⟩
end

structure Cls (K : PySem.W.Frag) (C : Addr) : Prop where
  pg : PySem.W.plainGet K C Str.empty = true
  hd : PySem.W.hasDictIn K C = true
  po : PySem.W.plainOver K C = true
  sa : PySem.W.findIn K (.ref C) "__setattr__" = some (some (.builtin "object.__setattr__"))
theorem Cls.get {K : PySem.W.Frag} {C : Addr} (c : Cls K C) (f : Str) : PySem.W.plainGet K C f = true := c.pg
noncomputable def NoAttr (K : PySem.W.Frag) (C : Addr) (f : Str) : Prop := PySem.W.findIn K (.ref C) f = some none
theorem NoAttr.taker {K : PySem.W.Frag} {C : Addr} {f : Str} (n : NoAttr K C f) : PySem.W.takerIn K C f = some none := by
  unfold PySem.W.takerIn
  rw [show PySem.W.findIn K (.ref C) f = some none from n]
  rfl
structure Meth (K : PySem.W.Frag) (C : Addr) (m : Str) (f : Addr) : Prop where
  at_ : PySem.W.findIn K (.ref C) m = some (some (.ref f))
  fn : PySem.W.isFn K (.ref f) = true
  kp : PySem.W.keepIn K (.ref f) = true

section
variable {X : Cx} {pins : List (Addr × Obj)} {σ : St} {H : Hp} {s : Shared} {a C dx : Addr} {fs : List (Str × V)} {f : Str} {v : V} {A : Around} {E : Value → Shared → Prop}

theorem getattr_ok {b : Bool} {Q : Value → Shared → Prop} (I : Inv X pins σ H s) (e : H a = some (.ins C dx fs)) (c : Cls X.K C) (n : NoAttr X.K C f) (l : fs.lookup f = some v)
    (h : ∀ u s', Inv X pins σ H s' → RelV v u → Q u s') : wpAny (model X.prog X.w) A (getAttr (.ref a) f b) Q E s := by
  obtain ⟨mA, O, r, _, _, _⟩ := ins_get I.hok e
  obtain ⟨u, hu, ru⟩ := RelO.some_of (v := v) (o := mA f) (by rw [← l]; exact r f)
  exact get_map I.kIn O (c.get f) c.hd n hu (handed_of ru) (h u _ (I.tok _) ru)


theorem getmeth_ok {m : Str} {g : Addr} {pl : Sem Bool} {Q : Value × List Value → Shared → Prop} (I : Inv X pins σ H s) (e : H a = some (.ins C dx fs)) (c : Cls X.K C) (k : Meth X.K C m g) (l : fs.lookup m = none)
    (h : Q (.ref g, [.ref a]) s) : wpAny (model X.prog X.w) A (getMethod (.ref a) m pl) Q E s := by
  obtain ⟨mA, O, r, _, _, _⟩ := ins_get I.hok e
  have hn : mA m = none := RelO.none_of (by rw [← l]; exact r m)
  exact get_meth I.kIn O (c.get m) k.at_ k.fn hn h

theorem setattr_ok {y : V} {u : Value} {Q : Unit → Shared → Prop} (I : Inv X pins σ H s) (e : H a = some (.ins C dx fs)) (c : Cls X.K C) (n : NoAttr X.K C f) (hl : fs.length < 1000) (ry : RelV y u)
    (h : ∀ s', Inv X pins σ (upd H a (.ins C dx (putF f y fs))) s' → Q () s') : wpAny (model X.prog X.w) A (setAttr (.ref a) f u) Q E s := by
  obtain ⟨mA, O, r, wi, _, ho⟩ := ins_get I.hok e
  have hz : (fs.map (·.1)).length ≤ sizeLine := by rw [List.length_map, sizeLine_eq]; omega
  refine set_map I.kIn O c.sa c.po n.taker c.hd wi hz fun h' O' sb => h _ ?_
  have hd : ∃ o, h'.get? dx = some o := let ⟨o, _, _, e', _⟩ := O'.ns; ⟨o, e'⟩
  refine I.write (x := a) (e := dx) (by rw [e]; exact True.intro) (.inr ho) (fun b q hb z => (sb.2 b hb).trans z) hd ?_
  refine ⟨by rw [upd_ne O.ne]; exact ho, ?_, O.ne, O'.obj, _, O'.ns, fun g => ?_, fun g hg => ?_⟩
  · have := length_putF f y fs; omega
  · show RelO ((putF f y fs).lookup g) (if g = f then some u else mA g)
    rw [lookup_putF]
    by_cases q : g = f
    · rw [if_pos q, if_pos q]; exact ry
    · rw [if_neg q, if_neg q]; exact r g
  · by_cases q : g = f
    · rw [q]; exact (keys_putF f y fs).1
    · refine (keys_putF f y fs).2 g (wi g fun z => hg ?_)
      show (if g = f then some u else mA g) = none
      rw [if_neg q]; exact z

theorem Inv.made (I : Inv X pins σ H s) : Inv X pins σ (upd (upd H s.heap.objs.size (.own (s.heap.objs.size + 1))) (s.heap.objs.size + 1) (.ins C s.heap.objs.size []))
    { s with heap := (s.heap.push PySem.W.emptyDict).push (PySem.W.instObj C s.heap.objs.size) } := by
  have e1 : (s.heap.push PySem.W.emptyDict).get? s.heap.objs.size = some PySem.W.emptyDict := Heap.get?_push_size s.heap rfl
  have e2 : ((s.heap.push PySem.W.emptyDict).push (PySem.W.instObj C s.heap.objs.size)).get? (s.heap.objs.size + 1) = some (PySem.W.instObj C s.heap.objs.size) := by
    have := Heap.get?_push_size (s.heap.push PySem.W.emptyDict) (o := PySem.W.instObj C s.heap.objs.size) rfl
    rwa [Heap.size_push] at this
  have e3 : (s.heap.push PySem.W.emptyDict).Ns s.heap.objs.size (fun _ => none) := ⟨PySem.W.emptyDict, #[], _, e1, rfl, (fun e he => absurd he (by simp)), fun _ => rfl⟩
  have I1 := I.laid (a := s.heap.objs.size) (o := .own (s.heap.objs.size + 1)) (h' := s.heap.push PySem.W.emptyDict) (t' := s.toks) (fun b u q => Heap.get?_push_of_some _ q) (Nat.le_refl _) ⟨_, e1⟩
  refine I1.laid (a := s.heap.objs.size + 1) (o := .ins C s.heap.objs.size []) (t' := s.toks) (fun b u q => Heap.get?_push_of_some _ q) (Nat.le_of_eq (Heap.size_push _ _)) ?_
  have ne : s.heap.objs.size ≠ s.heap.objs.size + 1 := Nat.ne_of_lt (Nat.lt_succ_self _)
  refine ⟨by rw [upd_ne ne, upd_same], Nat.zero_le _, ne, e2, fun _ => none, (Heap.Ns1.of_empty e3).at fun o q => Heap.get?_push_of_some _ q, fun _ => True.intro, fun y hy => absurd rfl hy⟩

theorem attr_of {prog : Program} {w : World} {env : Env} {e : Expr} {f : Str} {pos : Pos} {s : Shared} {Q : Value → Shared → Prop} (hb : attributeBase e f env (eval e env) = eval e env)
    (h : wpAny (model prog w) A (eval e env) (fun o s₁ => wpAny (model prog w) A (getAttr o f true) Q E s₁) E s) : wpAny (model prog w) A (eval (.Attribute e f pos) env) Q E s :=
  Attribute_any_ h (by rw [arm_eval_Attribute, hb])
end

inductive RFld (K : PySem.W.Frag) (f : Str) (x : V) (H : Hp) (Q : VK) : Prop
  | mk (a C dx : Addr) (fs : List (Str × V)) (v : V) (hx : x = .ref a) (h : H a = some (.ins C dx fs)) (c : Cls K C) (n : NoAttr K C f) (l : fs.lookup f = some v) (q : Q v H) : RFld K f x H Q
noncomputable def tFld (K : PySem.W.Frag) (ta : TE) (f : Str) : TE := fun σ H Q => ta σ H fun x H1 => RFld K f x H1 Q
inductive J_sFld (K : PySem.W.Frag) (f : Str) (D : Ends) (σ : St) (y : V) (x : V) (H2 : Hp) : Prop
  | mk : ∀ a C dx fs, (x = .ref a) → (H2 a = some (.ins C dx fs)) → (Cls K C) → (NoAttr K C f) → (fs.length < 1000) → (D.nx σ (upd H2 a (.ins C dx (putF f y fs)))) → J_sFld K f D σ y x H2
noncomputable def sFld (K : PySem.W.Frag) (ta tv : TE) (f : Str) : TS := fun D σ H => tv σ H fun y H1 => ta σ H1 fun x H2 => J_sFld K f D σ y x H2

section
variable {X : Cx} {o e value : Expr} {f : Str} {pos pos' tpos : Pos} {ta tv : TE}
theorem pe_fld (he : PE X e ta) (hb : attributeBase e f X.env (eval e X.env) = eval e X.env) : PE X (.Attribute e f pos) (tFld X.K ta f) := by
  intro pins s σ H Q I h
  refine attr_of hb (thn (he pins s σ H _ I h) fun u s1 ⟨x, H1, I1, rx, a, C, dx, fs, v, ex, ea, c, n, l, q⟩ => ?_)
  subst ex
  obtain rfl : u = Value.ref a := rx
  exact getattr_ok I1 ea c n l fun u' s2 I2 ru => ⟨v, H1, I2, ru, q⟩
theorem ps_fld (ha : PE X o ta) (hv : PE X value tv) (hs : swapsWith value (some (.Attribute o f pos')) pos.line X.env = pure false) : PS X (.Assign [.Attribute o f pos'] value pos) (sFld X.K ta tv f) := by
  intro pins s σ H D I h
  refine plainObj_wpAny_Assign_Attribute (thn (hv pins s σ H _ I h) fun u s1 ⟨y, H1, I1, ry, q⟩ => thn (ha pins s1 σ H1 _ I1 q) fun ov s2 ⟨x, H2, I2, rx, a, C, dx, fs, ex, ea, c, n, l, q2⟩ => ?_) hs
  subst ex
  obtain rfl : ov = Value.ref a := rx
  exact setattr_ok I2 ea c n l ry fun s3 I3 => ⟨σ, _, I3, q2⟩

end

section
variable {X : Cx} {pins : List (Addr × Obj)} {σ : St} {H : Hp} {s : Shared} {A : Around} {E : Value → Shared → Prop} {Q : Value → Shared → Prop} {c : Value} {b : Bool}
inductive TyOf (K : PySem.W.Frag) (H : Hp) : V → Value → Prop where
  | non : TyOf K H .non (.type "NoneType")
  | bl (x : Bool) : TyOf K H (.bl x) (.type "bool")
  | int (i : Int) : TyOf K H (.int i) (.type "int")
  | str (x : Str) : TyOf K H (.str x) (.type "str")
  | flt (x : UInt64) : TyOf K H (.flt x) (.type "float")
  | lst {a : Addr} {xs : List V} (e : H a = some (.lst xs)) : TyOf K H (.ref a) (.type "list")
  | frz {a : Addr} {o : Obj} {xs : List V} (e : H a = some (.frz o (.lst xs))) : TyOf K H (.ref a) (.type "list")
  | tup {a : Addr} {xs : List V} (e : H a = some (.tup xs)) : TyOf K H (.ref a) (.type "tuple")
  | dK {a : Addr} {kvs : List (Key × V)} (e : H a = some (.dK kvs)) : TyOf K H (.ref a) (.type "dict")
  | dT {a : Addr} {kvs : List (List Key × V)} (e : H a = some (.dT kvs)) : TyOf K H (.ref a) (.type "dict")
  | ins {a C dx : Addr} {fs : List (Str × V)} (e : H a = some (.ins C dx fs)) (cl : Cls K C) (ha : PySem.W.findIn K (.ref C) "__class__" = some (some (.builtin "object.__class__")))
      (hn : PySem.W.specialIn K (.builtin "object.__class__") "__get__" = some (some (.builtin "getset_descriptor.__get__"))) (htk : PySem.W.takesIn K (.builtin "object.__class__") = some true)
      (hm : PySem.W.mroIn K C (.type "object") = some true) : TyOf K H (.ref a) (.ref C)
theorem isinst_ok {x : V} {u t : Value} (I : Inv X pins σ H s) (rx : RelV x u) (ty : TyOf X.K H x t) (e : PySem.W.kitOne X.K t c = some b) (h : ∀ tk, Q (.bool b) { s with toks := tk }) :
    wpAny (model X.prog X.w) A (call (.builtin "isinstance") [u, c]) Q E s := by
  cases ty with
  | non => cases (show u = Value.none from rx); exact PySem.W.kia_one PySem.W.kitx_none I.kIn True.intro e (fun z => nomatch z) h
  | bl y => cases (show u = Value.bool y from rx); exact PySem.W.kia_one PySem.W.kitx_bool I.kIn True.intro e (fun z => nomatch z) h
  | int i => obtain ⟨t, q⟩ := (show ∃ t, u = Value.int i t from rx); cases q; exact PySem.W.kia_one PySem.W.kitx_int I.kIn True.intro e (fun z => nomatch z) h
  | str y => obtain ⟨t, q⟩ := (show ∃ t, u = Value.str y t from rx); cases q; exact PySem.W.kia_one PySem.W.kitx_str I.kIn True.intro e (fun z => nomatch z) h
  | flt y => obtain ⟨t, q⟩ := (show ∃ t, u = Value.float y t from rx); cases q; exact PySem.W.kia_one PySem.W.kitx_float I.kIn True.intro e (fun z => nomatch z) h
  | @lst a xs ea =>
    cases (show u = Value.ref a from rx)
    obtain ⟨_, _, n, _, h1⟩ := (show ObjOk X.prog X.w H s.heap a (.lst xs) from I.hok a _ ea)
    exact PySem.W.kia_one PySem.W.kitx_list I.kIn ⟨_, h1, rfl⟩ e (fun z => nomatch z) h
  | @frz a ob xs ea =>
    cases (show u = Value.ref a from rx)
    obtain ⟨_, _, _, n, _, h1⟩ := (show ObjOk X.prog X.w H s.heap a (.frz ob (.lst xs)) from I.hok a _ ea)
    exact PySem.W.kia_one PySem.W.kitx_list I.kIn ⟨_, h1, rfl⟩ e (fun z => nomatch z) h
  | @tup a xs ea =>
    cases (show u = Value.ref a from rx)
    obtain ⟨_, _, _, p⟩ := (show ObjOk X.prog X.w H s.heap a (.tup xs) from I.hok a _ ea)
    obtain ⟨o, h1, h2, _⟩ := p
    exact PySem.W.kia_one PySem.W.kitx_tuple I.kIn ⟨o, h1, h2⟩ e (fun z => nomatch z) h
  | @dK a kvs ea =>
    cases (show u = Value.ref a from rx)
    obtain ⟨_, _, vs, _, p⟩ := (show ObjOk X.prog X.w H s.heap a (.dK kvs) from I.hok a _ ea)
    obtain ⟨o, es, ep, h1, h2, _⟩ := p
    exact PySem.W.kia_one PySem.W.kitx_dict I.kIn ⟨o, h1, h2.1⟩ e (fun z => nomatch z) h
  | @dT a kvs ea =>
    cases (show u = Value.ref a from rx)
    obtain ⟨_, _, xs, _, o, es, ep, h1, h2, _⟩ := (show ObjOk X.prog X.w H s.heap a (.dT kvs) from I.hok a _ ea)
    exact PySem.W.kia_one PySem.W.kitx_dict I.kIn ⟨o, h1, h2.1⟩ e (fun z => nomatch z) h
  | @ins a C dx fs ea cl ha hn htk hm =>
    cases (show u = Value.ref a from rx)
    obtain ⟨mA, O, _⟩ := ins_get I.hok ea
    obtain ⟨od, J, _⟩ := O.look
    exact PySem.W.kia_one (PySem.W.kitx_own (cl.get _) cl.hd ha hn htk hm) I.kIn J e (fun z => nomatch z) h
end
end L2

namespace L2
open PySem PySem.Spec PyProof.Rows

structure Room (k : Nat) (A : Around) : Prop where
  hd : A.handled = none
  dp : A.depth + 3 * k + 5 < recursionLimit
  un : A.units + 16 * k + 200 < cLine
theorem Room.mono {j k : Nat} {A : Around} (r : Room k A) (h : j ≤ k) : Room j A := ⟨r.hd, by have := r.dp; omega, by have := r.un; omega⟩
theorem Room.deeper {k : Nat} {A : Around} (r : Room (k + 1) A) (env : Env) : Room k (A.deeper env) :=
  ⟨r.hd, by have := r.dp; show A.depth + 1 + 3 * k + 5 < _; omega, by have := r.un; show A.units + 3 + 16 * k + 200 < _; omega⟩
theorem make_depth {A : Around} {C : Addr} {us : List Value} {kw : List (Str × Value)} : (A.under (.builtin "type.__call__" ⟨.ref C :: us, kw⟩)).depth = A.depth + 1 := by
  first | rfl | simp [Around.under, Code.weight, Code.isCreation, Code.isGuard, Code.isCaller, Code.frames, Code.isFrame, guardIds]
theorem make_units {A : Around} {C : Addr} {us : List Value} {kw : List (Str × Value)} : (A.under (.builtin "type.__call__" ⟨.ref C :: us, kw⟩)).units = A.units + 1 := by
  first | rfl | simp [Around.under, Code.cUnits, Code.frames, Code.isFrame]
theorem Room.make {k : Nat} {A : Around} (r : Room (k + 1) A) (C : Addr) (us : List Value) (kw : List (Str × Value)) : Room k (A.under (.builtin "type.__call__" ⟨.ref C :: us, kw⟩)) :=
  ⟨r.hd, by have := r.dp; rw [make_depth]; omega, by have := r.un; rw [make_units]; omega⟩
theorem Room.depth {k : Nat} {A : Around} (r : Room k A) : A.depth < recursionLimit := by have := r.dp; omega
theorem Room.units {k : Nat} {A : Around} (r : Room k A) : A.units + 64 < cLine := by have := r.un; omega
theorem Room.units0 {k : Nat} {A : Around} (r : Room k A) : A.units < cLine := by have := r.un; omega

noncomputable def tNil : TA := fun _ H Q => Q [] H
noncomputable def tCons (ta : TE) (tr : TA) : TA := fun σ H Q => ta σ H fun x H1 => tr σ H1 fun xs H2 => Q (x :: xs) H2
section
variable {X : Cx} {e : Expr} {es : List Expr} {te : TE} {t : TA} {pos : Pos}
theorem pa_nil : PA X [] tNil := fun _ _ _ _ H Q I h => Calls.spliced_nil ⟨[], H, I, .nil, h⟩
theorem pa_cons (ha : PE X e te) (hr : PA X es t) (hs : starEach (e :: es) X.env = (false, eval e X.env) :: starEach es X.env := by rfl) : PA X (e :: es) (tCons te t) := by
  intro pos pins s σ H Q I h
  rw [hs]
  show wpAny _ _ (spliced ((false, eval e X.env) :: backTo pos (starEach es X.env))) _ _ s
  refine Calls.spliced_cons (thn (ha pins s σ H _ I h) fun u s1 ⟨x, H1, I1, r1, q1⟩ => ?_)
  exact thn (hr pos pins s1 σ H1 _ I1 q1) fun us s2 ⟨xs, H2, I2, r2, q2⟩ => ⟨x :: xs, H2, I2, .cons r1 r2, q2⟩

noncomputable def tTup (t : TA) : TE := fun σ H Q => t σ H fun xs H1 => xs.length ≤ sizeLine ∧ ∀ p, H1 p = none → Q (.ref p) (upd H1 p (.tup xs))
noncomputable def tLst (t : TA) : TE := fun σ H Q => t σ H fun xs H1 => xs.length ≤ sizeLine ∧ ∀ p, H1 p = none → Q (.ref p) (upd H1 p (.lst xs))
theorem pe_tup {x1} (h : PA X es t) : PE X (.Tuple es x1 pos) (tTup t) := by
  intro pins s σ H Q I hq
  refine wpAny_Tuple_spliced (thn (h pos pins s σ H _ I hq) fun us s1 ⟨xs, H1, I1, r, z, q⟩ => ⟨by rw [← r.length]; exact z, ?_⟩)
  have hf : H1 s1.heap.objs.size = none := I1.hok.fresh (Nat.le_refl _)
  refine ⟨.ref s1.heap.objs.size, upd H1 s1.heap.objs.size (.tup xs), I1.laid (t' := s1.toks) (fun b u e => Heap.get?_push_of_some _ e) (Nat.le_refl _) ?_, rfl, q _ hf⟩
  exact ⟨z, us, r, ⟨_, Heap.get?_push_size _ rfl, rfl, _, rfl, rfl⟩⟩
theorem pe_lst (h : PA X es t) : PE X (.List es pos) (tLst t) := by
  intro pins s σ H Q I hq
  refine wpAny_List_spliced (thn (h pos pins s σ H _ I hq) fun us s1 ⟨xs, H1, I1, r, z, q⟩ => ⟨by rw [← r.length]; exact z, ?_⟩)
  have hf : H1 s1.heap.objs.size = none := I1.hok.fresh (Nat.le_refl _)
  refine ⟨.ref s1.heap.objs.size, upd H1 s1.heap.objs.size (.lst xs), I1.laid (t' := s1.toks) (fun b u e => Heap.get?_push_of_some _ e) (Nat.le_refl _) ?_, rfl, q _ hf⟩
  exact ⟨z, us, 0, r, Heap.get?_push_size _ rfl⟩
end

noncomputable abbrev Sp := List V → Hp → VK → XK → Prop
noncomputable abbrev CXT := List Env → Hp → Shared → XK → Value → Shared → Prop

structure Env0 (P : Program) (w : World) (K : PySem.W.Frag) (mg : Str → Option Value) (base : Heap) (A : Around) (outer : List Env) (s : Shared) (H : Hp) : Prop where
  frames : A.frames = some outer
  mod : Mod K mg base
  bs : ∀ b o, base.get? b = some o → s.heap.get? b = some o ∧ H b = none
  bsz : base.objs.size ≤ s.heap.objs.size
  funs : s.heap.FunFrames base outer
  frf : ∀ b ∈ frs outer, H b = none
  hok : HOk P w H s.heap
  bare : AllBare s.gens
noncomputable def CE (outer : List Env) (P : Program) (w : World) (H : Hp) (s : Shared) (Q : VK) (u : Value) (s' : Shared) : Prop :=
  ∃ v H', s'.os = s.os ∧ AllBare s'.gens ∧ Un (frs outer) [] H H' s.heap s'.heap ∧ HOk P w H' s'.heap ∧ RelV v u ∧ Q v H'
noncomputable def CR (CX : CXT) (outer : List Env) (P : Program) (w : World) (H : Hp) (s : Shared) (Q : VK) (E : XK) (r : Result) (s' : Shared) : Prop :=
  match r with
  | .ok (.ret u) => CE outer P w H s Q u s'
  | .ok _ => False
  | .error e => CX outer H s E e s'
structure FnOk (P : Program) (w : World) (K : PySem.W.Frag) (mg : Str → Option Value) (base : Heap) (CX : CXT) (k : Nat) (f : Addr) (fd : FuncData) (ps : List Str) (sp : Sp) : Prop where
  len : ∀ vs H Q E, sp vs H Q E → vs.length = ps.length
  run : ∀ (A : Around) (outer : List Env) (s : Shared) (H : Hp) (args : Args) (us : List Value) (vs : List V) (Q : VK) (E : XK), Room k A → Env0 P w K mg base A outer s H → BindsTo s fd args (ps.zip us) → Vals vs us → sp vs H Q E →
    codeAny (model P w) A (.call (.ref f) args) (CR CX outer P w H s Q E) s

theorem Env0.make {P : Program} {w : World} {K : PySem.W.Frag} {mg : Str → Option Value} {base : Heap} {A : Around} {outer : List Env} {s : Shared} {H : Hp} (e : Env0 P w K mg base A outer s H) (C : Addr) (us : List Value) (kw : List (Str × Value)) :
    Env0 P w K mg base (A.under (.builtin "type.__call__" ⟨.ref C :: us, kw⟩)) outer s H := ⟨by first | exact e.frames | (simpa [Around.under, Code.envs, Code.isFrame, pushEnvs] using e.frames), e.mod, e.bs, e.bsz, e.funs, e.frf, e.hok, e.bare⟩

section
variable {X : Cx} {pins : List (Addr × Obj)} {σ : St} {H : Hp} {s s' : Shared}
theorem Inv.env0 (I : Inv X pins σ H s) : Env0 X.prog X.w X.K X.mg X.base X.A X.stack s H :=
  ⟨I.ok.frames, I.ok.mod, I.bs, Nat.le_trans I.ok.bsz I.sz, I.stack, I.stkFree, I.hok, I.bare⟩
theorem Inv.after {Q : VK} {u : Value} (I : Inv X pins σ H s) (h : CE X.stack X.prog X.w H s Q u s') : EP X pins σ Q u s' := by
  obtain ⟨v, H', os, bare, un, hok, r, q⟩ := h
  obtain ⟨hh, g, d, t, os'⟩ := s'
  obtain rfl : os' = s.os := os
  exact ⟨v, H', I.call (h' := hh) (g' := g) (d' := d) (t' := t) (ch := []) un hok bare (fun b z => absurd z (by simp)), r, q⟩
end

noncomputable def tCall (sp : Sp) (dvs : List V) (E : XK) (t : TA) : TE := fun σ H Q => t σ H fun vs H1 => sp (vs ++ dvs) H1 Q E
inductive J_tMeth (C : Addr) (m : Str) (sp : Sp) (dvs : List V) (E : XK) (t : TA) (σ : St) (Q : VK) (x : V) (H1 : Hp) : Prop
  | mk : ∀ a dx fs, (x = .ref a) → (H1 a = some (.ins C dx fs)) → (fs.lookup m = none) → (t σ H1 fun vs H2 => sp (x :: (vs ++ dvs)) H2 Q E) → J_tMeth C m sp dvs E t σ Q x H1
noncomputable def tMeth (C : Addr) (m : Str) (sp : Sp) (dvs : List V) (E : XK) (ta : TE) (t : TA) : TE := fun σ H Q => ta σ H fun x H1 => J_tMeth C m sp dvs E t σ Q x H1
noncomputable def tMake (C : Addr) (sp : Sp) (dvs : List V) (E : XK) (t : TA) : TE := fun σ H Q => t σ H fun vs H1 => ∀ x dx, H1 x = none → H1 dx = none → dx ≠ x →
  sp (.ref x :: (vs ++ dvs)) (upd (upd H1 dx (.own x)) x (.ins C dx [])) (fun v H2 => v = .non ∧ Q (.ref x) H2) E

noncomputable def Binds (K : PySem.W.Frag) (fd : FuncData) (ps : List Str) (ds : List Value) : Prop :=
  ∀ (s : Shared) (us : List Value), K.In s.heap → (us ++ ds).length = ps.length → BindsTo s fd ⟨us, []⟩ (ps.zip (us ++ ds))
theorem Binds.all {K : PySem.W.Frag} {fd : FuncData} {ps : List Str} (h : ∀ us : List Value, us.length = ps.length → bindArgs fd ⟨us, []⟩ = pure (ps.zip us)) : Binds K fd ps [] := fun s us _ hl => by
  rw [List.append_nil] at hl ⊢
  exact .of_eq (h us hl)

noncomputable def Passes (CX : CXT) (X : Cx) (E : XK) : Prop := ∀ (pins : List (Addr × Obj)) (σ : St) (H : Hp) (s : Shared) (e : Value) (s' : Shared), Inv X pins σ H s → CX X.stack H s E e s' → X.xe e s'

section
variable {X : Cx} {CX : CXT} {k : Nat} {f C : Addr} {fd : FuncData} {ps : List Str} {sp : Sp} {dvs : List V} {ds : List Value} {E : XK} {x m : Str} {p pos apos : Pos} {e o : Expr} {es : List Expr} {ta : TE} {t : TA}

theorem run_fn {pins : List (Addr × Obj)} {σ : St} {H : Hp} {s : Shared} {Q : VK} {us : List Value} {vs : List V} (F : FnOk X.prog X.w X.K X.mg X.base CX k f fd ps sp) (hr : Room k X.A) (hb : Binds X.K fd ps ds) (hd : Vals dvs ds) (hx : Passes CX X E)
    (I : Inv X pins σ H s) (r : Vals vs us) (h : sp (vs ++ dvs) H Q E) : wpAny (model X.prog X.w) X.A (call (.ref f) us) (EP X pins σ Q) X.xe s := by
  have r2 : Vals (vs ++ dvs) (us ++ ds) := r.append hd
  have hl : (us ++ ds).length = ps.length := by rw [← r2.length]; exact F.len _ _ _ _ h
  refine wpAny_call (codeAny_mono (F.run X.A X.stack s H ⟨us, []⟩ (us ++ ds) (vs ++ dvs) Q E hr I.env0 (hb s us I.kIn hl) r2 h) fun r s' hq => ?_)
  cases r with
  | error e => exact hx pins σ H s e s' I hq
  | ok fl =>
    cases fl with
    | ret u => exact I.after hq
    | next => exact False.elim hq
    | brk => exact False.elim hq
    | cont => exact False.elim hq

theorem pe_call (F : FnOk X.prog X.w X.K X.mg X.base CX k f fd ps sp) (hr : Room k X.A) (hg : Gl X x) (hm : X.mg x = some (.ref f)) (hk : PySem.W.keepIn X.K (.ref f) = true) (hb : Binds X.K fd ps ds) (hd : Vals dvs ds) (hx : Passes CX X E)
    (ha : PA X (e :: es) t) (hdb : (x == ("__debug__" : Str)) = false := by decide) (he : starEach (e :: es) X.env = (false, eval e X.env) :: starEach es X.env := by rfl) (hpl : (backTo pos (starEach es X.env)).any (·.1) = false := by rfl) :
    PE X (.Call (.Name x p) (e :: es) [] pos) (tCall sp dvs E t) := by
  intro pins s σ H Q I h
  refine wpAny_Call_Name_kw (ld_glob I hg hm ?_ hdb)
  refine PySem.W.callWith_K (h₀ := X.base) I.ok.mod.kin hk (thn (ha pos pins s σ H _ I h) fun us s1 ⟨vs, H1, I1, r, q⟩ => ⟨I1.kIn, ?_⟩) he hpl
  exact run_fn F hr hb hd hx I1 r q

theorem pe_meth {pl : Sem Bool} (he : PE X o ta) (c : Cls X.K C) (hm : Meth X.K C m f) (F : FnOk X.prog X.w X.K X.mg X.base CX k f fd ps sp) (hr : Room k X.A) (hb : Binds X.K fd ps ds) (hd : Vals dvs ds) (hx : Passes CX X E) (ha : PA X (e :: es) t)
    (hst : starEach (e :: es) X.env = (false, eval e X.env) :: starEach es X.env := by rfl) (hpl : (backTo pos (starEach es X.env)).any (·.1) = false := by rfl)
    (ht : eval (.Call (.Attribute o m apos) (e :: es) [] pos) X.env = (do
      let ov ← eval o X.env
      standAt apos.atName
      let (f, first) ← holding [ov] (getMethod ov m pl)
      callWith pos f first (backTo pos (starEach (e :: es) X.env)) (backToKw pos (keywordEach [] X.env))) := by rfl) :
    PE X (.Call (.Attribute o m apos) (e :: es) [] pos) (tMeth C m sp dvs E ta t) := by
  intro pins s σ H Q I h
  refine PySem.W.methodCall_KW (pl := pl) (thn (he pins s σ H _ I h) fun u s1 ⟨x, H1, I1, rx, a, dx, fs, ex, ea, l, q⟩ => ?_) ht
  subst ex
  obtain rfl : u = Value.ref a := rx
  refine getmeth_ok I1 ea c hm l ?_
  refine PySem.W.callWith_K (first := [.ref a]) (h₀ := X.base) I.ok.mod.kin hm.kp (thn (ha pos pins s1 σ H1 _ I1 q) fun us s2 ⟨vs, H2, I2, r, q2⟩ => ⟨I2.kIn, ?_⟩) hst hpl
  exact run_fn (us := .ref a :: us) (vs := .ref a :: vs) F hr hb hd hx I2 (.cons rfl r) q2

structure Mk (K : PySem.W.Frag) (C f : Addr) : Prop where
  makes : PySem.W.makesIn K C = true
  init : PySem.W.findIn K (.ref C) "__init__" = some (some (.ref f))
  fn : PySem.W.isFn K (.ref f) = true
  kp : PySem.W.keepIn K (.ref C) = true

theorem run_make {pins : List (Addr × Obj)} {σ : St} {H : Hp} {s : Shared} {Q : VK} {us : List Value} {vs : List V} (M : Mk X.K C f) (F : FnOk X.prog X.w X.K X.mg X.base CX k f fd ps sp) (hr : Room (k + 1) X.A) (hb : Binds X.K fd ps ds) (hd : Vals dvs ds)
    (hx : Passes CX X E) (I : Inv X pins σ H s) (r : Vals vs us)
    (h : ∀ x dx, H x = none → H dx = none → dx ≠ x → sp (.ref x :: (vs ++ dvs)) (upd (upd H dx (.own x)) x (.ins C dx [])) (fun v H2 => v = .non ∧ Q (.ref x) H2) E) :
    wpAny (model X.prog X.w) X.A (call (.ref C) us) (EP X pins σ Q) X.xe s := by
  have hq := h (s.heap.objs.size + 1) s.heap.objs.size (I.hok.fresh (Nat.le_succ _)) (I.hok.fresh (Nat.le_refl _)) (Nat.ne_of_lt (Nat.lt_succ_self _))
  have I2 := Inv.made (C := C) I
  have r2 : Vals (V.ref (s.heap.objs.size + 1) :: (vs ++ dvs)) (Value.ref (s.heap.objs.size + 1) :: (us ++ ds)) := .cons rfl (r.append hd)
  have hl : (Value.ref (s.heap.objs.size + 1) :: us ++ ds).length = ps.length := by
    have e := r2.length
    rw [F.len _ _ _ _ hq] at e
    exact e.symm
  refine wpAny_call (make_map (f := f) I.kIn M.makes M.init (beq_iff_eq.mp M.fn) (codeAny_mono (F.run _ X.stack _ _ ⟨Value.ref (s.heap.objs.size + 1) :: us, []⟩ (Value.ref (s.heap.objs.size + 1) :: (us ++ ds)) _ _ E (hr.make C us [])
    (I2.env0.make C us []) (hb _ (Value.ref (s.heap.objs.size + 1) :: us) I2.kIn hl) r2 hq) fun r s' hq' => ?_))
  cases r with
  | error e => exact hx pins σ _ _ e s' I2 hq'
  | ok fl =>
    cases fl with
    | ret u =>
      obtain ⟨v, H', I3, rv, ev, q3⟩ := I2.after hq'
      subst ev
      exact ⟨rv, ⟨V.ref (s.heap.objs.size + 1), H', I3, rfl, q3⟩⟩
    | next => exact False.elim hq'
    | brk => exact False.elim hq'
    | cont => exact False.elim hq'
theorem pe_make (M : Mk X.K C f) (F : FnOk X.prog X.w X.K X.mg X.base CX k f fd ps sp) (hr : Room (k + 1) X.A) (hg : Gl X x) (hm : X.mg x = some (.ref C)) (hb : Binds X.K fd ps ds) (hd : Vals dvs ds) (hx : Passes CX X E)
    (ha : PA X (e :: es) t) (hdb : (x == ("__debug__" : Str)) = false := by decide) (he : starEach (e :: es) X.env = (false, eval e X.env) :: starEach es X.env := by rfl) (hpl : (backTo pos (starEach es X.env)).any (·.1) = false := by rfl) :
    PE X (.Call (.Name x p) (e :: es) [] pos) (tMake C sp dvs E t) := by
  intro pins s σ H Q I h
  refine wpAny_Call_Name_kw (ld_glob I hg hm ?_ hdb)
  refine PySem.W.callWith_K (h₀ := X.base) I.ok.mod.kin M.kp (thn (ha pos pins s σ H _ I h) fun us s1 ⟨vs, H1, I1, r, q⟩ => ⟨I1.kIn, ?_⟩) he hpl
  exact run_make M F hr hb hd hx I1 r q
end

noncomputable def PK (X : Cx) (kws : List Keyword) (t : TA) : Prop :=
  ∀ (pos : Pos) (pins : List (Addr × Obj)) (s : Shared) (σ : St) (H : Hp) (Q : List V → Hp → Prop), Inv X pins σ H s → t σ H Q → wpAny (model X.prog X.w) X.A (evalAll ((backToKw pos (keywordEach kws X.env)).map (·.2))) (AP X pins σ Q) X.xe s
section
variable {X : Cx} {CX : CXT} {k : Nat} {f C : Addr} {fd : FuncData} {ps ks : List Str} {sp : Sp} {E : XK} {x m : Str} {p pos apos kpos : Pos} {e o : Expr} {es : List Expr} {kws : List Keyword} {te ta : TE} {t tk : TA} {nm : Option Str}
theorem pk_nil : PK X [] tNil := fun _ _ _ _ H Q I h => wpAny_evalAll_nil ⟨[], H, I, .nil, h⟩
theorem pk_cons (ha : PE X e te) (hr : PK X kws t) : PK X (⟨nm, e, kpos⟩ :: kws) (tCons te t) := by
  intro pos pins s σ H Q I h
  show wpAny _ _ (evalAll ((do let v ← eval e X.env; standAt pos; pure v) :: (backToKw pos (keywordEach kws X.env)).map (·.2))) _ _ s
  refine wpAny_evalAll_cons (wpAny_bind (thn (ha pins s σ H _ I h) fun u s1 ⟨x, H1, I1, r1, q1⟩ => wpAny_bind (wpAny_standAt (wpAny_pure ?_))))
  exact thn (hr pos pins s1 σ H1 _ I1 q1) fun us s2 ⟨xs, H2, I2, r2, q2⟩ => ⟨x :: xs, H2, I2, .cons r1 r2, q2⟩

structure KBinds (K : PySem.W.Frag) (fd : FuncData) (ps ks : List Str) (g : List Value → List Value → List Value) (gV : List V → List V → List V) : Prop where
  to : ∀ (s : Shared) (us ws : List Value), K.In s.heap → (g us ws).length = ps.length → BindsTo s fd ⟨us, ks.zip ws⟩ (ps.zip (g us ws))
  rel : ∀ {vs : List V} {us : List Value} {zs : List V} {ws : List Value}, Vals vs us → Vals zs ws → Vals (gV vs zs) (g us ws)
variable {g : List Value → List Value → List Value} {gV : List V → List V → List V}
theorem run_fnk {pins : List (Addr × Obj)} {σ : St} {H : Hp} {s : Shared} {Q : VK} {us ws : List Value} {vs zs : List V} (F : FnOk X.prog X.w X.K X.mg X.base CX k f fd ps sp) (hr : Room k X.A) (hb : KBinds X.K fd ps ks g gV) (hx : Passes CX X E)
    (I : Inv X pins σ H s) (r : Vals vs us) (rz : Vals zs ws) (h : sp (gV vs zs) H Q E) : wpAny (model X.prog X.w) X.A (call (.ref f) us (ks.zip ws)) (EP X pins σ Q) X.xe s := by
  have r2 := hb.rel r rz
  have hl : (g us ws).length = ps.length := by rw [← r2.length]; exact F.len _ _ _ _ h
  refine wpAny_call (codeAny_mono (F.run X.A X.stack s H ⟨us, ks.zip ws⟩ (g us ws) (gV vs zs) Q E hr I.env0 (hb.to s us ws I.kIn hl) r2 h) fun r s' hq => ?_)
  cases r with
  | error e => exact hx pins σ H s e s' I hq
  | ok fl =>
    cases fl with
    | ret u => exact I.after hq
    | next => exact False.elim hq
    | brk => exact False.elim hq
    | cont => exact False.elim hq
end

structure FnScope (N P : List Str) (sc : Scope) : Prop where
  kind : sc.kind = .function
  co : sc.isCoroutine = false
  gen : sc.isGenerator = false
  nd : N.Nodup
  pre : N.take P.length = P
  par : ∀ x ∈ P, sc.names.lookup x = some .local ∨ sc.names.lookup x = some .cell
  nofree : ∀ y ∈ sc.names, y.2 ≠ .free

theorem bindL_out {kindOf : Str → Option NameKind} {x : Str} : ∀ {binds : List (Str × Value)} {m : Str → Option Value}, (∀ v, (x, v) ∉ binds) → bindL kindOf binds m x = m x
  | [], _, _ => rfl
  | (n, v) :: r, m, h => by
    unfold bindL
    rw [bindL_out fun w hw => h w (List.mem_cons_of_mem _ hw)]
    split
    · have : x ≠ n := by rintro rfl; exact h v List.mem_cons_self
      simp [this]
    · rfl
theorem bindC_out {kindOf : Str → Option NameKind} {x : Str} : ∀ {binds : List (Str × Value)} {m : Str → Option Value}, (∀ v, (x, v) ∉ binds) → bindC kindOf binds m x = m x
  | [], _, _ => rfl
  | (n, v) :: r, m, h => by
    unfold bindC
    rw [bindC_out fun w hw => h w (List.mem_cons_of_mem _ hw)]
    split
    · rfl
    · have : x ≠ n := by rintro rfl; exact h v List.mem_cons_self
      simp [this]
theorem bindL_get {kindOf : Str → Option NameKind} {x : Str} {v : Value} : ∀ {P : List Str} {vs : List Value} {i : Nat} {m : Str → Option Value}, P.Nodup → P[i]? = some x → vs[i]? = some v → kindOf x = some .local →
    bindL kindOf (P.zip vs) m x = some v
  | [], _, _, _, _, h, _, _ => by simp at h
  | _ :: _, [], _, _, _, _, h, _ => by simp at h
  | p :: P, w :: vs, 0, m, nd, h1, h2, hk => by
    simp at h1 h2; subst h1; subst h2
    show bindL kindOf ((p, w) :: P.zip vs) m p = _
    unfold bindL
    rw [bindL_out fun v hv => (List.nodup_cons.mp nd).1 (List.of_mem_zip hv).1, if_pos hk]
    simp
  | p :: P, w :: vs, i + 1, m, nd, h1, h2, hk => by
    show bindL kindOf ((p, w) :: P.zip vs) m x = _
    unfold bindL
    exact bindL_get (i := i) (List.nodup_cons.mp nd).2 (by simpa using h1) (by simpa using h2) hk
theorem bindC_get {kindOf : Str → Option NameKind} {x : Str} {v : Value} : ∀ {P : List Str} {vs : List Value} {i : Nat} {m : Str → Option Value}, P.Nodup → P[i]? = some x → vs[i]? = some v → kindOf x ≠ some .local →
    bindC kindOf (P.zip vs) m x = some v
  | [], _, _, _, _, h, _, _ => by simp at h
  | _ :: _, [], _, _, _, _, h, _ => by simp at h
  | p :: P, w :: vs, 0, m, nd, h1, h2, hk => by
    simp at h1 h2; subst h1; subst h2
    show bindC kindOf ((p, w) :: P.zip vs) m p = _
    unfold bindC
    rw [bindC_out fun v hv => (List.nodup_cons.mp nd).1 (List.of_mem_zip hv).1, if_neg hk]
    simp
  | p :: P, w :: vs, i + 1, m, nd, h1, h2, hk => by
    show bindC kindOf ((p, w) :: P.zip vs) m x = _
    unfold bindC
    exact bindC_get (i := i) (List.nodup_cons.mp nd).2 (by simpa using h1) (by simpa using h2) hk

noncomputable def start (N : List Str) (vs : List V) : St := vs.map some ++ List.replicate (N.length - vs.length) none

noncomputable def cxOf (CX : CXT) (P : Program) (w : World) (K : PySem.W.Frag) (mg : Str → Option Value) (base : Heap) (N : List Str) (qual : Str) (scope : Scope) (f : Addr) (cd : Value) (A : Around) (outer : List Env) (s : Shared) (H : Hp) (E : XK) : Cx where
  prog := P
  w := w
  K := K
  mg := mg
  base := base
  A := A.deeper (envOfC qual scope s.heap.objs.size f cd)
  N := N
  s₀ := s
  H₀ := H
  env := envOfC qual scope s.heap.objs.size f cd
  outer := outer
  stack := envOfC qual scope s.heap.objs.size f cd :: outer
  ex := []
  calm := true
  fn := fun _ => true
  pn := []
  xe := fun e s' => wpAny (model P w) (A.deeper (envOfC qual scope s.heap.objs.size f cd)) (leaving (envOfC qual scope s.heap.objs.size f cd) e) (fun _ s'' => CX outer H s E e s'') (fun e' s'' => CX outer H s E e' s'') s'

theorem cell_has {sc : Scope} {n : Nat} {x : Str} (h : sc.names.lookup x = some .cell) : ∃ c, (cellsFrom n sc.names []).lookup x = some c := by
  have q := PySem.W.cellsFrom_some sc.names n [] (.inl h)
  exact Option.isSome_iff_exists.mp q

theorem inv_start {CX : CXT} {P : Program} {w : World} {K : PySem.W.Frag} {mg : Str → Option Value} {base : Heap} {N ps : List Str} {qual : Str} {scope : Scope} {f : Addr} {cd : Value} {A : Around} {outer : List Env} {s s1 : Shared} {H : Hp} {E : XK} {us : List Value} {vs : List V}
    (S : FnScope N ps scope) (hd : A.handled = none) (e0 : Env0 P w K mg base A outer s H) (hl : vs.length = ps.length) (r : Vals vs us)
    (x : InCallC s s.heap.objs.size (bindL (envOfC qual scope s.heap.objs.size f cd).kindOf (ps.zip us) fun _ => none) (cellsFrom (s.heap.objs.size + 1) scope.names []) (bindC (envOfC qual scope s.heap.objs.size f cd).kindOf (ps.zip us) fun _ => none) s1) :
    Inv (cxOf CX P w K mg base N qual scope f cd A outer s H E) [] (start N vs) H s1 := by
  have hpl : ps.length ≤ N.length := by have := congrArg List.length S.pre; rw [List.length_take] at this; omega
  obtain ⟨h1, tk, rfl, hk⟩ := x.done
  have noA : ∀ b : Addr, b ∉ (cxOf CX P w K mg base N qual scope f cd A outer s H E).ex := fun b z => absurd (show b ∈ ([] : List Addr) from z) (by simp)
  refine ⟨⟨e0.mod, S.kind, rfl, rfl, Nat.le_refl _, fun y z c h1 h2 => ?_, fun y hy => ?_, fun y c _ h => ?_, fun _ => hd, Around.frames_deeper e0.frames, .inr ⟨rfl, rfl⟩, fun b z => absurd z (noA b), e0.bs, e0.bsz, fun b _ _ => noA b, fun b z => absurd z (noA b), e0.funs, e0.frf⟩,
    rfl, e0.bare, Un.kept hk, ⟨_, x.toInCall.ns, fun i y v h1 h2 h3 => ?_⟩, fun y c h => ⟨_, x.cell y c h⟩, e0.hok.fresh (Nat.le_refl _), fun y c h => ?_, fun p hp => absurd (show p ∈ ([] : List (Addr × Obj)) from hp) (by simp), e0.hok.kept hk, ?_⟩
  · exact name_of_addr x.apart (PySem.mem_of_lookup h1) (PySem.mem_of_lookup h2)
  · have hy : scope.names.lookup y = some .cell ∨ scope.names.lookup y = some .free := hy
    rcases hy with hy | hy
    · exact cell_has hy
    · exact absurd rfl (S.nofree _ (PySem.mem_of_lookup hy))
  · exact Nat.le_of_lt (x.above y c (PySem.mem_of_lookup h))
  · have hi : i < vs.length := by
      unfold start at h2
      by_cases hi : i < vs.length
      · exact hi
      · rw [List.getElem?_append_right (by simpa using hi)] at h2
        rw [List.getElem?_replicate] at h2
        split at h2 <;> cases h2
    have ha : vs[i]? = some v := by
      unfold start at h2
      rw [List.getElem?_append_left (by simpa using hi), List.getElem?_map] at h2
      cases e : vs[i]? with
      | none => rw [e] at h2; cases h2
      | some a => rw [e] at h2; cases h2; rfl
    obtain ⟨u, hu, rv⟩ := r.get ha
    have hp : ps[i]? = some y := by
      rw [← S.pre, List.getElem?_take_of_lt (by omega)]; exact h1
    have ndP : ps.Nodup := by rw [← S.pre]; exact S.nd.sublist (List.take_sublist _ _)
    refine ⟨u, rv, ?_⟩
    rcases S.par y (List.mem_of_getElem? hp) with k | k
    · exact .inl ⟨k, bindL_get ndP hp hu k⟩
    · obtain ⟨c, e⟩ := cell_has (n := s.heap.objs.size + 1) k
      refine .inr ⟨.inl k, c, e, ?_⟩
      have q := x.cell y c e
      rw [bindC_get ndP hp hu (by show scope.names.lookup y ≠ _; rw [k]; decide)] at q
      exact q
  · exact e0.hok.fresh (Nat.le_of_lt (x.above y c (PySem.mem_of_lookup h)))
  · unfold start
    show _ = N.length
    rw [List.length_append, List.length_map, List.length_replicate]
    omega

theorem fn_of {CX : CXT} {P : Program} {w : World} {K : PySem.W.Frag} {mg : Str → Option Value} {base : Heap} {k : Nat} {f : Addr} {name qual : Str} {params : Arguments} {body : List Stmt} {scope : Scope} {dV kV doc pm cdv ct oc : Value} {an od : Option Addr}
    {osl : Array (Option Value)} {N ps : List Str} {sp : Sp} (lk : K.lookup f = some ⟨oc, od, .func (PySem.W.fnOf name qual params body scope dV kV doc pm an cdv ct), osl⟩) (hcd : PySem.W.codeIn K cdv qual = true) (S : FnScope N ps scope)
    (len : ∀ vs H Q E, sp vs H Q E → vs.length = ps.length)
    (hbody : ∀ (A : Around) (outer : List Env) (s : Shared) (H : Hp) (vs : List V) (Q : VK) (E : XK), Room k (A.deeper (envOfC qual scope s.heap.objs.size f cdv)) → sp vs H Q E →
      ∃ t, PSs (cxOf CX P w K mg base N qual scope f cdv A outer s H E) body t ∧ t { nx := fun _ H' => Q .non H', rt := Q } (start N vs) H) :
    FnOk P w K mg base CX (k + 1) f (PySem.W.fnOf name qual params body scope dV kV doc pm an cdv ct) ps sp := by
  refine ⟨len, fun A outer s H args us vs Q E hr e0 hb r hsp => ?_⟩
  have hl := len _ _ _ _ hsp
  have KX : K.In s.heap := e0.mod.kin.keeps fun b o e => (e0.bs b o e).1
  have lim : s.heap.NoLimit := e0.mod.nolimit.keeps fun b o e => (e0.bs b o e).1
  have hkind : ∀ y ∈ ps.zip us, scope.names.lookup y.1 = some .local ∨ (scope.names.lookup y.1 = some .cell ∧ ((cellsFrom (s.heap.objs.size + 1) scope.names []).lookup y.1).isSome = true) := fun ⟨n, v⟩ hy => by
    rcases S.par n (List.of_mem_zip hy).1 with q | q
    · exact .inl q
    · exact .inr ⟨q, PySem.W.cellsFrom_some _ _ _ (.inl q)⟩
  refine codeAny_call_function hr.depth (KX _ _ lk) rfl S.co S.gen rfl (PySem.W.codeRec_of KX hcd) (hb _ _ _ _ ?_)
  refine wpAny_newFunctionEnv_cells S.kind hkind fun env he s1 x => ?_
  subst he
  refine ⟨lim.keeps x.toInCall.keep, codeAny_func ?_⟩
  obtain ⟨t, ht, hq⟩ := hbody A outer s H vs Q E (hr.deeper _) hsp
  have I : Inv (cxOf CX P w K mg base N qual scope f cdv A outer s H E) [] (start N vs) H s1 := inv_start S hr.hd e0 hl r x
  refine wpAny_mono (ht [] s1 (start N vs) H _ I hq) (fun fl s' hs => ?_) fun e s' hs => hs
  have fin : ∀ {σ' : St} {H' : Hp} {v : V} {u : Value}, Inv (cxOf CX P w K mg base N qual scope f cdv A outer s H E) [] σ' H' s' → RelV v u → Q v H' → CE outer P w H s Q u s' :=
    fun {σ' H' v u} J rv q => ⟨v, H', J.os, J.bare, J.base, J.hok, rv, q⟩
  cases fl with
  | ret u =>
    obtain ⟨v, σ', H', J, rv, q⟩ := hs
    exact fin J rv q
  | next =>
    obtain ⟨σ', H', J, q⟩ := hs
    exact fin (v := V.non) (u := Value.none) J rfl q
  | brk =>
    obtain ⟨_, _, _, q⟩ := hs
    exact False.elim q
  | cont =>
    obtain ⟨_, _, _, q⟩ := hs
    exact False.elim q
end L2

namespace L2
open PySem PySem.Spec PyProof.Rows
section
variable {X : Cx} {x : Str} {p pos : Pos} {e : Expr} {es : List Expr} {t : TA} {id T : String} {r : List V → Hp → VK → Prop}

noncomputable def tCB (r : List V → Hp → VK → Prop) (t : TA) : TE := fun σ H Q => t σ H fun vs H1 => r vs H1 Q
theorem pe_callB (hc : CallR X (.builtin id) r) (hg : Gl X x) (hm : X.mg x = none) (hv : bootBuiltins x = some (.builtin id)) (ha : PA X (e :: es) t) (hn : x ≠ "__name__" := by decide) (hdb : (x == ("__debug__" : Str)) = false := by decide)
    (he : starEach (e :: es) X.env = (false, eval e X.env) :: starEach es X.env := by rfl) (hpl : (backTo pos (starEach es X.env)).any (·.1) = false := by rfl) : PE X (.Call (.Name x p) (e :: es) [] pos) (tCB r t) := by
  intro pins s σ H Q I h
  refine wpAny_Call_Name_kw (ld_blt I hg hm hv ?_ hn hdb)
  exact PyProof.Rows.callWith_builtin1 (thn (ha pos pins s σ H _ I h) fun us s1 ⟨vs, H1, I1, r1, q1⟩ => hc pins s1 σ H1 vs us Q I1 r1 q1) he hpl
theorem pe_callTy (hc : CallR X (.type T) r) (hg : Gl X x) (hm : X.mg x = none) (hv : bootBuiltins x = some (.type T)) (ha : PA X (e :: es) t) (hn : x ≠ "__name__" := by decide) (hdb : (x == ("__debug__" : Str)) = false := by decide)
    (he : starEach (e :: es) X.env = (false, eval e X.env) :: starEach es X.env := by rfl) (hpl : (backTo pos (starEach es X.env)).any (·.1) = false := by rfl) : PE X (.Call (.Name x p) (e :: es) [] pos) (tCB r t) := by
  intro pins s σ H Q I h
  refine wpAny_Call_Name_kw (ld_blt I hg hm hv ?_ hn hdb)
  exact PyProof.Rows.callWith_type1 (thn (ha pos pins s σ H _ I h) fun us s1 ⟨vs, H1, I1, r1, q1⟩ => hc pins s1 σ H1 vs us Q I1 r1 q1) he hpl
end
end L2

namespace HT
open PySem PyProof.Rows



section
open PySem.SeqAt
open PySem.AutoSeq1 (wpAny_loadPart')
open PySem.MeetsSeq PySem.MeetsSeq2 PySem.MeetsSeq3

end

section
variable {prog : Program} {w : World} {A : Around} {E : Value → Shared → Prop} {s : Shared}



noncomputable def sIx (n d : Nat) : Option Int → Nat
  | none => d
  | some v => if v < 0 then (v + (n : Int)).toNat else min v.toNat n
theorem sIx_none (n d : Nat) : sIx n d none = d := rfl
theorem sIx_nat (n d k : Nat) : sIx n d (some (k : Int)) = min k n := by
  show (if (k : Int) < 0 then ((k : Int) + (n : Int)).toNat else min (k : Int).toNat n) = min k n
  rw [if_neg (by omega), Int.toNat_natCast]

end
end HT

namespace L2
open PySem PySem.Spec PyProof.Rows

noncomputable abbrev TO := St → Hp → (Option Int → Hp → Prop) → Prop
noncomputable def PO (X : Cx) (e : Option Expr) (t : TO) : Prop :=
  ∀ (pins : List (Addr × Obj)) (s : Shared) (σ : St) (H : Hp) (Q : Option Int → Hp → Prop), Inv X pins σ H s → t σ H Q →
    wpAny (model X.prog X.w) X.A (evalPart e X.env) (fun u s' => ∃ o H', Inv X pins σ H' s' ∧ IsPart u o ∧ Q o H') X.xe s
noncomputable def tNoPart : TO := fun _ H Q => Q none H
inductive J_tPart (Q : Option Int → Hp → Prop) (x : V) (H1 : Hp) : Prop
  | mk : ∀ i, (x = .int i) → (Q (some i) H1) → J_tPart Q x H1
noncomputable def tPart (t : TE) : TO := fun σ H Q => t σ H fun x H1 => J_tPart Q x H1


section
variable {X : Cx} {e : Expr} {te : TE} {lo hi : Option Expr} {tl th : TO} {pos p2 : Pos}

theorem po_none : PO X none tNoPart := by
  intro pins s σ H Q I h
  rw [evalPart_none]
  exact wpAny_pure ⟨none, H, I, .none, h⟩
theorem po_some (h : PE X e te) : PO X (some e) (tPart te) := by
  intro pins s σ H Q I hw
  rw [evalPart_some]
  refine thn (h pins s σ H _ I hw) fun u s1 ⟨x, H1, I1, r1, q1⟩ => ?_
  obtain ⟨i, rfl, q⟩ := q1
  obtain ⟨t, rfl⟩ := r1
  exact ⟨some i, H1, I1, .int i t, q⟩

noncomputable def SlR (X : Cx) (r : V → Option Int → Option Int → Hp → VK → Prop) : Prop :=
  ∀ (pins : List (Addr × Obj)) (s : Shared) (σ : St) (H : Hp) (x : V) (v vl vu : Value) (lo hi : Option Int) (sl : Addr) (Q : VK), Inv X pins σ H s → RelV x v → s.heap.IsSliceOf sl vl vu .none → IsPart vl lo → IsPart vu hi → r x lo hi H Q →
    ∃ T id, typeLookup (.type T) "__getitem__" = pure (some (.builtin id)) ∧ s.TypeIs v T ∧ wpAny (model X.prog X.w) X.A (getItem v (.ref sl)) (EP X pins σ Q) X.xe s
noncomputable def tSl (r : V → Option Int → Option Int → Hp → VK → Prop) (te : TE) (tl th : TO) : TE := fun σ H Q => te σ H fun x H1 => tl σ H1 fun l H2 => th σ H2 fun u H3 => r x l u H3 Q
theorem pe_slice {r : V → Option Int → Option Int → Hp → VK → Prop} (hr : SlR X r) (he : PE X e te) (hl : PO X lo tl) (hu : PO X hi th) : PE X (.Subscript e (.Slice lo hi none p2) pos) (tSl r te tl th) := by
  intro pins s σ H Q I h
  refine Subscript_ (thn (he pins s σ H _ I h) fun v s1 ⟨x, H1, I1, r1, q1⟩ => ?_)
  refine wpAny_Slice (thn (hl pins s1 σ H1 _ I1 q1) fun vl s2 ⟨l, H2, I2, pl, q2⟩ => thn (hu pins s2 σ H2 _ I2 q2) fun vu s3 ⟨u, H3, I3, pu, q3⟩ => ?_)
  rw [evalPart_none]
  refine wpAny_pure ?_
  have I4 : Inv X pins σ H3 { s3 with heap := s3.heap.push { cls := .type "slice", data := .fields #[vl, vu, .none] } } := I3.kept (t' := s3.toks) fun b ob q => Heap.get?_push_of_some _ q
  obtain ⟨T, id, hT, ht, hg⟩ := hr pins { s3 with heap := s3.heap.push { cls := .type "slice", data := .fields #[vl, vu, .none] } } σ H3 x v vl vu l u s3.heap.objs.size Q I4 r1 (Heap.IsSliceOf.new ..) pl pu q3
  show wpAny (model X.prog X.w) X.A (subscriptTail e (.Slice lo hi none p2) v (.ref s3.heap.objs.size)) (EP X pins σ Q) X.xe { s3 with heap := s3.heap.push { cls := .type "slice", data := .fields #[vl, vu, .none] } }
  exact tail_any (ops := [.ref s3.heap.objs.size, v]) ht hT hg (by with_unfolding_all rfl)

noncomputable def cutV (xs : List V) (lo hi : Option Int) : List V := (xs.drop (HT.sIx xs.length 0 lo)).take (HT.sIx xs.length xs.length hi - HT.sIx xs.length 0 lo)
theorem cutV_length (xs : List V) (lo hi : Option Int) : (cutV xs lo hi).length ≤ xs.length := by
  unfold cutV
  rw [List.length_take, List.length_drop]
  omega

end
end L2

namespace L2
open PySem PySem.Spec PyProof.Rows

noncomputable def ixN (n : Nat) (i : Int) : Option Nat := if 0 ≤ i then (if i < n then some i.toNat else none) else if -(n : Int) ≤ i then some (i + n).toNat else none
noncomputable def atI {α : Type} (xs : List α) (i : Int) : Option α := (ixN xs.length i).bind fun j => xs[j]?
theorem ixN_seq {n : Nat} {i : Int} {j : Nat} (h : ixN n i = some j) : seqIndex? i n = some j ∧ j < n ∧ -(n : Int) ≤ i ∧ i < n := by
  unfold ixN at h
  by_cases h0 : 0 ≤ i
  · rw [if_pos h0] at h
    by_cases h1 : i < n
    · rw [if_pos h1] at h
      have e : i.toNat = j := Option.some.inj h
      exact ⟨by rw [seqIndex_of h0 h1, e], by omega, by omega, h1⟩
    · rw [if_neg h1] at h; cases h
  · rw [if_neg h0] at h
    by_cases h1 : -(n : Int) ≤ i
    · rw [if_pos h1] at h
      have e : (i + n).toNat = j := Option.some.inj h
      exact ⟨by rw [seqIndex_neg (by omega) h1, e], by omega, h1, by omega⟩
    · rw [if_neg h1] at h; cases h
theorem atI_get {α : Type} {xs : List α} {i : Int} {v : α} (h : atI xs i = some v) : ∃ j, seqIndex? i xs.length = some j ∧ xs[j]? = some v ∧ j < xs.length ∧ -(xs.length : Int) ≤ i ∧ i < xs.length := by
  unfold atI at h
  cases e : ixN xs.length i with
  | none => rw [e] at h; cases h
  | some j =>
    rw [e] at h
    obtain ⟨h1, h2, h3, h4⟩ := ixN_seq e
    exact ⟨j, h1, h, h2, h3, h4⟩
theorem atI_nat {α : Type} {xs : List α} {j : Nat} {v : α} (h : xs[j]? = some v) : atI xs (j : Int) = some v := by
  have hj : j < xs.length := (List.getElem?_eq_some_iff.mp h).1
  have e : ixN xs.length (j : Int) = some j := by
    unfold ixN
    rw [if_pos (by omega), if_pos (by omega)]; simp
  unfold atI; rw [e]; exact h

noncomputable def PlainIx (b : Expr) : Prop := ∀ o i, subscripted b false o i = operate [o, i] (getItem o i)
noncomputable def IxR (X : Cx) (r : R2) : Prop :=
  ∀ (value slice : Expr) (pins : List (Addr × Obj)) (s : Shared) (σ : St) (H : Hp) (x y : V) (v u : Value) (Q : VK), Inv X pins σ H s → RelV x v → RelV y u → r x y H Q →
    subscripted slice false v u = operate [v, u] (getItem v u) → wpAny (model X.prog X.w) X.A (subscriptTail value slice v u) (EP X pins σ Q) X.xe s
noncomputable def MtR (X : Cx) (id : String) (r : V → List V → Hp → VK → Prop) : Prop :=
  ∀ (pins : List (Addr × Obj)) (s : Shared) (σ : St) (H : Hp) (x : V) (xs : List V) (v : Value) (us : List Value) (Q : VK), Inv X pins σ H s → RelV x v → Vals xs us → r x xs H Q →
    wpAny (model X.prog X.w) X.A (call (.builtin id) (v :: us)) (EP X pins σ Q) X.xe s
section
variable {X : Cx} {a b : Expr} {ta tb : TE} {pos : Pos}
theorem pe_ix {r : R2} (hr : IxR X r) (ha : PE X a ta) (hb : PE X b tb) (hs : PlainIx b) : PE X (.Subscript a b pos) (tOp r ta tb) := by
  intro pins s σ H Q I h
  exact Subscript_ (binT ha hb I h fun v u s2 x y H2 I2 rx ry q => hr a b pins s2 σ H2 x y v u Q I2 rx ry q (hs _ _))

inductive RIxL (K : PySem.W.Frag) (x y : V) (H : Hp) (Q : VK) : Prop
  | mk (p : Addr) (xs : List V) (i : Int) (v : V) (hx : x = .ref p) (hy : y = .int i) (hS : SqL K H p xs) (he : atI xs i = some v) (q : Q v H) : RIxL K x y H Q
noncomputable def rIxL (K : PySem.W.Frag) : R2 := fun x y H Q => RIxL K x y H Q
inductive RIxT (K : PySem.W.Frag) (x y : V) (H : Hp) (Q : VK) : Prop
  | mk (p : Addr) (xs : List V) (i : Int) (v : V) (hx : x = .ref p) (hy : y = .int i) (hS : SqT K H p xs) (he : atI xs i = some v) (q : Q v H) : RIxT K x y H Q
noncomputable def rIxT (K : PySem.W.Frag) : R2 := fun x y H Q => RIxT K x y H Q
inductive J_rIxS (x : V) (y : V) (H : Hp) (Q : VK) : Prop
  | mk : ∀ z i c, (x = .str z) → (y = .int i) → (z.length ≤ sizeLine) → (atI z.cps.toList i = some c) → (Q (.str ⟨#[c]⟩) H) → J_rIxS x y H Q
noncomputable def rIxS : R2 := fun x y H Q => J_rIxS x y H Q
theorem ix_list : IxR X (rIxL X.K) := by
  intro value slice pins s σ H x y v u Q I rx ry h hs
  obtain ⟨p, xs, i, z, rfl, rfl, hq, he, q⟩ := h
  cases rx
  obtain ⟨t, rfl⟩ := ry
  obtain ⟨its, r, pl, hz⟩ := I.list hq
  obtain ⟨j, h1, h2, h3, h4, h5⟩ := atI_get he
  obtain ⟨w, ew, rw'⟩ := r.get h2
  have hl := r.length
  have hn := line63
  have fin : EP X pins σ Q w s := ⟨z, H, I, rw', q⟩
  by_cases h0 : 0 ≤ i
  · have hj : i.toNat = j := by
      rw [seqIndex_of h0 h5] at h1
      exact Option.some.inj h1
    exact item_listR pl.isList h0 (by omega) (by rw [hj]; simpa using ew) fin hs
  · have hj : (i + (its.toArray.size : Int)).toNat = j := by
      rw [seqIndex_neg (by omega) h4] at h1
      rw [List.size_toArray, ← hl]
      exact Option.some.inj h1
    exact subscriptTail_builtinR (x := w) pl.isList.typeIs slot_list_getitem.lookup
      (wpAny_getItem_list_neg (Q := fun r s' => r = w ∧ EP X pins σ Q r s') pl.isList (by omega) (by rw [List.size_toArray] <;> omega) (by omega) (by rw [hj]; simpa using ew) ⟨rfl, fin⟩) hs
theorem ix_tup : IxR X (rIxT X.K) := by
  intro value slice pins s σ H x y v u Q I rx ry h hs
  obtain ⟨p, xs, i, z, rfl, rfl, hq, he, q⟩ := h
  cases rx
  obtain ⟨t, rfl⟩ := ry
  obtain ⟨its, r, pl, hz⟩ := I.tuple hq
  obtain ⟨j, h1, h2, h3, h4, h5⟩ := atI_get he
  obtain ⟨w, ew, rw'⟩ := r.get h2
  have hl := r.length
  have hn := line63
  have fin : EP X pins σ Q w s := ⟨z, H, I, rw', q⟩
  exact subscriptTail_builtinR (x := w) pl.typeIs slot_tuple_getitem.lookup
    (getItem_tuple (j := j) (Q := fun r s' => r = w ∧ EP X pins σ Q r s') pl (by omega) (by omega) (by rw [List.size_toArray, ← hl]; exact h1) (by simpa using ew) ⟨rfl, fin⟩) hs
theorem ix_str : IxR X rIxS := by
  intro value slice pins s σ H x y v u Q I rx ry h hs
  obtain ⟨z, i, c, rfl, rfl, hz, he, q⟩ := h
  obtain ⟨t, rfl⟩ := rx
  obtain ⟨t', rfl⟩ := ry
  obtain ⟨j, h1, h2, h3, h4, h5⟩ := atI_get he
  have hl : z.cps.toList.length = z.length := by simp [Str.length]
  rw [hl] at h1 h4 h5
  have hn := line63
  exact tail_any (typeIs_str s z t) slot_str_getitem.lookup (getItem_str (c := c) (by
    have e1 : decide (i < -(2 ^ 63 : Int)) = false := decide_eq_false (by omega)
    have e2 : decide (i ≥ 2 ^ 63) = false := decide_eq_false (by omega)
    rw [e1, e2, Bool.or_false]) (by rw [h1]; simpa using h2) ⟨.str ⟨#[c]⟩, H, I.tok _, ⟨_, rfl⟩, q⟩) hs


theorem slice_bounds (lo hi : Option Int) (n : Nat) : (sliceBounds lo hi none n).1 = ((HT.sIx n 0 lo : Nat) : Int) ∧ (sliceBounds lo hi none n).2.1 = ((HT.sIx n n hi : Nat) : Int) ∧ (sliceBounds lo hi none n).2.2 = 1 := by
  refine ⟨?_, ?_, rfl⟩
  · cases lo with
    | none => simp [sliceBounds, HT.sIx]
    | some i =>
      simp only [sliceBounds, HT.sIx, Option.getD_none, show (1 : Int) > 0 by decide, if_true]
      by_cases h : i < 0
      · simp only [h, if_true] <;> omega
      · simp only [h, if_false] <;> omega
  · cases hi with
    | none => simp [sliceBounds, HT.sIx]
    | some i =>
      simp only [sliceBounds, HT.sIx, Option.getD_none, show (1 : Int) > 0 by decide, if_true]
      by_cases h : i < 0
      · simp only [h, if_true] <;> omega
      · simp only [h, if_false] <;> omega
theorem slicePick_cut (its : List Value) (lo hi : Option Int) : slicePick its.toArray lo hi none = ((its.drop (HT.sIx its.length 0 lo)).take (HT.sIx its.length its.length hi - HT.sIx its.length 0 lo)).toArray := by
  obtain ⟨h1, h2, h3⟩ := slice_bounds lo hi its.toArray.size
  unfold slicePick
  rw [h1, h2, h3]
  simp only [sliceRange_one, pick_run, List.size_toArray] <;> rfl
inductive J_rSlL (K : PySem.W.Frag) (x : V) (lo : Option Int) (hi : Option Int) (H : Hp) (Q : VK) : Prop
  | mk : ∀ a xs, (x = .ref a) → (SqL K H a xs) → (∀ p, H p = none → Q (.ref p) (upd H p (.lst (cutV xs lo hi)))) → J_rSlL K x lo hi H Q
noncomputable def rSlL (K : PySem.W.Frag) : V → Option Int → Option Int → Hp → VK → Prop := fun x lo hi H Q => J_rSlL K x lo hi H Q
theorem sl_list : SlR X (rSlL X.K) := by
  intro pins s σ H x v vl vu lo hi sl Q I rx hs pl pu h
  obtain ⟨a, xs, rfl, hx, q⟩ := h
  cases rx
  obtain ⟨its, r, ht, hz⟩ := I.list hx
  have hlen := r.length
  refine ⟨"list", _, slot_list_getitem.lookup, ht.isList.typeIs, ?_⟩
  refine wpAny_getItem_list_slice ht.isList hs pl pu .none (by simp) ?_ (by rw [List.size_toArray] <;> omega)
  rw [slicePick_cut, ← hlen]
  refine ⟨.ref s.heap.objs.size, _, I.laid (t' := s.toks) (o := .lst (cutV xs lo hi)) (fun b ob q => Heap.get?_push_of_some _ q) (Nat.le_refl _) ?_, rfl, q _ (I.hok.fresh (Nat.le_refl _))⟩
  exact ⟨Nat.le_trans (cutV_length xs lo hi) hz, _, 0, (r.drop (HT.sIx xs.length 0 lo)).take (HT.sIx xs.length xs.length hi - HT.sIx xs.length 0 lo), Heap.get?_push_size _ rfl⟩

noncomputable def flatV : V → Bool
  | .non => true
  | .bl _ => true
  | .int _ => true
  | .str _ => true
  | _ => false
noncomputable def eqV : V → V → Bool
  | .non, .non => true
  | .bl a, .bl b => a == b
  | .bl a, .int b => (if a then 1 else 0) == b
  | .int a, .bl b => a == (if b then 1 else 0)
  | .int a, .int b => a == b
  | .str a, .str b => a == b
  | _, _ => false
theorem eqAt_V {A : Around} {s : Shared} {y x : V} {u v : Value} (ry : RelV y u) (rx : RelV x v) (fy : flatV y = true) (fx : flatV x = true) : SeqAt.EqAt A s u v (eqV y x) := by
  cases y with
  | non =>
    cases ry
    cases x with
    | non => cases rx; exact SeqAt.EqAt.same _
    | bl b => cases rx; exact SeqAt.EqAt.none_bool b
    | int b => obtain ⟨t, rfl⟩ := rx; exact SeqAt.EqAt.none_int b t
    | str b => obtain ⟨t, rfl⟩ := rx; exact SeqAt.EqAt.none_str b t
    | _ => exact absurd (show false = true from fx) Bool.false_ne_true
  | bl a =>
    cases ry
    cases x with
    | non => cases rx; exact SeqAt.EqAt.bool_none a
    | bl b => cases rx; exact SeqAt.EqAt.bool_bool a b
    | int b => obtain ⟨t, rfl⟩ := rx; exact SeqAt.EqAt.bool_int a b t
    | str b => obtain ⟨t, rfl⟩ := rx; exact SeqAt.EqAt.bool_str a b t
    | _ => exact absurd (show false = true from fx) Bool.false_ne_true
  | int a =>
    obtain ⟨t', rfl⟩ := ry
    cases x with
    | non => cases rx; exact SeqAt.EqAt.int_none a t'
    | bl b => cases rx; exact SeqAt.EqAt.int_bool a t' b
    | int b => obtain ⟨t, rfl⟩ := rx; exact SeqAt.EqAt.int_int a t' b t
    | str b => obtain ⟨t, rfl⟩ := rx; exact SeqAt.EqAt.int_str a t' b t
    | _ => exact absurd (show false = true from fx) Bool.false_ne_true
  | str a =>
    obtain ⟨t', rfl⟩ := ry
    cases x with
    | non => cases rx; exact SeqAt.EqAt.str_none a t'
    | bl b => cases rx; exact SeqAt.EqAt.str_bool a t' b
    | int b => obtain ⟨t, rfl⟩ := rx; exact SeqAt.EqAt.str_int a t' b t
    | str b => obtain ⟨t, rfl⟩ := rx; exact SeqAt.EqAt.str_str a t' b t
    | _ => exact absurd (show false = true from fx) Bool.false_ne_true
  | _ => exact absurd (show false = true from fy) Bool.false_ne_true
noncomputable def eqU (x : V) (u : Value) : Bool := match u with
  | .none => eqV .non x
  | .bool b => eqV (.bl b) x
  | .int i _ => eqV (.int i) x
  | .str z _ => eqV (.str z) x
  | _ => false
theorem eqU_of {x y : V} {u : Value} (r : RelV y u) (f : flatV y = true) : eqU x u = eqV y x := by
  cases y with
  | non => cases r; rfl
  | bl b => cases r; rfl
  | int i => obtain ⟨t, rfl⟩ := r; rfl
  | str z => obtain ⟨t, rfl⟩ := r; rfl
  | _ => exact absurd (show false = true from f) Bool.false_ne_true
theorem mem_eqAt {A : Around} {s : Shared} {x : V} {v : Value} (rx : RelV x v) (fx : flatV x = true) : ∀ {xs : List V} {us : List Value}, Vals xs us → xs.all flatV = true → ∀ u ∈ us, SeqAt.EqAt A s u v (eqU x u)
  | _, _, .nil, _ => fun u hu => by cases hu
  | y :: xs, u :: us, .cons r t, f => fun u' hu => by
    rw [List.all_cons, Bool.and_eq_true] at f
    rcases List.mem_cons.mp hu with rfl | hu
    · rw [eqU_of r f.1]; exact eqAt_V r rx f.1 fx
    · exact mem_eqAt rx fx t f.2 u' hu

inductive J_len (K : PySem.W.Frag) (xs : List V) (H : Hp) (Q : VK) : Prop
  | mk : ∀ p ys, (xs = [.ref p]) → (SqL K H p ys ∨ SqT K H p ys) → (Q (.int ys.length) H) → J_len K xs H Q
theorem call_len_seq : CallR X (.builtin "len") (fun xs H Q => J_len X.K xs H Q) := by
  intro pins s σ H xs us Q I r h
  obtain ⟨p, ys, rfl, hq, q⟩ := h
  obtain ⟨u, rfl, rx⟩ := vals1 r
  cases rx
  have hn := line63
  rcases hq with hq | hq
  · obtain ⟨its, r', pl, hz⟩ := I.list hq
    have hlen := r'.length
    exact Calls.call_len_list pl.isList (by simp only [List.size_toArray] <;> omega) ⟨.int ys.length, H, I.tok _, ⟨s.toks + 1, by rw [List.size_toArray, hlen]⟩, q⟩
  · obtain ⟨its, r', pl, hz⟩ := I.tuple hq
    have hlen := r'.length
    exact len_tuple pl (by simp only [List.size_toArray] <;> omega) ⟨.int ys.length, H, I.tok _, ⟨s.toks + 1, by rw [List.size_toArray, hlen]⟩, q⟩
inductive J_call_tuple_of (kK : PySem.W.Frag) (xs : List V) (H : Hp) (Q : VK) : Prop
  | mk : ∀ p ys, (xs = [.ref p]) → (((SqL kK H p ys ∧ ∀ l, H l = none → Q (.ref l) (upd H l (.tup ys))) ∨ (SqT kK H p ys ∧ Q (.ref p) H))) → J_call_tuple_of kK xs H Q
theorem call_tuple_of : CallR X (.type "tuple") (fun xs H Q => J_call_tuple_of X.K xs H Q) := by
  intro pins s σ H xs us Q I r h
  obtain ⟨p, ys, rfl, h⟩ := h
  obtain ⟨u, rfl, rx⟩ := vals1 r
  cases rx
  rcases h with ⟨hq, q⟩ | ⟨hq, q⟩
  · obtain ⟨its, r', pl, hz⟩ := I.list hq
    have hlen := r'.length
    refine call_tuple_list pl.isList (fun h' kp => ?_) (by simp only [List.size_toArray] <;> omega)
    have I1 : Inv X pins σ H { s with heap := h' } := I.kept (t' := s.toks) kp
    have I2 : Inv X pins σ (upd H h'.objs.size (.tup ys)) { s with heap := h'.push { cls := .type "tuple", data := .seq its.toArray } } :=
      I1.laid (t' := s.toks) (fun b o e => Heap.get?_push_of_some _ e) (Nat.le_refl _) (show ObjOk X.prog X.w _ _ _ (.tup ys) from ⟨hz, its, r', IsTupN.new _ _⟩)
    exact ⟨.ref h'.objs.size, _, I2, rfl, q _ (I1.hok.fresh (Nat.le_refl _))⟩
  · obtain ⟨its, r', pl, hz⟩ := I.tuple hq
    exact call_tuple_same pl ⟨.ref p, H, I, rfl, q⟩

noncomputable def tyV (K : PySem.W.Frag) (T : String) (x : V) (H : Hp) : Prop := match x with
  | .str _ => T = "str"
  | .int _ => T = "int"
  | .ref p => (T = "list" ∧ ∃ xs, SqL K H p xs) ∨ (T = "tuple" ∧ ((∃ o, K.lookup p = some o ∧ o.cls = .type "tuple" ∧ o.dict = none) ∨ ∃ xs, H p = some (.tup xs))) ∨
      (T = "dict" ∧ ((∃ kvs, H p = some (.dK kvs)) ∨ ∃ kvs, H p = some (.dT kvs))) ∨ (T = "set" ∧ ∃ S n, H p = some (.set S n))
  | _ => False
theorem tyV_is {pins : List (Addr × Obj)} {σ : St} {H : Hp} {s : Shared} {T : String} {x : V} {v : Value} (I : Inv X pins σ H s) (r : RelV x v) (ty : tyV X.K T x H) :
    s.TypeIs v T ∧ ∀ a, v = .ref a → ∃ ob, s.heap.get? a = some ob ∧ ob.dict = none := by
  cases x with
  | str z =>
    obtain ⟨t, rfl⟩ := r
    cases (show T = "str" from ty)
    exact ⟨typeIs_str s z t, fun _ e => nomatch e⟩
  | int i =>
    obtain ⟨t, rfl⟩ := r
    cases (show T = "int" from ty)
    exact ⟨typeIs_int s i t, fun _ e => nomatch e⟩
  | ref p =>
    cases r
    rcases ty with ⟨rfl, xs, hq⟩ | ⟨rfl, ⟨o, hk, hc, hd⟩ | ⟨xs, hk⟩⟩ | ⟨rfl, hk⟩ | ⟨rfl, S, n, hk⟩
    · obtain ⟨its, _, pl, _⟩ := I.list hq
      refine ⟨pl.isList.typeIs, fun a e => ?_⟩
      cases e
      obtain ⟨o, n, e, c, hd, _⟩ := pl
      exact ⟨o, e, hd⟩
    · refine ⟨⟨o, I.kIn p o hk, hc⟩, fun a e => ?_⟩
      cases e
      exact ⟨o, I.kIn _ o hk, hd⟩
    · obtain ⟨_, _, _, o, e, c, n, d, hd⟩ := I.hok p _ hk
      refine ⟨⟨o, e, c⟩, fun a e2 => ?_⟩
      cases e2
      exact ⟨o, e, hd⟩
    · have z : ∃ o, s.heap.get? p = some o ∧ o.ExactDict := by
        rcases hk with ⟨kvs, hk⟩ | ⟨kvs, hk⟩
        · obtain ⟨_, _, _, _, o, _, _, e, ex, _⟩ := I.hok p _ hk
          exact ⟨o, e, ex⟩
        · obtain ⟨_, _, _, _, o, _, _, e, ex, _⟩ := I.hok p _ hk
          exact ⟨o, e, ex⟩
      obtain ⟨o, e, ex⟩ := z
      refine ⟨⟨o, e, ex.1⟩, fun a e2 => ?_⟩
      cases e2
      exact ⟨o, e, ex.2.1⟩
    · obtain ⟨o, _, _, _, e, ex, _⟩ := I.hok p _ hk
      refine ⟨⟨o, e, ex.1⟩, fun a e2 => ?_⟩
      cases e2
      exact ⟨o, e, ex.2.1⟩
  | _ => exact False.elim ty
noncomputable def tBM0 (K : PySem.W.Frag) (T : String) (r : V → List V → Hp → VK → Prop) (to : TE) : TE := fun σ H Q => to σ H fun x H1 => tyV K T x H1 ∧ r x [] H1 Q
noncomputable def tBM (K : PySem.W.Frag) (T : String) (r : V → List V → Hp → VK → Prop) (to : TE) (t : TA) : TE := fun σ H Q => to σ H fun x H1 => tyV K T x H1 ∧ t σ H1 fun xs H2 => r x xs H2 Q
variable {o e : Expr} {es : List Expr} {to : TE} {t : TA} {name : Str} {apos cpos : Pos} {T id : String} {r : V → List V → Hp → VK → Prop}
theorem pe_bm0 (pa : PlainAttrs T) (slot : Slot T name id) (hty : typeOf (.builtin id) = pure (.type "method_descriptor")) (hm : MtR X id r) (ho : PE X o to)
    (hbase : attributeBase o name X.env (eval o X.env) = eval o X.env := by rfl) (hline : (apos.endLine == cpos.line) = true := by rfl) : PE X (.Call (.Attribute o name apos) [] [] cpos) (tBM0 X.K T r to) := by
  intro pins s σ H Q I h
  refine wpAny_Call_method0_late hbase hline (thn (ho pins s σ H _ I h) fun v s1 ⟨x, H1, I1, r1, ty, q1⟩ => ?_)
  obtain ⟨h1, h2⟩ := tyV_is I1 r1 ty
  exact ⟨T, id, pa, slot, hty, h1, h2, Calls.callWith_builtin rfl (PySem.evalArgs_none (hm pins s1 σ H1 x [] v [] Q I1 r1 .nil q1))⟩
theorem pe_bm (pa : PlainAttrs T) (slot : Slot T name id) (hty : typeOf (.builtin id) = pure (.type "method_descriptor")) (hm : MtR X id r) (ho : PE X o to) (ha : PA X (e :: es) t)
    (hbase : attributeBase o name X.env (eval o X.env) = eval o X.env := by rfl)
    (hfew : ((backTo cpos (starEach (e :: es) X.env)).all (fun x => !x.1) && (backToKw cpos (keywordEach [] X.env)).all (fun x => x.1.isSome)
      && decide ((e :: es).length + ([] : List Keyword).length + (if ([] : List Keyword).isEmpty then 0 else 1) < 30)) = true := by rfl)
    (hline : (apos.endLine == cpos.line) = true := by rfl) (hs : starEach (e :: es) X.env = (false, eval e X.env) :: starEach es X.env := by rfl) (hplain : (backTo cpos (starEach es X.env)).any (·.1) = false := by rfl) :
    PE X (.Call (.Attribute o name apos) (e :: es) [] cpos) (tBM X.K T r to t) := by
  intro pins s σ H Q I h
  refine wpAny_Call_method_late hbase hfew hline rfl (thn (ho pins s σ H _ I h) fun v s1 ⟨x, H1, I1, r1, ty, q1⟩ => ?_)
  obtain ⟨h1, h2⟩ := tyV_is I1 r1 ty
  refine ⟨T, id, pa, slot, hty, h1, h2, ?_⟩
  have hA := ha cpos pins s1 σ H1 _ I1 q1
  rw [hs] at hA ⊢
  refine Calls.callWith_builtin (by show (false || (backTo cpos (starEach es X.env)).any (·.1)) = false; rw [hplain] <;> rfl) (Calls.evalArgs_plain ?_)
  exact thn hA fun us s2 ⟨vs, H2, I2, r2, q2⟩ => hm pins s2 σ H2 x vs v us Q I2 r1 r2 q2
/- xs.append(e), list.index on a module's tuple .. are MtR facts of 06m -/
end
end L2

namespace L2
open PySem PySem.Spec PyProof.Rows

noncomputable def MtM (X : Cx) (id : String) (r : V → List V → Hp → VK → Prop) : Prop :=
  ∀ (pins : List (Addr × Obj)) (s : Shared) (σ : St) (H : Hp) (x : V) (xs : List V) (v : Value) (us : List Value) (Q : VK), Inv X pins σ H s → RelV x v → Vals xs us → r x xs H Q →
    wpAny (model X.prog X.w) X.A (call (.builtin id) (v :: us)) (EP X pins σ Q) X.xe s

theorem Vals.one : ∀ {x : V} {us : List Value}, Vals [x] us → ∃ u, us = [u] ∧ RelV x u
  | _, _, .cons r .nil => ⟨_, rfl, r⟩
theorem Vals.zero : ∀ {us : List Value}, Vals [] us → us = []
  | _, .nil => rfl
theorem Vals.dropLast {xs : List V} {us : List Value} (h : Vals xs us) : Vals xs.dropLast us.dropLast := by
  induction h with
  | nil => exact .nil
  | cons r t ih =>
    cases t with
    | nil => exact .nil
    | cons q t' => exact .cons r ih
theorem erase_last {α : Type} (l : List α) : l.eraseIdx (l.length - 1) = l.dropLast := by
  induction l with
  | nil => rfl
  | cons a r ih =>
    cases r with
    | nil => rfl
    | cons b r =>
      have e : (a :: b :: r).length - 1 = ((b :: r).length - 1) + 1 := by
        have h1 : (a :: b :: r).length = r.length + 2 := rfl
        have h2 : (b :: r).length = r.length + 1 := rfl
        omega
      rw [e, List.eraseIdx_cons_succ, ih]
      all_goals rfl

section
variable {X : Cx} {pins : List (Addr × Obj)} {σ : St} {H : Hp} {s : Shared} {l b : Addr} {xs ys zs : List V}

theorem Inv.lset {its its' : List Value} {n : Nat} {f : Array Value → Array Value} {t' : Nat} (I : Inv X pins σ H s) (hH : H l = some (.lst xs))
    (e : s.heap.get? l = some { cls := .type "list", data := .seq its.toArray n }) (hf : f its.toArray = its'.toArray) (hv : Vals ys its') (hz : ys.length ≤ sizeLine) :
    Inv X pins σ (upd H l (.lst ys)) { s with heap := s.heap.update l (Obj.mapSeq f), toks := t' } := by
  have q := PySem.IsL.update e f
  rw [hf] at q
  refine I.write (x := l) (e := l) (by rw [hH]; exact trivial) (.inl rfl) (fun b' u hb hu => (Heap.get?_update_other s.heap (Obj.mapSeq f) (Ne.symm hb)).trans hu) ⟨_, q⟩ ?_
  exact ⟨hz, its', _, hv, q⟩
theorem Inv.lnew {its : List Value} {t' : Nat} (I : Inv X pins σ H s) (hv : Vals ys its) (hz : ys.length ≤ sizeLine) :
    Inv X pins σ (upd H s.heap.objs.size (.lst ys)) { s with heap := s.heap.push { cls := .type "list", data := .seq its.toArray }, toks := t' } :=
  I.laid (fun _ _ q => Heap.get?_push_of_some _ q) (Nat.le_refl _) ⟨hz, its, 0, hv, Heap.get?_push_size _ rfl⟩
theorem Inv.fresh (I : Inv X pins σ H s) : H s.heap.objs.size = none := I.hok.fresh (Nat.le_refl _)
theorem Inv.lstM (I : Inv X pins σ H s) (hH : H l = some (.lst xs)) : xs.length ≤ sizeLine ∧ ∃ (its : List Value) (n : Nat), Vals xs its ∧ xs.length = its.length ∧ s.heap.get? l = some { cls := .type "list", data := .seq its.toArray n } := by
  obtain ⟨z, its, n, r, e⟩ := I.hok l _ hH
  exact ⟨z, its, n, r, r.length, e⟩

end

section
variable {X : Cx}

inductive J_rAppend (x : V) (vs : List V) (H : Hp) (Q : VK) : Prop
  | mk : ∀ l xs y, (x = .ref l) → (vs = [y]) → (H l = some (.lst xs)) → (xs.length < sizeLine) → (Q .non (upd H l (.lst (xs ++ [y])))) → J_rAppend x vs H Q
noncomputable def rAppend : V → List V → Hp → VK → Prop := fun x vs H Q => J_rAppend x vs H Q
theorem mt_append : MtM X "list.append" rAppend := by
  intro pins s σ H x vs v us Q I rx rv h
  obtain ⟨l, xs, y, rfl, rfl, hH, hz, q⟩ := h
  cases rx
  obtain ⟨u, rfl, ru⟩ := rv.one
  obtain ⟨z, its, n, r, hl, e⟩ := I.lstM hH
  refine call_meets F.slot_list_append ⟨_, e, rfl⟩ F.entry_list_append (F.args_list_append_2 _ _) (PySem.list_append l its.toArray n u (by rw [List.size_toArray]; omega)) ⟨e, ?_⟩
  refine ⟨.non, _, I.lset (its' := its ++ [u]) hH e (by simp) (r.append (.cons ru .nil)) ?_, rfl, q⟩
  rw [List.length_append, List.length_singleton]
  omega


inductive J_rPop (x : V) (vs : List V) (H : Hp) (Q : VK) : Prop
  | mk : ∀ l xs y, (x = .ref l) → (vs = []) → (H l = some (.lst xs)) → (xs[xs.length - 1]? = some y) → (Q y (upd H l (.lst xs.dropLast))) → J_rPop x vs H Q
noncomputable def rPop : V → List V → Hp → VK → Prop := fun x vs H Q => J_rPop x vs H Q
theorem mt_pop : MtM X "list.pop" rPop := by
  intro pins s σ H x vs v us Q I rx rv h
  obtain ⟨l, xs, y, rfl, rfl, hH, hy, q⟩ := h
  cases rx
  have hus := rv.zero
  subst hus
  obtain ⟨z, its, n, r, hl, e⟩ := I.lstM hH
  obtain ⟨u, hu, ru⟩ := r.get hy
  have hy' : its.toArray[its.toArray.size - 1]? = some u := by
    show its.toArray[its.length - 1]? = some u
    rw [← Array.getElem?_toList, ← hl]
    exact hu
  refine call_meets F.slot_list_pop ⟨_, e, rfl⟩ F.entry_list_pop (F.args_list_pop_1 _) (MeetsSeq.list_pop_last l its.toArray n u hy' (by rw [List.size_toArray]; omega)) ⟨e, ?_⟩
  refine ⟨y, _, I.lset (its' := its.dropLast) hH e ?_ r.dropLast ?_, ru, q⟩
  · show its.toArray.eraseIdxIfInBounds (its.toArray.size - 1) = its.dropLast.toArray
    rw [List.size_toArray, List.eraseIdxIfInBounds_toArray, erase_last]
  · rw [List.length_dropLast]
    omega




inductive J_rCat (x : V) (y : V) (H : Hp) (Q : VK) : Prop
  | mk : ∀ l b xs zs, (x = .ref l) → (y = .ref b) → (H l = some (.lst xs)) → (H b = some (.lst zs)) → (xs.length + zs.length ≤ sizeLine) → (∀ p, H p = none → Q (.ref p) (upd H p (.lst (xs ++ zs)))) → J_rCat x y H Q
noncomputable def rCat : R2 := fun x y H Q => J_rCat x y H Q
theorem op_cat : OpR X (binaryOp .Add) rCat := by
  intro pins s σ H x y v u Q I rx ry h
  obtain ⟨l, b, xs, zs, rfl, rfl, hH, hB, hz, q⟩ := h
  cases rx
  cases ry
  obtain ⟨z, its, n, r, hl, e⟩ := I.lstM hH
  obtain ⟨z2, its2, n2, r2, hl2, e2⟩ := I.lstM hB
  refine PySem.P.add_list e e2 ?_ (by rw [List.size_toArray, List.size_toArray]; omega)
  have ea : its.toArray ++ its2.toArray = (its ++ its2).toArray := by simp
  rw [ea]
  exact ⟨.ref _, _, I.lnew (t' := s.toks) (r.append r2) (by rw [List.length_append]; omega), rfl, q _ I.fresh⟩

end

section
variable {prog : Program} {w : World} {A : Around} {E : Value → Shared → Prop} {s : Shared}
end

section
variable {X : Cx}
end
end L2

namespace Att
open PySem PySem.W PySem.Calls PyProof.Rows

theorem ints_of_wellAll {P : Params} {h : Heap} : ∀ (ns : List Int) (vs : List Value), WellAll P h vs (ns.map WData.int) → IntsAre vs ns := by
  intro ns
  induction ns with
  | nil =>
    intro vs w
    rw [List.map_nil] at w
    cases w
    exact .nil
  | cons n ns ih =>
    intro vs w
    rw [List.map_cons] at w
    cases w with
    | cons a b =>
      cases a
      exact .cons _ _ (ih _ b)

theorem script_of {l : OpenLaw} {n : Nat} (hn : l.most = some n) {P : Params} {h : Heap} {args : List WData} {vals : List Value}
    (hpre : l.row.toRowW.claim.pre args = true) (hwl : WellAll P h vals args) :
    ∃ a vs ns, vals = [Value.ref a] ∧ args = [WData.list (ns.map WData.int)] ∧ h.get? a = some { cls := .type "list", data := .seq vs.toArray } ∧ IntsAre vs ns ∧ ns.length ≤ n := by
  have hsh : WShape.hasAll [] args [.list .int] = true := (pre_splitW hpre).1
  have hc : l.pre.holds [] { args := args } = true := (pre_splitW hpre).2
  obtain ⟨d, r, rfl, h1, h2⟩ := hasAllW_cons hsh
  obtain rfl := hasAllW_nil h2
  obtain ⟨xs, rfl, h3⟩ := hasW_list h1
  obtain ⟨ns, rfl⟩ := items_int h3
  have hlen : ns.length ≤ n := by
    unfold OpenLaw.pre at hc
    have h4 : (WTm.not (.lt (.lit (.int (n : Int))) (.len (.arg 0)))).holds [] { args := [.list (ns.map .int)] } = true := by
      have h4 := (holds_andW hc).1
      rw [hn] at h4
      exact h4
    have h5 := condW_of h4 (w_not (w_lt w_lit (w_len_list (w_arg rfl))))
    rw [List.length_map] at h5
    refine Nat.le_of_not_lt fun q => ?_
    have q' : (n : Int) < ((ns.length : Nat) : Int) := by omega
    first
      | (rw [decide_eq_true q'] at h5; exact absurd h5 (by decide))
      | (simp at h5; omega)
  cases hwl with
  | cons w1 w2 =>
    cases w2
    cases w1 with
    | list ho hall => exact ⟨_, _, ns, rfl, rfl, ho, ints_of_wellAll ns _ hall, hlen⟩

theorem post_true (l : OpenLaw) (args : List WData) : l.row.toRowW.claim.post args (.bool true) args = true :=
  postW_of (r := l.row.toRowW) (X := (true == true))
    (show WShape.has [] (.bool true) .bool = true by first | rfl | decide | simp [WShape.has, WShape.arms, WShape.armsAll])
    (show (WTm.eq .res (.lit (.bool true))).value [] { args := args, res := some (.bool true), after := args } = some (.bool (true == true)) from w_eq_bool (w_res rfl) w_lit) rfl


theorem attach_call {l : OpenLaw} {n : Nat} {q : Program} {loose : List Str} {XP : (Str → Option Value) → Heap → Prop} {YP : World → Heap → Prop} {d : DefRec}
    (hn : l.most = some n) (hdf : d.params.defaults = [])
    (call : ∀ (w : World) (s₀ s₁ : Shared) (mg mb : Str → Option Value) (fa : Addr) (o : Obj) (pm cd doc : Value) (a : Addr) (vs : List Value) (ns : List Int),
      Ground q loose [] XP w s₀ mg mb s₁.heap → YP w s₁.heap →
      s₁.heap.get? fa = some o → o.data = .func (docDef d.name d.params d.body d.scope pm cd doc) → s₁.heap.CodeRec cd d.name → mg d.name = some (.ref fa) →
      s₁.heap.get? a = some { cls := .type "list", data := .seq vs.toArray } → IntsAre vs ns → ns.length ≤ n → s₁.gens = #[] →
      codeAny (model l.prog w) callerA (.call (.ref fa) ⟨[.ref a], []⟩) (fun r s' => r = .ok (.ret (.bool true)) ∧ OldK s₁.heap s'.heap ∧ s'.os = s₁.os ∧ AllBare s'.gens) s₁) :
    WalkO q loose XP YP l.row.toRowW d [] (fun f vs => PySem.call f vs) := by
  intro w s₀ s₁ mg mb G Y fa o pm cd doc dV kV ho hd hcd hD hmg hg args vals as hpre hlay hrd hwl hlo
  obtain rfl : dV = .none := Dflts.none hD hdf
  obtain rfl : kV = .none := Dflts.noKw hD
  obtain ⟨a, vs, ns, rfl, rfl, hobj, hints, hlen⟩ := script_of hn hpre hwl
  refine enter_call (codeAny_mono (call w s₀ s₁ mg mb fa o pm cd doc a vs ns G Y ho (fd_plain hd) hcd hmg hobj hints hlen hg) fun r s' hq => ?_)
  obtain ⟨rfl, h2, h3, h4⟩ := hq
  exact ⟨.inl ⟨.bool true, .bool true, [], rfl, fun _ => rfl, .bool true, post_true l _, fun _ => ⟨List.Pairwise.nil, fun _ hm => (nomatch hm)⟩⟩, h2, h3, h4⟩


section
variable {prog : Program} {w : World} {A : Around} {E : Value → Shared → Prop} {s : Shared} {K : Frag}






end
end Att

namespace L2
open PySem PySem.Spec PyProof.Rows

theorem vals_ints : ∀ {vs : List Value} {ns : List Int}, IntsAre vs ns → Vals (ns.map V.int) vs
  | _, _, .nil => .nil
  | _, _, .cons n t h => .cons ⟨t, rfl⟩ (vals_ints h)

noncomputable def Only (H : Hp) : Prop := ∀ b, H b = none ∨ ∃ o xs, H b = some (.frz o (.lst xs))

theorem law_call {P : Program} {w : World} {K : PySem.W.Frag} {mg mb : Str → Option Value} {CX : CXT} {k : Nat} {fa a : Addr} {fd : FuncData} {x : Str} {sp : Sp} {s₁ : Shared} {vs : List Value} {ns : List Int}
    (KX : K.In s₁.heap) (hns : s₁.heap.Ns mainGlobals mg) (hb : s₁.heap.Ns builtinsNs mb) (hbb : ∀ x : Str, x ≠ "__name__" → mb x = bootBuiltins x) (hlim : s₁.heap.NoLimit) (hg : s₁.gens = #[])
    (ha : s₁.heap.get? a = some { cls := .type "list", data := .seq vs.toArray }) (hi : IntsAre vs ns) (hl : ns.length ≤ sizeLine) (hr : Room k callerA)
    (F : ∀ base : Heap, K.In base → base.Ns mainGlobals mg → FnOk P w K mg base CX k fa fd [x] sp) (hbind : ∀ (s : Shared) (u : Value), BindsTo s fd ⟨[u], []⟩ [(x, u)])
    (hsp : ∀ H : Hp, Only H → SqL K H a (ns.map V.int) → sp [.ref a] H (fun v _ => v = .bl true) fun _ _ _ => False)
    (hCX : ∀ H e s', CX [] H s₁ (fun _ _ _ => False) e s' → False) :
    codeAny (model P w) callerA (.call (.ref fa) ⟨[.ref a], []⟩) (fun r s' => r = .ok (.ret (.bool true)) ∧ OldK s₁.heap s'.heap ∧ s'.os = s₁.os ∧ AllBare s'.gens) s₁ := by
  have rv := vals_ints hi
  have lenV := hi.length
  -- from an abstract heap in which nothing but the script may be tracked
  have core : ∀ H : Hp, Only H → SqL K H a (ns.map V.int) → HOk P w H s₁.heap → (∀ b, H b ≠ none → b = a) → (H a ≠ none → K.lookup a = none) →
      codeAny (model P w) callerA (.call (.ref fa) ⟨[.ref a], []⟩) (fun r s' => r = .ok (.ret (.bool true)) ∧ OldK s₁.heap s'.heap ∧ s'.os = s₁.os ∧ AllBare s'.gens) s₁ := by
    intro H hO hS hok hA hK
    have base_of : ∀ {b : Addr} {o : Obj}, s₁.heap.get? b = some o → H b = none → (hidT s₁.heap H).get? b = some o := fun e n => hidT_get e n
    have noA : ∀ {b : Addr} {o : Obj} {es : Array DictEntry} {ep : Nat}, s₁.heap.get? b = some o → o.data = .dict es ep → H b = none := fun {b o es ep} e d => by
      cases q : H b with
      | none => rfl
      | some u =>
        have e' : b = a := hA b (by rw [q]; simp)
        subst e'
        rw [ha] at e; cases e
        have d' : Data.seq vs.toArray _ = Data.dict es ep := d
        cases d'
    have nsK : ∀ {b : Addr} {m : Str → Option Value}, s₁.heap.Ns b m → (hidT s₁.heap H).Ns b m := fun {b m} ⟨o, es, ep, e, d, r⟩ => ⟨o, es, ep, base_of e (noA e d), d, r⟩
    have hKb : K.In (hidT s₁.heap H) := fun b o e => base_of (KX b o e) (by
      cases q : H b with
      | none => rfl
      | some u =>
        have e' : b = a := hA b (by rw [q]; simp)
        subst e'
        rw [hK (by rw [q]; simp)] at e; cases e)
    have hM : Mod K mg (hidT s₁.heap H) := ⟨hKb, nsK hns, ⟨mb, nsK hb, hbb⟩, let ⟨mc, h1, h2⟩ := hlim; ⟨mc, nsK h1, h2⟩⟩
    have e0 : Env0 P w K mg (hidT s₁.heap H) callerA [] s₁ H := ⟨rfl, hM, fun b o e => of_hidT e, Nat.le_of_eq (hidT_size _ _), trivial, fun b hb => absurd (show b ∈ ([] : List Addr) from hb) (by simp), hok, .of_eq hg⟩
    refine codeAny_mono ((F _ hKb (nsK hns)).run callerA [] s₁ H ⟨[.ref a], []⟩ [.ref a] [.ref a] _ _ hr e0 (hbind s₁ (.ref a)) (.cons rfl .nil) (hsp H hO hS)) fun r s' h => ?_
    cases r with
    | error e => exact (hCX H e s' h).elim
    | ok fl =>
      cases fl with
      | next => exact False.elim h
      | brk => exact False.elim h
      | cont => exact False.elim h
      | ret u =>
        obtain ⟨v, H', os, bare, un, hok', r', q⟩ := h
        have q' : v = .bl true := q
        subst q'
        obtain rfl : u = Value.bool true := r'
        refine ⟨rfl, OldK.of_keep fun b o e => ?_, os, bare⟩
        cases q : H b with
        | none => exact un.keep b o e q (by intro z; exact absurd (show b ∈ ([] : List Addr) from z) (by simp)) (by simp)
        | some u =>
          rcases hO b with z | ⟨ob, xs, z⟩
          · rw [q] at z; cases z
          · have z2 := un.frzs b ob _ z
            obtain ⟨e1, _⟩ := hok b _ z
            obtain ⟨e2, _⟩ := hok' b _ z2
            rw [e] at e1; cases e1
            exact e2
  cases hk : K.lookup a with
  | some o =>
    -- the script is one of the module's own objects
    have e := KX a o hk
    rw [ha] at e
    cases e
    refine core (fun _ => none) (fun _ => .inl rfl) (.inr ⟨_, vs.toArray, _, hk, rfl, rfl, rfl, by rw [List.size_toArray, lenV]; exact hl, by simpa using rv⟩) (fun b u z => by have z' : (none : Option HO) = some u := z; cases z') (fun b z => absurd rfl z) fun z => absurd rfl z
  | none =>
    refine core (fun b => if b = a then some (.frz { cls := .type "list", data := .seq vs.toArray } (.lst (ns.map V.int))) else none) (fun b => ?_) (.inl (.inr ⟨{ cls := .type "list", data := .seq vs.toArray }, if_pos rfl⟩)) (fun b u z => ?_) (fun b z => ?_) fun _ => hk
    · by_cases hb : b = a
      · exact .inr ⟨_, _, if_pos hb⟩
      · exact .inl (if_neg hb)
    · by_cases hb : b = a
      · have z' := (if_pos hb).symm.trans z
        cases z'
        subst hb
        exact ⟨ha, by rw [List.length_map]; exact hl, vs, _, rv, ha⟩
      · have z' := (if_neg hb).symm.trans z
        cases z'
    · by_cases hb : b = a
      · exact hb
      · exact absurd (if_neg hb) z
end L2

namespace L2
open PySem PySem.Spec PyProof.Rows


theorem walk_of {l : PySem.W.OpenLaw} {n k : Nat} {q : Program} {loose : List Str} {XP : (Str → Option Value) → Heap → Prop} {YP : World → Heap → Prop} {d : DefRec} {K : Params → PySem.W.Frag} {CX : World → CXT} {sp : World → Sp} {x : Str}
    (hn : l.most = some n) (hn2 : n ≤ sizeLine) (hdf : d.params.defaults = []) (hr : Room k callerA)
    (hY : ∀ (w : World) (h : Heap), YP w h → (K w.params).In h)
    (F : ∀ (w : World) (mg : Str → Option Value) (fa : Addr) (h : Heap), (K w.params).In h → h.Ns mainGlobals mg → mg d.name = some (.ref fa) →
      ∃ fd : FuncData, (∀ (s : Shared) (u : Value), BindsTo s fd ⟨[u], []⟩ [(x, u)]) ∧
        ∀ base : Heap, (K w.params).In base → base.Ns mainGlobals mg → FnOk l.prog w (K w.params) mg base (CX w) k fa fd [x] (sp w))
    (hsp : ∀ (w : World) (H : Hp) (a : Addr) (ns : List Int), ns.length ≤ n → Only H → SqL (K w.params) H a (ns.map V.int) → sp w [.ref a] H (fun v _ => v = .bl true) fun _ _ _ => False)
    (hCX : ∀ (w : World) (H : Hp) (s : Shared) (e : Value) (s' : Shared), CX w [] H s (fun _ _ _ => False) e s' → False) :
    PySem.W.WalkO q loose XP YP l.row.toRowW d [] (fun f vs => PySem.call f vs) := by
  refine Att.attach_call hn hdf fun w s₀ s₁ mg mb fa o pm cd doc a vs ns G Y ho hd hcd hmg hobj hints hlen hg => ?_
  have KX := hY w _ Y
  obtain ⟨fd, hb, hF⟩ := F w mg fa _ KX G.T.g hmg
  exact law_call KX G.T.g G.T.b G.T.builtins G.T.nolimit hg hobj hints (Nat.le_trans hlen hn2) hr hF hb (fun H hO hS => hsp w H a ns hlen hO hS) fun H e s' => hCX w H s₁ e s'
end L2



namespace L2
open PySem PySem.Spec PyProof.Rows

noncomputable def inClass (s : Stmt) (j : Nat) : Stmt := match s with
  | .ClassDef _ _ _ body _ _ _ _ _ _ _ => body.getD j (.Pass ⟨0, 0, 0, 0⟩)
  | _ => .Pass ⟨0, 0, 0, 0⟩
noncomputable def defArgs (s : Stmt) : Arguments := match s with
  | .FunctionDef _ a _ _ _ _ _ _ _ _ => a
  | _ => { posonlyargs := [], args := [], vararg := none, kwonlyargs := [], kw_defaults := [], kwarg := none, defaults := [] }
noncomputable def defBody (s : Stmt) : List Stmt := match s with
  | .FunctionDef _ _ b _ _ _ _ _ _ _ => b
  | _ => []
noncomputable def defScope (s : Stmt) : Scope := match s with
  | .FunctionDef _ _ _ _ _ _ sc _ _ _ => sc
  | _ => { kind := .function, names := [], isGenerator := false, isCoroutine := false }

noncomputable abbrev CX0 : CXT := fun _ _ _ _ _ _ => False
noncomputable abbrev E0 : XK := fun _ _ _ => False
theorem pass0 {X : Cx} : Passes CX0 X E0 := fun _ _ _ _ _ _ _ h => h.elim

structure Fun (K : PySem.W.Frag) (x qual : Str) (st : Stmt) (f : Addr) (fd : FuncData) : Prop where
  ex : ∃ (oc : Value) (od : Option Addr) (kV doc pm : Value) (an : Option Addr) (cdv ct : Value) (osl : Array (Option Value)),
    fd = PySem.W.fnOf x qual (defArgs st) (defBody st) (defScope st) .none kV doc pm an cdv ct ∧ K.lookup f = some ⟨oc, od, .func fd, osl⟩ ∧ PySem.W.codeIn K cdv qual = true
  kp : PySem.W.keepIn K (.ref f) = true
section
variable {P : Program} {w : World} {K : PySem.W.Frag} {mg : Str → Option Value} {base : Heap}
theorem Fun.ok {x qual : Str} {st : Stmt} {f : Addr} {fd : FuncData} {N ps : List Str} {k : Nat} {sp : Sp} (F : Fun K x qual st f fd) (S : FnScope N ps (defScope st)) (len : ∀ vs H Q E, sp vs H Q E → vs.length = ps.length)
    (hbody : ∀ (cdv : Value) (A : Around) (outer : List Env) (s : Shared) (H : Hp) (vs : List V) (Q : VK) (E : XK), Room k (A.deeper (envOfC qual (defScope st) s.heap.objs.size f cdv)) → sp vs H Q E →
      ∃ t, PSs (cxOf CX0 P w K mg base N qual (defScope st) f cdv A outer s H E).nox (defBody st) t ∧ t { nx := fun _ H' => Q .non H', rt := Q } (start N vs) H) : FnOk P w K mg base CX0 (k + 1) f fd ps sp := by
  obtain ⟨oc, od, kV, doc, pm, an, cdv, ct, osl, rfl, lk, hcd⟩ := F.ex
  refine fn_of lk hcd S len fun A outer s H vs Q E hr hsp => ?_
  obtain ⟨t, h, q⟩ := hbody cdv A outer s H vs Q E hr hsp
  exact ⟨t, h.nox, q⟩
theorem Fun.binds {x qual : Str} {st : Stmt} {f : Addr} {fd : FuncData} {ps : List Str} (F : Fun K x qual st f fd)
    (h : ∀ (kV doc pm : Value) (an : Option Addr) (cdv ct : Value) (us : List Value), us.length = ps.length → bindArgs (PySem.W.fnOf x qual (defArgs st) (defBody st) (defScope st) .none kV doc pm an cdv ct) ⟨us, []⟩ = pure (ps.zip us)) : Binds K fd ps [] := by
  obtain ⟨oc, od, kV, doc, pm, an, cdv, ct, osl, rfl, lk, hcd⟩ := F.ex
  exact .all (h kV doc pm an cdv ct)
theorem fun_mk {x qual : Str} {st : Stmt} {f : Addr} {oc : Value} {od an : Option Addr} {osl : Array (Option Value)} {kV doc pm cdv ct : Value} (l : K.lookup f = some ⟨oc, od, .func (PySem.W.fnOf x qual (defArgs st) (defBody st) (defScope st) .none kV doc pm an cdv ct), osl⟩)
    (c : PySem.W.codeIn K cdv qual = true) (k : PySem.W.keepIn K (.ref f) = true) : Fun K x qual st f (PySem.W.fnOf x qual (defArgs st) (defBody st) (defScope st) .none kV doc pm an cdv ct) := ⟨⟨oc, od, kV, doc, pm, an, cdv, ct, osl, rfl, l, c⟩, k⟩
end
theorem hu_of {A : Around} {k : Nat} (hr : Room k A) : A.units + 1 < cLine := Nat.lt_of_le_of_lt (Nat.add_le_add_left (by decide : 1 ≤ 64) _) hr.units
theorem small1000 {n : Nat} (h : n ≤ 1000) : n < sizeLine := Nat.lt_of_le_of_lt h (by decide)

section
variable {X : Cx}
theorem pv (i : Nat) {x : Str} {pos : Pos} (hN : X.N[i]? = some x := by rfl) (hv : Vis X.env.scope x := by first | exact Or.inl rfl | exact Or.inr (Or.inl rfl) | exact Or.inr (Or.inr rfl)) (hd : (x == ("__debug__" : Str)) = false := by decide)
    (hcd : (x == ("__classdict__" : Str)) = false := by decide) : PE X (.Name x pos) (tVar i) := pe_var hN hv hd hcd
end

theorem iteF {A B : Prop} (h : B) : if false = true then A else B := by
  rw [if_neg Bool.false_ne_true]
  exact h
theorem iteT {A B : Prop} (h : A) : if true = true then A else B := by
  rw [if_pos rfl]
  exact h

noncomputable def Same (H H' : Hp) : Prop := ∀ b o, H b = some o → H' b = some o
theorem Same.refl (H : Hp) : Same H H := fun _ _ h => h
theorem Same.trans {H H1 H2 : Hp} (a : Same H H1) (b : Same H1 H2) : Same H H2 := fun c o h => b c o (a c o h)
theorem Same.seq {K : PySem.W.Frag} {H H' : Hp} {a : Addr} {xs : List V} (e : Same H H') (h : SqL K H a xs) : SqL K H' a xs := by
  rcases h with (h | ⟨o, h⟩) | h
  · exact .inl (.inl (e _ _ h))
  · exact .inl (.inr ⟨o, e _ _ h⟩)
  · exact .inr h

end L2
namespace L2
open PySem PySem.Spec PyProof.Rows

section
variable {X : Cx} {pins : List (Addr × Obj)} {σ : St} {H : Hp} {s : Shared} {h' : Heap}
end

section
variable {X : Cx}

end


section
variable {X : Cx}
theorem foldl_cps (a : Array Nat) : ∀ (k : Nat) (acc : Array Nat), ((List.replicate k a).foldl (· ++ ·) acc).toList = acc.toList ++ (List.replicate k a.toList).flatten
  | 0, acc => by simp
  | k + 1, acc => by
    rw [List.replicate_succ, List.foldl_cons, foldl_cps a k, List.replicate_succ, List.flatten_cons, Array.toList_append, List.append_assoc]
noncomputable def timesS (z : Str) (n : Nat) : Str := ⟨(List.replicate n z.cps.toList).flatten.toArray⟩
theorem timesS_len (z : Str) (n : Nat) : (timesS z n).length = n * z.length := by
  unfold timesS Str.length
  simp [List.length_flatten]
inductive J_op_mul_str (x : V) (y : V) (H : Hp) (Q : VK) : Prop
  | mk : ∀ z n, (x = .str z) → (y = .int n) → (1 ≤ n) → (n ≤ 1000) → (z.length ≤ 1000) → (Q (.str (timesS z n.toNat)) H) → J_op_mul_str x y H Q
theorem op_mul_str : OpR X (binaryOp .Mult) (fun x y H Q => J_op_mul_str x y H Q) := by
  intro pins s σ H x y v u Q I rx ry h
  obtain ⟨z, n, rfl, rfl, h1, h2, h3, q⟩ := h
  obtain ⟨t, rfl⟩ := rx
  obtain ⟨t', rfl⟩ := ry
  have e0 : (⟨(List.replicate n.toNat z.cps).foldl (· ++ ·) #[]⟩ : Str) = timesS z n.toNat := by
    unfold timesS
    congr 1
    apply Array.toList_inj.mp
    rw [foldl_cps]
    simp
  have hlen : (timesS z n.toNat).length ≤ sizeLine := by
    rw [timesS_len]
    have : n.toNat ≤ 1000 := by omega
    have := Nat.mul_le_mul this h3
    exact Nat.le_trans this (by decide)
  have e1 : (n == 1 || z.length == 0) = true → timesS z n.toNat = z := fun hc => by
    unfold timesS
    rcases Bool.or_eq_true_iff.mp hc with hc | hc
    · have : n = 1 := by simpa using hc
      subst this
      simp
    · have hz : z.length = 0 := by simpa using hc
      have hz' : z.cps = #[] := Array.eq_empty_of_size_eq_zero hz
      cases z with
      | mk c =>
        simp only at hz'
        subst hz'
        simp
  refine PySem.P.mul_str (by
      have h1' : ¬ n < -(2 ^ 63 : Int) := by omega
      have h2' : ¬ n ≥ 2 ^ 63 := by omega
      rw [decide_eq_false h1', decide_eq_false h2']; rfl) (fun _ _ => ?_) (fun _ _ => ?_) ?_
  · have e : ((2 : Int) ^ 63 - 1) = 9223372036854775807 := by decide
    rw [e]
    have h4 : (1000 : Int) ≤ (9223372036854775807 : Int) / n := by
      refine (Int.le_ediv_iff_mul_le (by omega)).mpr ?_
      omega
    omega
  · unfold Builtin.Str.tooLong
    rw [timesS_len] at hlen
    exact decide_eq_false (by rw [Nat.mul_comm]; omega)
  · rw [if_neg (by omega)]
    by_cases hc : (n == 1 || z.length == 0) = true
    · rw [if_pos hc]
      exact ⟨.str z, H, I, ⟨_, rfl⟩, by rw [e1 hc] at q; exact q⟩
    · rw [if_neg hc]
      exact ⟨by rw [e0]; exact hlen, ⟨.str _, H, I.tok _, ⟨_, rfl⟩, by rw [e0]; exact q⟩⟩
inductive J_call_isT (kK : PySem.W.Frag) (xs : List V) (H : Hp) (Q : VK) : Prop
  | mk : ∀ x T t b, (xs = [x, .ty T]) → (TyOf kK H x t) → (PySem.W.kitOne kK t (.type T) = some b) → (Q (.bl b) H) → J_call_isT kK xs H Q
theorem call_isT : CallR X (.builtin "isinstance") (fun xs H Q => J_call_isT X.K xs H Q) := by
  intro pins s σ H xs us Q I r h
  obtain ⟨x, T, t, b, rfl, ty, e, q⟩ := h
  obtain ⟨u, w', rfl, rx, ry⟩ := vals2 r
  cases ry
  exact isinst_ok I rx ty e fun tk => ⟨.bl b, H, I.tok _, rfl, q⟩
end
end L2
namespace L2
open PySem PySem.Spec PyProof.Rows

noncomputable def capsOf (cells : List (Str × Addr)) : List (Str × NameKind) → List (Str × Addr) → List (Str × Addr)
  | [], acc => acc
  | (n, k) :: r, acc => if k == .free then (match cells.lookup n with | some c => capsOf cells r ((n, c) :: acc) | none => capsOf cells r acc) else capsOf cells r acc
theorem capsOf_cells {cells : List (Str × Addr)} : ∀ {names : List (Str × NameKind)} {acc : List (Str × Addr)} {x : Str} {c : Addr}, (∀ x c, acc.lookup x = some c → cells.lookup x = some c) → (capsOf cells names acc).lookup x = some c → cells.lookup x = some c
  | [], _, x, c, ha, h => ha x c h
  | (n, k) :: r, acc, x, c, ha, h => by
    unfold capsOf at h
    by_cases hk : (k == NameKind.free) = true
    · rw [if_pos hk] at h
      cases e : cells.lookup n with
      | none =>
        rw [e] at h
        exact capsOf_cells ha h
      | some d =>
        rw [e] at h
        refine capsOf_cells (fun y z hy => ?_) h
        rw [List.lookup_cons] at hy
        cases q : y == n with
        | true =>
          rw [q] at hy
          have : y = n := by simpa using q
          rw [this, e]; exact hy
        | false =>
          rw [q] at hy
          exact ha y z hy
    · rw [if_neg hk] at h
      exact capsOf_cells ha h
theorem capsOf_acc {cells : List (Str × Addr)} : ∀ {names : List (Str × NameKind)} {acc : List (Str × Addr)} {x : Str}, (acc.lookup x).isSome = true → ((capsOf cells names acc).lookup x).isSome = true
  | [], _, _, h => h
  | (n, k) :: r, acc, x, h => by
    unfold capsOf
    by_cases hk : (k == NameKind.free) = true
    · rw [if_pos hk]
      cases e : cells.lookup n with
      | none => exact capsOf_acc h
      | some d =>
        refine capsOf_acc ?_
        rw [List.lookup_cons]
        cases q : x == n with
        | true => rfl
        | false => exact h
    · rw [if_neg hk]; exact capsOf_acc h
theorem capsOf_has {cells : List (Str × Addr)} : ∀ {names : List (Str × NameKind)} {acc : List (Str × Addr)} {x : Str}, (x, NameKind.free) ∈ names → (cells.lookup x).isSome = true → ((capsOf cells names acc).lookup x).isSome = true
  | [], _, _, h, _ => nomatch h
  | (n, k) :: r, acc, x, h, hc => by
    unfold capsOf
    rcases List.mem_cons.mp h with e | h
    · cases e
      rw [if_pos (show (NameKind.free == NameKind.free) = true from rfl)]
      cases e : cells.lookup n with
      | none => rw [e] at hc; cases hc
      | some d =>
        refine capsOf_acc ?_
        rw [List.lookup_cons]
        simp
    · by_cases hk : (k == NameKind.free) = true
      · rw [if_pos hk]
        cases e : cells.lookup n with
        | none => exact capsOf_has h hc
        | some d => exact capsOf_has h hc
      · rw [if_neg hk]; exact capsOf_has h hc
theorem caps_cells {cells : List (Str × Addr)} {names : List (Str × NameKind)} {x : Str} {c : Addr} (h : (capsOf cells names []).lookup x = some c) : cells.lookup x = some c :=
  capsOf_cells (fun _ _ z => by simp at z) h
theorem forIn_caps {env : Env} : ∀ (names : List (Str × NameKind)) (acc : List (Str × Addr)), (∀ y ∈ names, y.2 = .free → ∃ c, env.cells.lookup y.1 = some c) →
    (forIn names acc fun x r => match x with
      | (name, kind) => if (kind == NameKind.free) = true then (do let c ← cellOf env name; pure (ForInStep.yield ((name, c) :: r))) else pure (ForInStep.yield r) : Sem (List (Str × Addr))) = pure (capsOf env.cells names acc)
  | [], acc, _ => rfl
  | (n, k) :: r, acc, h => by
    have hr : ∀ y ∈ r, y.2 = .free → ∃ c, env.cells.lookup y.1 = some c := fun y hy => h y (List.mem_cons_of_mem _ hy)
    rw [List.forIn_cons]
    by_cases hk : (k == NameKind.free) = true
    · have ek : k = .free := by simpa using hk
      obtain ⟨c, hc⟩ := h (n, k) List.mem_cons_self ek
      have e1 : cellOf env n = pure c := by
        have hc' : env.cells.lookup n = some c := hc
        unfold cellOf
        rw [hc']
      unfold capsOf
      rw [if_pos hk]
      have hc' : env.cells.lookup n = some c := hc
      rw [hc']
      simp only [hk, if_true, e1]
      exact forIn_caps r ((n, c) :: acc) hr
    · unfold capsOf
      rw [if_neg hk]
      simp only [hk]
      exact forIn_caps r acc hr
theorem closure_caps {scope : Scope} {env : Env} (h : ∀ y ∈ scope.names, y.2 = .free → ∃ c, env.cells.lookup y.1 = some c) : closureFor scope env = pure (capsOf env.cells scope.names []) := by
  have e := forIn_caps scope.names [] h
  unfold closureFor
  show (Bind.bind (forIn scope.names [] fun x r => match x with
      | (name, kind) => if (kind == NameKind.free) = true then (do let c ← cellOf env name; pure (ForInStep.yield ((name, c) :: r))) else pure (ForInStep.yield r) : Sem (List (Str × Addr))) fun r => pure r) = _
  rw [e]
  rfl

theorem relabel_free {scope : Scope} {env : Env} {x : Str} (hc : ∀ y ∈ scope.names, y.2 ≠ .cell) (h : (relabel scope env).names.lookup x = some .cell ∨ (relabel scope env).names.lookup x = some .free) : (x, NameKind.free) ∈ scope.names := by
  unfold relabel at h
  simp only at h
  generalize scope.names = names at h hc
  induction names with
  | nil => rcases h with h | h <;> cases h
  | cons y r ih =>
    obtain ⟨n, k⟩ := y
    have hr : ∀ y ∈ r, y.2 ≠ NameKind.cell := fun y hy => hc y (List.mem_cons_of_mem _ hy)
    rw [List.map_cons] at h
    by_cases hk : (k == NameKind.free && env.scope.kind == .function && env.kindOf n == some .cell) = true
    · simp only [hk, if_true, List.lookup_cons] at h
      cases q : x == n with
      | true =>
        have e : x = n := by simpa using q
        have ek : k = .free := by
          have := (Bool.and_eq_true_iff.mp (Bool.and_eq_true_iff.mp hk).1).1
          simpa using this
        rw [e, ek]; exact List.mem_cons_self
      | false =>
        rw [q] at h
        exact List.mem_cons_of_mem _ (ih h hr)
    · simp only [hk, Bool.false_eq_true, if_false, List.lookup_cons] at h
      cases q : x == n with
      | true =>
        rw [q] at h
        have e : x = n := by simpa using q
        have hk0 : k ≠ .cell := hc (n, k) List.mem_cons_self
        rcases h with h | h
        · exact absurd (Option.some.inj h) hk0
        · rw [e, Option.some.inj h]; exact List.mem_cons_self
      | false =>
        rw [q] at h
        exact List.mem_cons_of_mem _ (ih h hr)

theorem relabel_of_free {scope : Scope} {env : Env} {x : Str} (h : scope.names.lookup x = some .free) : (relabel scope env).names.lookup x = some .cell ∨ (relabel scope env).names.lookup x = some .free := by
  unfold relabel
  simp only
  generalize scope.names = names at h
  induction names with
  | nil => cases h
  | cons y r ih =>
    obtain ⟨n, k⟩ := y
    rw [List.map_cons]
    rw [List.lookup_cons] at h
    by_cases hk : (k == NameKind.free && env.scope.kind == .function && env.kindOf n == some .cell) = true
    · simp only [hk, if_true, List.lookup_cons]
      cases q : x == n with
      | true => exact .inl rfl
      | false => rw [q] at h; exact ih h
    · simp only [hk, Bool.false_eq_true, if_false, List.lookup_cons]
      cases q : x == n with
      | true => rw [q] at h; exact .inr h
      | false => rw [q] at h; exact ih h

noncomputable def cxComp (X : Cx) (scope : Scope) (N : List Str) (fp : List Addr) (s : Shared) (H : Hp) : Cx :=
  { X with N := N, s₀ := s, H₀ := H, env := compEnvC scope (capsOf X.env.cells scope.names []) s.heap.objs.size X.env, outer := X.stack, ex := fp, fn := fun _ => false, pn := [], xe := fun _ _ => False }

structure CompScope (X : Cx) (scope : Scope) (own : List Str) (caps : List (Str × Nat)) : Prop where
  kind : scope.kind = .function
  nocell : ∀ y ∈ scope.names, y.2 ≠ .cell
  locs : ∀ y ∈ scope.names, y.2 = .local → scope.names.lookup y.1 = some .local
  frees : ∀ y ∈ scope.names, y.2 = .free → X.env.kindOf y.1 = some .cell
  own : ∀ x ∈ own, scope.names.lookup x = some .local
  caps : ∀ p ∈ caps, X.N[p.2]? = some p.1 ∧ X.env.kindOf p.1 = some .cell ∧ scope.names.lookup p.1 = some .free

noncomputable def capt (σ : St) (caps : List (Str × Nat)) : St := caps.map fun p => (σ[p.2]?).join
section
variable {X : Cx} {scope : Scope} {own : List Str} {caps : List (Str × Nat)} {pins : List (Addr × Obj)} {σ : St} {H : Hp} {s : Shared} {fp : List Addr}
theorem comp_ok (S : CompScope X scope own caps) (I : Inv X pins σ H s) (hf : ∀ b ∈ fp, FpOk X pins H b) (hl : ∀ b ∈ fp, b < s.heap.objs.size) : (cxComp X scope (own ++ caps.map (·.1)) fp s H).Ok where
  mod := I.ok.mod
  kind := S.kind
  glob := I.ok.glob
  blt := I.ok.blt
  above := Nat.le_refl _
  inj := fun x y c h1 h2 => I.ok.inj x y c (caps_cells h1) (caps_cells h2)
  has := fun x h => by
    have hm := relabel_free S.nocell h
    obtain ⟨c, hc⟩ := I.ok.has x (.inl (S.frees _ hm rfl))
    exact Option.isSome_iff_exists.mp (capsOf_has hm (by rw [hc]; rfl))
  cab := fun x c h _ => nomatch h
  hd := I.ok.hd
  frames := I.ok.frames
  stk := .inl rfl
  exf := fun b hb => ⟨Nat.ne_of_lt (hl b hb), fun x c h => (hf b hb).2.2.2.2.1 x c (caps_cells h)⟩
  bs := I.bs
  bsz := Nat.le_trans I.ok.bsz I.sz
  noex := fun b o e hb => by
    rcases (hf b hb).2.2.2.1 with z | z
    · exact I.ok.noex b o e z
    · exact absurd (Nat.lt_of_lt_of_le (Nat.lt_of_lt_of_le (Heap.lt_size e) I.ok.bsz) z) (Nat.lt_irrefl _)
  exfs := fun b hb z => by
    rcases List.mem_cons.mp (I.stkSub b z) with e | e
    · exact (hf b hb).2.1 e
    · exact (hf b hb).2.2.1 e
  funs := I.stack
  frf := I.stkFree
theorem comp_start (S : CompScope X scope own caps) (I : Inv X pins σ H s) (hf : ∀ b ∈ fp, FpOk X pins H b) (hl : ∀ b ∈ fp, b < s.heap.objs.size) {h1 : Heap} {m : Str → Option Value} {t : Nat} (hn : h1.Ns s.heap.objs.size m)
    (hk : ∀ b o, s.heap.get? b = some o → h1.get? b = some o) : Inv (cxComp X scope (own ++ caps.map (·.1)) fp s H) [] (List.replicate own.length none ++ capt σ caps) H { s with heap := h1, toks := t } := by
  refine ⟨comp_ok S I hf hl, rfl, I.bare, Un.kept hk, ⟨m, hn, fun i y v e1 e2 e3 => ?_⟩, fun x c e => ?_, I.hok.fresh (Nat.le_refl _), fun x c e => I.freeC x c (caps_cells e), (fun p hp => by cases hp), I.hok.kept hk, ?_⟩
  · have hi : own.length ≤ i := by
      by_cases hi : i < own.length
      · rw [List.getElem?_append_left (by simpa using hi), List.getElem?_replicate, if_pos hi] at e2
        cases e2
      · omega
    rw [List.getElem?_append_right (by simpa using hi), List.length_replicate] at e2
    unfold capt at e2
    rw [List.getElem?_map] at e2
    have e1' : (own ++ caps.map (·.1))[i]? = some y := e1
    rw [List.getElem?_append_right hi, List.getElem?_map] at e1'
    cases q : caps[i - own.length]? with
    | none => rw [q] at e2; cases e2
    | some p =>
      rw [q] at e1' e2
      have ey : p.1 = y := Option.some.inj e1'
      have ev : (σ[p.2]?).join = some v := Option.some.inj e2
      have eσ : σ[p.2]? = some (some v) := by
        cases z : σ[p.2]? with
        | none => rw [z] at ev; cases ev
        | some w' => rw [z] at ev; rw [show w' = some v from ev]
      obtain ⟨hN, hkind, hfree⟩ := S.caps p (List.mem_of_getElem? q)
      rw [ey] at hN hkind hfree
      obtain ⟨mX, hnX, hlX⟩ := I.loc
      obtain ⟨u, ru, lk⟩ := hlX p.2 y v hN eσ (.inr (.inl hkind))
      refine ⟨u, ru, ?_⟩
      rcases lk with ⟨k1, _⟩ | ⟨_, c, hc, hcell⟩
      · rw [hkind] at k1; cases k1
      · have hm := relabel_free S.nocell (relabel_of_free (env := X.env) hfree)
        obtain ⟨c', hc'⟩ := Option.isSome_iff_exists.mp (capsOf_has (acc := []) hm (by rw [hc]; rfl))
        have := caps_cells hc'
        rw [hc] at this; cases this
        obtain ⟨o, ho, hd⟩ := hcell
        exact .inr ⟨relabel_of_free (env := X.env) hfree, c, hc', ⟨o, hk _ _ ho, hd⟩⟩
  · obtain ⟨v, o, ho, hd⟩ := I.cell x c (caps_cells e)
    exact ⟨v, o, hk _ _ ho, hd⟩
  · show _ = (own ++ caps.map (·.1)).length
    simp [capt]
theorem comp_back {N : List Str} {τ : St} {H' : Hp} {s' : Shared} (I : Inv X pins σ H s) (J : Inv (cxComp X scope N fp s H) [] τ H' s') (hf : ∀ b ∈ fp, FpOk X pins H b) : Inv X pins σ H' s' :=
  I.call' (ch := fp) J.os J.base J.hok J.bare fun b hb => by
    obtain ⟨_, f1, _, f3, f4, f5⟩ := hf b hb
    exact ⟨f3, f1, f4, f5⟩
theorem comp_go {prog : Program} {w : World} {A : Around} {R : Result → Shared → Prop} {elt target iter : Expr} {pos : Pos} {it acc : Value} {env : Env} (Iv : Nat → Shared → Prop)
    (turn : ∀ n s, Iv n s → wpAny (model prog w) A (pyNext it) (fun r s₁ => match r with
      | none => R (.ok .next) s₁
      | some v => wpAny (model prog w) A (letOwnedTupleGo target it v) (fun _ s₂ => wpAny (model prog w) A (assign target env v) (fun _ s₃ => wpAny (model prog w) A (eval elt env) (fun x s₄ =>
              wpAny (model prog w) A (call (.builtin "list.append") [acc, x]) (fun _ s₅ => ∃ m, m < n ∧ Iv m s₅) (fun _ _ => False) s₄) (fun _ _ => False) s₃) (fun _ _ => False) s₂) (fun _ _ => False) s₁) (fun _ _ => False) s)
    (n : Nat) (h : Iv n s) : codeAny (model prog w) A (.compLoop (.ListComp elt [⟨target, iter, [], 0⟩] scope pos) 0 it acc env) R s := by
  refine codeAny_loop rfl Iv (fun n s hI => ?_) n h
  show wpAny _ A ((compTurn (.ListComp elt [⟨target, iter, [], 0⟩] scope pos) 0 it acc env).onRaise (fun x => do noteFrame x env; theTreesLotGoes x)) _ _ s
  refine wpAny_noted ?_
  rw [compTurn_list]
  refine wpAny_bind (wpAny_standAt (wpAny_bind (wpAny_mono (turn n s hI) (fun r s₁ h₁ => ?_) fun _ _ z => z.elim)))
  cases r with
  | none => exact wpAny_pure h₁
  | some v =>
    refine wpAny_bind (wpAny_mono h₁ (fun _ s₂ h₂ => wpAny_bind (wpAny_mono h₂ (fun _ s₃ h₃ => wpAny_bind (wpAny_tests_nil ?_)) fun _ _ z => z.elim)) fun _ _ z => z.elim)
    exact wpAny_bind (wpAny_bind (wpAny_mono h₃ (fun x s₄ h₄ => wpAny_bind (wpAny_mono h₄ (fun _ s₅ h₅ => wpAny_pure (wpAny_pure ⟨rfl, h₅⟩)) fun _ _ z => z.elim)) fun _ _ z => z.elim))

noncomputable def CompBody (J : It) (g : TG) (te : TE) (τ0 : St) (H1 : Hp) (Q : VK) : Prop := ∀ D, H1 D = none → ∃ W : Nat → Nat → St → List V → Hp → Prop,
  (∃ m, W 0 m τ0 [] (upd H1 D (.lst []))) ∧
  ∀ i m τ ys H, W i m τ ys H → H D = some (.lst ys) ∧ ((J.stop i H ∧ Q (.ref D) H) ∨ (J.go i H ∧ ys.length < sizeLine ∧ ∀ x H', J.yld i H x H' → g x τ H' fun τ2 H2 => te τ2 H2 fun y H3 =>
    H3 D = some (.lst ys) ∧ ∃ m', m' < m ∧ W (i + 1) m' τ2 (ys ++ [y]) (upd H3 D (.lst (ys ++ [y])))))
noncomputable def tComp (wi : TI) (g : TG) (te : TE) (k : Nat) (caps : List (Str × Nat)) : TE := fun σ H Q => wi σ H fun J H1 => CompBody J g te (List.replicate k none ++ capt σ caps) H1 Q

theorem comp_core {tg elt iter : Expr} {wi : TI} {g : TG} {te : TE} {pos p2 : Pos} {use : Option (Value → Sem Unit)} {Q : VK} {Q' : Value → Shared → Prop} (S : CompScope X scope own caps) (hi : PI X tg iter wi) (hc : X.calm = true)
    (hg : ∀ fp s H, PG (cxComp X scope (own ++ caps.map (·.1)) fp s H) tg g) (he : ∀ fp s H, PE (cxComp X scope (own ++ caps.map (·.1)) fp s H) elt te)
    (I : Inv X pins σ H s) (h : tComp wi g te own.length caps σ H Q)
    (fin : ∀ D C H5 s5, Inv X pins σ H5 s5 → Q (.ref D) H5 → (∃ m, s5.heap.Ns C m) → H5 C = none → C ≠ X.env.locals → X.s₀.heap.objs.size ≤ C → (∀ x c, X.env.cells.lookup x = some c → c ≠ C) → (∀ p ∈ X.pn ++ pins, p.1 ≠ C) →
      compPost (model X.prog X.w) X.A X.xe use Q' (.ref D) C (.ok .next) s5)
    (hs : ∀ x, foldedSetIterable iter X.env x = pure x := by intro _; rfl) :
    wpAny (model X.prog X.w) X.A (comprehension (.ListComp elt [⟨tg, iter, [], 0⟩] scope pos) scope X.env p2 (newList []) false (eval iter X.env) use) Q' X.xe s := by
  have hclos : closureFor scope X.env = pure (capsOf X.env.cells scope.names []) := closure_caps fun y hy hk => I.ok.has y.1 (.inl (S.frees y hy hk))
  refine wpAny_comprehension_free (g := ⟨tg, iter, [], 0⟩) (gs := []) rfl hs hclos S.kind S.locs (thn (hi pins s σ H _ I h) fun v s1 h1 => thn h1 fun itv s2 h2 => ?_)
  obtain ⟨it, fp, tn, J, H2, e, I2, T, st2, f2, R⟩ := h2
  subst e
  refine wpAny_newObj_type (wpAny_newFunctionEnv S.nocell (by intro y hy; simp at hy) (fun h₁ hns₁ hsb₁ => ?_) S.kind)
  have fr2 : H2 s2.heap.objs.size = none := I2.hok.fresh (Nat.le_refl _)
  obtain ⟨W, ⟨m0, w0⟩, turn⟩ := R s2.heap.objs.size fr2
  have I3 : Inv X pins σ (upd H2 s2.heap.objs.size (.lst [])) { s2 with heap := s2.heap.push { cls := .type "list", dict := none, data := .seq ([] : List Value).toArray } } := I2.lnew (its := []) (t' := s2.toks) .nil (Nat.zero_le _)
  have lt2 : ∀ b ∈ fp, b < s2.heap.objs.size := fun b hb => by
    obtain ⟨o, ho, _⟩ := T.obj _ _ st2 b hb
    exact Heap.lt_size ho
  have f3 : ∀ b ∈ fp, FpOk X pins (upd H2 s2.heap.objs.size (.lst [])) b := fun b hb => ⟨by rw [upd_ne (Nat.ne_of_lt (lt2 b hb))]; exact (f2 b hb).1, (f2 b hb).2⟩
  generalize hs3 : ({ s2 with heap := s2.heap.push { cls := .type "list", dict := none, data := .seq ([] : List Value).toArray } } : Shared) = s3 at I3
  have hz3 : s3.heap.objs.size = s2.heap.objs.size + 1 := by rw [← hs3]; exact Heap.size_push _ _
  have kp23 : ∀ b o, s2.heap.get? b = some o → s3.heap.get? b = some o := fun b o e => by rw [← hs3]; exact Heap.get?_push_of_some _ e
  have lt3 : ∀ b ∈ fp, b < s3.heap.objs.size := fun b hb => by rw [hz3]; exact Nat.lt_succ_of_lt (lt2 b hb)
  have hns₁' : h₁.Ns s3.heap.objs.size (fun x => ([] : List (Str × Value)).reverse.lookup x) := by rw [← hs3]; exact hns₁
  have kp31 : ∀ b o, s3.heap.get? b = some o → h₁.get? b = some o := fun b o e => by
    have hb : b ≠ s3.heap.objs.size := Nat.ne_of_lt (Heap.lt_size e)
    rw [← hs3] at e hb
    exact hsb₁.extBut b o hb (Heap.get?_push_of_some _ e)
  have J1 := comp_start S I3 f3 lt3 (t := s2.toks + ([] : List (Str × Value)).length) hns₁' kp31
  have st1 : tn 0 h₁ := T.keep _ _ _ st2 fun b hb o e => kp31 b o (kp23 b o e)
  -- the loop
  have loop : ∀ s₃ : Shared, s₃ = { s3 with heap := h₁, toks := s2.toks + ([] : List (Str × Value)).length } →
      codeAny (model X.prog X.w) X.A (.compLoop (.ListComp elt [⟨tg, iter, [], 0⟩] scope pos) 0 (.ref it) (.ref s2.heap.objs.size) (cxComp X scope (own ++ caps.map (·.1)) fp s3 (upd H2 s2.heap.objs.size (.lst []))).env)
        (compPost (model X.prog X.w) X.A X.xe use Q' (.ref s2.heap.objs.size) s3.heap.objs.size) s₃ := by
    rintro s₃ rfl
    refine comp_go (fun n s' => ∃ i τ ys H', Inv (cxComp X scope (own ++ caps.map (·.1)) fp s3 (upd H2 s2.heap.objs.size (.lst []))) [] τ H' s' ∧ tn i s'.heap ∧ (∀ b ∈ fp, H' b = none) ∧ W i n τ ys H') ?_ m0
      ⟨0, _, [], _, J1, st1, fun b hb => (f3 b hb).1, w0⟩
    rintro n s' ⟨i, τ, ys, H', J', st', fr', w'⟩
    have fY : ∀ {H'' : Hp}, (∀ b ∈ fp, H'' b = none) → ∀ b ∈ fp, FpOk (cxComp X scope (own ++ caps.map (·.1)) fp s3 (upd H2 s2.heap.objs.size (.lst []))) [] H'' b := fun hn b hb =>
      ⟨hn b hb, Nat.ne_of_lt (lt3 b hb), fun z => by
          rcases List.mem_cons.mp (I3.stkSub b z) with e | e
          · exact (f3 b hb).2.1 e
          · exact (f3 b hb).2.2.1 e, .inl hb, fun x c e => (f3 b hb).2.2.2.2.1 x c (caps_cells e), (fun p hp => by cases hp)⟩
    obtain ⟨hD, tt⟩ := turn i n τ ys H' w'
    rcases tt with ⟨stop, qn⟩ | ⟨go, hlen, step⟩
    · refine thn (T.done (cxComp X scope (own ++ caps.map (·.1)) fp s3 (upd H2 s2.heap.objs.size (.lst []))) rfl rfl rfl hc i [] s' τ H' (fun _ _ => False) J' (fY fr') st' stop) fun r s4 ⟨hr, J4⟩ => ?_
      subst hr
      obtain ⟨m4, hn4, _⟩ := J4.loc
      have I5 := comp_back I3 J4 f3
      refine fin _ _ _ s4 I5 qn ⟨m4, hn4⟩ J4.free ?_ ?_ (fun x c e z => ?_) fun p hp z => ?_
      · exact Nat.ne_of_gt I3.lt
      · exact I3.sz
      · obtain ⟨v, q⟩ := I3.cell x c e
        rw [z] at q
        exact absurd q.lt (Nat.lt_irrefl _)
      · have q := (I3.pin p hp).1
        rw [z] at q
        exact absurd (Heap.lt_size q) (Nat.lt_irrefl _)
    · refine thn (T.item (cxComp X scope (own ++ caps.map (·.1)) fp s3 (upd H2 s2.heap.objs.size (.lst []))) rfl rfl rfl hc i [] s' τ H' (fun _ _ => False) J' (fY fr') st' go) fun r s4 ⟨u, hr, h4⟩ => ?_
      subst hr
      refine thn h4 fun _ s5 ⟨x, H5, J5, r5, y5, st5, fr5⟩ => ?_
      have J5' := J5.pinned (fY fr5) (T.obj _ _ st5)
      refine thn (hg fp s3 _ _ s5 τ H5 x u _ J5' r5 (step x H5 y5)) fun _ s6 ⟨τ6, H6, J6, q6⟩ => ?_
      refine thn (he fp s3 _ _ s6 τ6 H6 _ J6 q6) fun yv s7 ⟨y, H7, J7, r7, hD7, m', hm', w7⟩ => ?_
      refine thn (mt_append (X := cxComp X scope (own ++ caps.map (·.1)) fp s3 (upd H2 s2.heap.objs.size (.lst []))) _ s7 τ6 H7 (.ref s2.heap.objs.size) [y] _ [yv] (fun _ H8 => H8 = upd H7 s2.heap.objs.size (.lst (ys ++ [y]))) J7 rfl (.cons r7 .nil) ⟨_, ys, y, rfl, rfl, hD7, hlen, rfl⟩) fun _ s8 ⟨_, H8, J8, _, e8⟩ => ?_
      subst e8
      refine ⟨m', hm', i + 1, τ6, ys ++ [y], _, J8.unpinned, T.keep _ _ _ st5 fun b hb o e => (J8.pin (b, o) (List.mem_append_right _ (List.mem_append_right _ (mem_pinsAt hb e)))).1, fun b hb => ?_, w7⟩
      obtain ⟨o, e, d⟩ := T.obj _ _ st5 b hb
      exact (J8.pin (b, o) (List.mem_append_right _ (List.mem_append_right _ (mem_pinsAt hb e)))).2.1
  have hloop := loop _ rfl
  subst hs3
  exact codeAny_compStart_list hloop (T.self _ 0 _ _ _ st1 hloop)
theorem ps_setComp {i : Nat} {y : Str} {tg elt iter : Expr} {wi : TI} {g : TG} {te : TE} {pos spos py : Pos} (hN : X.N.Nodup) (hiN : X.N[i]? = some y) (hy : X.env.scope.names.lookup y = some .local) (S : CompScope X scope own caps) (hi : PI X tg iter wi) (hc : X.calm = true)
    (hg : ∀ fp s H, PG (cxComp X scope (own ++ caps.map (·.1)) fp s H) tg g) (he : ∀ fp s H, PE (cxComp X scope (own ++ caps.map (·.1)) fp s H) elt te)
    (hsw : swapsWith (.ListComp elt [⟨tg, iter, [], 0⟩] scope pos) (some (.Name y py)) spos.line X.env = pure true)
    (hs : ∀ x, foldedSetIterable iter X.env x = pure x := by intro _; rfl) : PS X (.Assign [.Name y py] (.ListComp elt [⟨tg, iter, [], 0⟩] scope pos) spos) (tAsg (tComp wi g te own.length caps) (gName i)) := by
  intro pins s σ H D I h
  rw [exec_Assign_Name_used _ _ _ _ hsw]
  refine wpAny_bind (wpAny_standAt (wpAny_bind ?_))
  show wpAny _ X.A (do let _ ← comprehension (.ListComp elt [⟨tg, iter, [], 0⟩] scope pos) scope X.env _ (newList []) false (eval iter X.env) (some (assign (.Name y py) X.env))) _ _ s
  refine wpAny_bind (wpAny_mono (comp_core (use := some (assign (.Name y py) X.env)) (Q := fun x H1 => D.nx (σ.set i (some x)) H1) (Q' := fun _ s' => SP X pins D .next s') S hi hc hg he I h (fun A C H5 s5 I5 q ⟨m, hn⟩ hC hL hz hcell hpin => ?_) hs)
    (fun _ s' hq => wpAny_pure (wpAny_pure hq)) fun _ _ e => e)
  show wpAny _ X.A (assign (.Name y py) X.env (.ref A)) _ _ _
  refine wpAny_assign_Name (store_ok2 I5 hN hiN (.inl hy) (v := .ref A) rfl (fun s6 I6 ⟨a, hsb, ha⟩ => ?_) (.inr hy))
  have haC : C ≠ a := by
    rcases ha with ha | ha
    · rw [ha]; exact hL
    · exact fun z => hcell y a ha z.symm
  refine ⟨m, hn.sameBut hsb haC, fun h' hs' => ?_⟩
  exact ⟨_, H5, I6.turned (t' := s6.toks) (fun b o hb e => (hs'.2 b hb).trans e) hC hL (.inr hz) hcell hpin, q⟩
end
end L2
namespace L2
open PySem PySem.Spec PyProof.Rows

structure Has (P : Program) (w : World) (K : PySem.W.Frag) (mg : Str → Option Value) (base : Heap) (k : Nat) (x : Str) (ps : List Str) (sp : Sp) : Prop where
  ex : ∃ f fd, FnOk P w K mg base CX0 k f fd ps sp ∧ mg x = some (.ref f) ∧ PySem.W.keepIn K (.ref f) = true ∧ Binds K fd ps []
section
variable {X : Cx} {k k' : Nat} {x : Str} {ps : List Str} {sp : Sp} {p pos : Pos} {e : Expr} {es : List Expr} {t : TA}
theorem pe_callH (h : Has X.prog X.w X.K X.mg X.base k x ps sp) (hr : Room k' X.A) (hk : k ≤ k') (hg : Gl X x) (ha : PA X (e :: es) t) (hdb : (x == ("__debug__" : Str)) = false := by decide)
    (he : starEach (e :: es) X.env = (false, eval e X.env) :: starEach es X.env := by rfl) (hpl : (backTo pos (starEach es X.env)).any (·.1) = false := by rfl) :
    PE X (.Call (.Name x p) (e :: es) [] pos) (tCall sp [] E0 t) := by
  obtain ⟨f, fd, F, hm, hkp, hb⟩ := h.ex
  exact pe_call F (hr.mono hk) hg hm hkp hb .nil pass0 ha hdb he hpl
end
structure Def (K : PySem.W.Frag) (mg : Str → Option Value) (x : Str) (st : Stmt) (ps : List Str) : Prop where
  ex : ∃ f fd, Fun K x x st f fd ∧ mg x = some (.ref f) ∧ Binds K fd ps []
theorem Def.has {P : Program} {w : World} {K : PySem.W.Frag} {mg : Str → Option Value} {base : Heap} {x : Str} {st : Stmt} {N ps : List Str} {k : Nat} {sp : Sp} (D : Def K mg x st ps) (S : FnScope N ps (defScope st)) (len : ∀ vs H Q E, sp vs H Q E → vs.length = ps.length)
    (hbody : ∀ (f : Addr) (cdv : Value) (A : Around) (outer : List Env) (s : Shared) (H : Hp) (vs : List V) (Q : VK) (E : XK), Room k (A.deeper (envOfC x (defScope st) s.heap.objs.size f cdv)) → sp vs H Q E →
      ∃ t, PSs (cxOf CX0 P w K mg base N x (defScope st) f cdv A outer s H E).nox (defBody st) t ∧ t { nx := fun _ H' => Q .non H', rt := Q } (start N vs) H) : Has P w K mg base (k + 1) x ps sp := by
  obtain ⟨f, fd, F, hm, hb⟩ := D.ex
  exact ⟨f, fd, F.ok S len (hbody f), hm, F.kp, hb⟩

theorem same_new {H : Hp} {p : Addr} (h : H p = none) (o : HO) : Same H (upd H p o) := fun b u q => by rw [upd_ne (ne_of_none q h)]; exact q
theorem Same.put {H0 H : Hp} {p : Addr} {o : HO} (e : Same H0 H) (h : H0 p = none) : Same H0 (upd H p o) := fun b u q => by rw [upd_ne (ne_of_none q h)]; exact e b u q

theorem comp_range {n : Nat} {te : TE} {σ : St} {caps : List (Str × Nat)} {H : Hp} {Q : VK} {lo : Int} (f : Int → V) (hz : n ≤ 1000)
    (hel : ∀ i : Nat, i < n → ∀ H', Same H H' → ∀ Q' : VK, Q' (f (lo + i)) H' → te (some (.int (lo + i)) :: capt σ caps) H' Q') (hq : ∀ D, H D = none → Q (.ref D) (upd H D (.lst ((List.range n).map fun i => f (lo + (i : Nat)))))) :
    CompBody (Itr lo n) (gName 0) te (List.replicate 1 none ++ capt σ caps) H Q := by
  intro D hD
  refine ⟨fun i m τ ys H' => m = n - i ∧ i ≤ n ∧ (∃ o, τ = o :: capt σ caps) ∧ ys = ((List.range i).map fun i => f (lo + (i : Nat))) ∧ H' = upd H D (.lst ys), ⟨n, by simp, Nat.zero_le _, ⟨none, rfl⟩, by simp, rfl⟩, ?_⟩
  rintro i m τ ys H' ⟨rfl, hi, ⟨o, rfl⟩, rfl, rfl⟩
  refine ⟨upd_same, ?_⟩
  by_cases hlt : i < n
  · refine .inr ⟨hlt, ?_, fun x H'' y => ?_⟩
    · rw [List.length_map, List.length_range]
      exact small1000 (by omega)
    obtain ⟨e, y⟩ := y
    subst e y
    show te (some (.int (lo + i)) :: capt σ caps) _ _
    refine hel i hlt _ (same_new hD _) _ ?_
    refine ⟨upd_same, n - (i + 1), by omega, rfl, hlt, ⟨_, rfl⟩, ?_, ?_⟩
    · rw [List.range_succ, List.map_append]; rfl
    · rw [upd_upd]
  · have e : i = n := by omega
    subst e
    exact .inl ⟨Nat.le_refl _, hq D hD⟩
noncomputable def checkComp (xsc : Scope) (xN : List Str) (scope : Scope) (own : List Str) (caps : List (Str × Nat)) : Bool :=
  scope.names.all (fun y => y.2 != .cell) && scope.names.all (fun y => y.2 != .local || scope.names.lookup y.1 == some .local) && scope.names.all (fun y => y.2 != .free || xsc.names.lookup y.1 == some .cell)
    && own.all (fun x => scope.names.lookup x == some .local) && caps.all (fun p => xN[p.2]? == some p.1 && xsc.names.lookup p.1 == some .cell && scope.names.lookup p.1 == some .free)
theorem comp_scope {X : Cx} {scope : Scope} {own : List Str} {caps : List (Str × Nat)} (xsc : Scope) (xN : List Str) (hx : X.env.scope = xsc) (hN : X.N = xN) (hk : scope.kind = .function) (c : checkComp xsc xN scope own caps = true) : CompScope X scope own caps := by
  unfold checkComp at c
  simp only [Bool.and_eq_true, List.all_eq_true, Bool.or_eq_true, bne_iff_ne, beq_iff_eq, ne_eq] at c
  obtain ⟨⟨⟨⟨c1, c2⟩, c3⟩, c4⟩, c5⟩ := c
  refine ⟨hk, c1, fun y hy e => ?_, fun y hy e => ?_, c4, fun p hp => ?_⟩
  · rcases c2 y hy with z | z
    · exact absurd e z
    · exact z
  · rcases c3 y hy with z | z
    · exact absurd e z
    · show X.env.scope.names.lookup y.1 = _
      rw [hx]; exact z
  · obtain ⟨⟨z1, z2⟩, z3⟩ := c5 p hp
    refine ⟨by rw [hN]; exact z1, ?_, z3⟩
    show X.env.scope.names.lookup p.1 = _
    rw [hx]; exact z2
structure Blt (mg : Str → Option Value) : Prop where
  len_ : mg "len" = none
  min_ : mg "min" = none
  max_ : mg "max" = none
  sum_ : mg "sum" = none
  range_ : mg "range" = none
  enumerate_ : mg "enumerate" = none
  isinstance_ : mg "isinstance" = none
  tuple_ : mg "tuple" = none
  int_ : mg "int" = none
  bool_ : mg "bool" = none
  str_ : mg "str" = none
  list_ : mg "list" = none
theorem boot_isinstance_ : bootBuiltins "isinstance" = some (.builtin "isinstance") := by decide +kernel
theorem boot_tuple_ : bootBuiltins "tuple" = some (.type "tuple") := by decide +kernel
theorem boot_int_ : bootBuiltins "int" = some (.type "int") := by decide +kernel
theorem boot_bool_ : bootBuiltins "bool" = some (.type "bool") := by decide +kernel
theorem boot_list_ : bootBuiltins "list" = some (.type "list") := by decide +kernel
theorem pos' {j : Int} (h : decide (0 < j) = true := by decide) : 0 < j := of_decide_eq_true h
theorem div' {i j : Int} (h : (decide (0 < j) && decide (j < 1073741824)) = true := by decide) : CDiv i j :=
  ⟨of_decide_eq_true (Bool.and_eq_true_iff.mp h).1, of_decide_eq_true (Bool.and_eq_true_iff.mp h).2⟩
theorem iteD {c A B : Prop} [Decidable c] (h1 : c → A) (h2 : ¬ c → B) : if decide c = true then A else B := by
  by_cases h : c
  · rw [decide_eq_true h]; exact iteT (h1 h)
  · rw [decide_eq_false h]; exact iteF (h2 h)
theorem iteDN {c A B : Prop} [Decidable c] (h1 : ¬ c → A) (h2 : c → B) : if (!decide c) = true then A else B := by
  by_cases h : c
  · rw [decide_eq_true h]; exact iteF (h2 h)
  · rw [decide_eq_false h]; exact iteT (h1 h)
end L2
namespace L2
open PySem PySem.Spec PyProof.Rows

noncomputable def F2 (h : Heap) (e : Addr) (x : Value) : Prop := ∃ o vs, h.get? e = some o ∧ o.data = .fields vs ∧ vs[2]? = some x
noncomputable def Ctx0 (h : Heap) (e : Addr) : Prop := F2 h e .none
theorem F2.other {h : Heap} {e b : Addr} {x : Value} {f : Obj → Obj} (c : F2 h e x) (n : b ≠ e) : F2 (h.update b f) e x := by
  obtain ⟨o, vs, a, d, i⟩ := c
  exact ⟨o, vs, (Heap.get?_update_other _ _ n).trans a, d, i⟩
section
variable {M : Model} {A : Around} {E : Value → Shared → Prop} {s : Shared}
inductive Entered (l : List Env) (e : Addr) (oe : Obj) (L : Addr) (h h' : Heap) : Prop
  | mk (T : Addr) (oT : Obj) (ts : Array Value) (old : ∀ b o, b ≠ e → b ∉ l.filterMap (·.frame) → h.get? b = some o → h'.get? b = some o) (slots : ∀ b o, b ≠ e → h.get? b = some o → ∃ sl, h'.get? b = some { o with slots := sl })
    (own : h'.get? e = some (oe.mapFields (·.setIfInBounds 1 (.ref T)))) (new : h.get? T = none) (ne : T ≠ e) (size : h.objs.size ≤ T) (there : h'.get? T = some oT) (data : oT.data = .fields ts) (fl : ts[3]? = some (rawInt L)) : Entered l e oe L h h'
theorem entry_on {base : Heap} {env : Env} {outer : List Env} {L e : Addr} {oe : Obj} {vs : Array Value} {hd : Value} {nx : Bool} {Q : Unit → Shared → Prop}
    (af : A.frames = some (env :: outer)) (ff : s.heap.FunFrames base (env :: outer)) (fL : env.frame = some L) (ge : s.heap.get? e = some oe) (gd : oe.data = .fields vs) (gz : 1 < vs.size)
    (k : ∀ h', Entered (env :: outer) e oe L s.heap h' → Q () { s with heap := h' }) :
    wpAny M A (do let a ← frameOf env; let pl ← entryPlaceOf L nx; let b ← EntryCells.newEntry hd a .none (rawInt L) .none pl; setField (.ref e) 1 b) Q E s := by
  have hne : e ∉ (env :: outer).filterMap (·.frame) := fun m => by
    obtain ⟨_, o, q, nf⟩ := ff.mem m
    rw [ge] at q
    cases q
    exact nf vs gd
  refine wpAny_bind (wpAny_frameOf_fun af ff fL fun h1 sl => ?_)
  refine wpAny_bind (wpAny_entryPlaceOf fun pl hp => ?_)
  unfold EntryCells.newEntry newFields
  refine wpAny_bind (wpAny_newObj_type ?_ (hp.sizeOk5 _ _ _ _ _))
  have g1 : h1.get? e = some oe := (sl.2.1 e hne).trans ge
  generalize hO : ({ cls := .type "traceback", dict := none, data := .fields ([hd, .ref L, .none, rawInt L, .none] ++ (if pl.isEmpty then List.replicate 6 Value.none else pl)).toArray } : Obj) = oT
  have g2 := Heap.get?_push_of_some (h := h1) oT g1
  refine wpAny_setField g2 gd gz (k _ ?_)
  have nT : h1.objs.size ≠ e := Nat.ne_of_gt (Heap.lt_size g1)
  have dd := Obj.data_mapFields gd (·.setIfInBounds 1 (Value.ref h1.objs.size))
  have up : ∀ b o, b ≠ e → h1.get? b = some o → ((h1.push oT).update e (Obj.mapFields (·.setIfInBounds 1 (Value.ref h1.objs.size)))).get? b = some o := fun b o n q => by
    rw [Heap.get?_update_other _ _ (Ne.symm n)]
    exact Heap.get?_push_of_some _ q
  refine ⟨h1.objs.size, oT, _, fun b o n m q => up b o n ((sl.2.1 b m).trans q), fun b o n q => ?_, Heap.get?_update_self _ g2 (Obj.isFreed_of_fields dd), Heap.get?_none_of_le (Nat.le_of_eq sl.1.symm), nT, Nat.le_of_eq sl.1.symm, ?_, (by rw [← hO]), ?_⟩
  · obtain ⟨x, q'⟩ := sl.2.2 b o q
    exact ⟨x, up b _ n q'⟩
  · rw [Heap.get?_update_other _ _ (Ne.symm nT)]
    exact Heap.get?_push_size h1 (by rw [← hO]; rfl)
  · first
      | (simp; done)
      | (rcases hp with rfl | ⟨_, _, _, _, _, _, _, rfl⟩ <;> simp)
theorem Entered.noted {base : Heap} {l : List Env} {e L : Addr} {oe : Obj} {vs : Array Value} {a0 : Value} {h h' : Heap} (x : Entered l e oe L h h') (kb : base.StaysIn h) (be : base.get? e = none) (ff : h.FunFrames base l) (gd : oe.data = .fields vs) (gz : 1 < vs.size) (g0 : vs[0]? = some a0) (ge : h.get? e = some oe) :
    Heap.NotedW base l e oe.cls a0 (rawInt L) h h' := by
  obtain ⟨T, oT, ts, old, slots, own, new, ne, size, there, data, fl⟩ := x
  have nr : ∀ b o, h.get? b = some o → (∀ ws, o.data ≠ .fields ws) → b ≠ e := fun b o q nf z => by
    rw [z, ge] at q
    cases q
    exact nf vs gd
  refine ⟨fun b o q => old b o (fun z => by rw [z, be] at q; cases q) (fun m => by rw [(ff.mem m).1] at q; cases q) (kb b o q), ff.of_keeps fun b o q nf => ?_, ?_, fun b o q nf => slots b o (nr b o q nf) q⟩
  · obtain ⟨sl, q'⟩ := slots b o (nr b o q nf) q
    exact ⟨_, q', rfl⟩
  · refine ⟨_, _, T, oT, ts, own, ⟨Obj.cls_mapFields _ _, ?_⟩, Obj.data_mapFields gd _, by simp [gz], ?_, ne, there, data, fl⟩
    · rw [Array.getElem?_setIfInBounds_ne (by decide)]; exact g0
    · cases q : base.get? T with
      | none => rfl
      | some o => have := kb _ _ q; rw [new] at this; cases this
theorem Entered.ctx {l : List Env} {e L : Addr} {oe : Obj} {vs : Array Value} {h h' : Heap} {y : Value} (x : Entered l e oe L h h') (gd : oe.data = .fields vs) (ge : h.get? e = some oe) (c : F2 h e y) : F2 h' e y := by
  obtain ⟨T, oT, ts, old, slots, own, new, ne, size, there, data, fl⟩ := x
  obtain ⟨o, ws, q1, q2, q3⟩ := c
  rw [ge] at q1
  cases q1
  rw [gd] at q2
  cases q2
  exact ⟨_, _, own, Obj.data_mapFields gd _, by rw [Array.getElem?_setIfInBounds_ne (by decide)]; exact q3⟩
theorem note_new {base : Heap} {env : Env} {outer : List Env} {L e : Addr} {oe : Obj} {vs : Array Value} {a0 : Value} {Q : Unit → Shared → Prop} (af : A.frames = some (env :: outer)) (ff : s.heap.FunFrames base (env :: outer)) (fL : env.frame = some L)
    (ge : s.heap.get? e = some oe) (kb : base.StaysIn s.heap) (be : base.get? e = none) (gd : oe.data = .fields vs) (g1 : vs[1]? = some .none) (g0 : vs[0]? = some a0)
    (k : ∀ h', Heap.HeldW base (env :: outer) e oe.cls a0 L h' → s.heap.UpToSlots h' → (∀ y, F2 s.heap e y → F2 h' e y) → Q () { s with heap := h' }) : wpAny M A (noteFrame (.ref e) env) Q E s := by
  have gz := (Array.getElem?_eq_some_iff.mp g1).1
  unfold noteFrame
  simp only [fL]
  refine wpAny_bind (wpAny_field ge gd g1 ?_)
  rw [if_neg (by decide)]
  refine entry_on af ff fL ge gd gz fun h' x => ?_
  obtain ⟨n1, n2, n3, n4⟩ := x.noted kb be ff gd gz g0 ge
  exact k h' ⟨n1, be, n2, n3⟩ n4 fun y c => x.ctx gd ge c
theorem note_on {base : Heap} {env : Env} {outer : List Env} {L e : Addr} {cls a0 : Value} {Q : Unit → Shared → Prop} (af : A.frames = some (env :: outer)) (fL : env.frame = some L) (fl : Heap.FlyingW base (env :: outer) e cls a0 s.heap)
    (k : ∀ h', Heap.HeldW base (env :: outer) e cls a0 L h' → s.heap.UpToSlots h' → (∀ y, F2 s.heap e y → F2 h' e y) → Q () { s with heap := h' }) : wpAny M A (noteFrame (.ref e) env) Q E s := by
  obtain ⟨kb, be, ff, oe, vs, Tr, oT, ts, ge, ⟨gc, g0⟩, gd, g1, bT, nTe, gT, dT, g3⟩ := fl
  subst gc
  have gz := (Array.getElem?_eq_some_iff.mp g1).1
  unfold noteFrame
  simp only [fL]
  refine wpAny_bind (wpAny_field ge gd g1 ?_)
  rw [if_pos (show (Value.ref Tr != Value.none) = true by simp)]
  refine wpAny_bind (wpAny_field gT dT g3 ?_)
  rw [if_neg (show ¬ ((Value.none == rawInt L) = true) by simp [rawInt])]
  refine wpAny_bind (wpAny_setField gT dT (Array.getElem?_eq_some_iff.mp g3).1 ?_)
  have ot : ∀ b, b ≠ Tr → (s.heap.update Tr (Obj.mapFields (·.setIfInBounds 3 Value.none))).get? b = s.heap.get? b := fun b n => Heap.get?_update_other _ _ (Ne.symm n)
  have nr : ∀ b o, s.heap.get? b = some o → (∀ ws, o.data ≠ .fields ws) → b ≠ Tr := fun b o q nf z => by
    rw [z, gT] at q
    cases q
    exact nf ts dT
  have ff1 := ff.of_keeps (h' := s.heap.update Tr (Obj.mapFields (·.setIfInBounds 3 Value.none))) fun b o q nf => ⟨o, (ot b (nr b o q nf)).trans q, rfl⟩
  have kb1 : base.StaysIn (s.heap.update Tr (Obj.mapFields (·.setIfInBounds 3 Value.none))) := fun b o q => (ot b fun z => by rw [z, bT] at q; cases q).trans (kb b o q)
  have ge1 := (ot e (Ne.symm nTe)).trans ge
  refine entry_on (s := { s with heap := _ }) af ff1 fL ge1 gd gz fun h' x => ?_
  obtain ⟨n1, n2, n3, n4⟩ := x.noted kb1 be ff1 gd gz g0 ge1
  exact k h' ⟨n1, be, n2, n3⟩ (fun b o q nf => n4 b o ((ot b (nr b o q nf)).trans q) nf) fun y c => x.ctx gd ge1 (c.other nTe)
theorem flight_off {base : Heap} {l : List Env} {e : Addr} {cls a0 m : Value} {Q : Unit → Shared → Prop} (kb : base.StaysIn s.heap) (be : base.get? e = none) (ff : s.heap.FunFrames base l) (tr : s.heap.TracedAtW base e cls a0 m)
    (k : ∀ h', Heap.FlyingW base l e cls a0 h' → s.heap.UpToSlots h' → (∀ y, F2 s.heap e y → F2 h' e y) → Q () { s with heap := h' }) : wpAny M A (setFlight (.ref e) none) Q E s := by
  obtain ⟨oe, vs, Tr, oT, ts, ge, gc, gd, g1, bT, nTe, gT, dT, g3⟩ := tr
  have z3 := (Array.getElem?_eq_some_iff.mp g3).1
  have ot : ∀ b, b ≠ Tr → (s.heap.update Tr (Obj.mapFields (·.setIfInBounds 3 ((none : Option Addr).elim Value.none fun f => rawInt f)))).get? b = s.heap.get? b := fun b n => Heap.get?_update_other _ _ (Ne.symm n)
  have nr : ∀ b o, s.heap.get? b = some o → (∀ ws, o.data ≠ .fields ws) → b ≠ Tr := fun b o q nf z => by
    rw [z, gT] at q
    cases q
    exact nf ts dT
  unfold setFlight
  refine wpAny_bind (wpAny_field ge gd g1 ?_)
  rw [if_pos (show (Value.ref Tr != Value.none) = true by simp)]
  refine wpAny_setField gT dT z3 (k _ ⟨fun b o q => (ot b fun z => by rw [z, bT] at q; cases q).trans (kb b o q), be, ff.of_keeps fun b o q nf => ⟨o, (ot b (nr b o q nf)).trans q, rfl⟩, ?_⟩ (fun b o q nf => ⟨o.slots, (ot b (nr b o q nf)).trans q⟩) fun y c => c.other nTe)
  exact ⟨oe, vs, Tr, _, _, (ot e (Ne.symm nTe)).trans ge, gc, gd, g1, bT, nTe, Heap.get?_update_self _ gT (Obj.isFreed_of_fields (Obj.data_mapFields dT _)), Obj.data_mapFields dT _, by simp [z3]⟩
theorem leave_on {base : Heap} {env : Env} {outer : List Env} {L e : Addr} {cls a0 : Value} {Q : Unit → Shared → Prop} (af : A.frames = some (env :: outer)) (fL : env.frame = some L) (fl : Heap.FlyingW base (env :: outer) e cls a0 s.heap)
    (k : ∀ h', Heap.FlyingW base outer e cls a0 h' → s.heap.UpToSlots h' → (∀ y, F2 s.heap e y → F2 h' e y) → Q () { s with heap := h' }) : wpAny M A (leaving env (.ref e)) Q E s := by
  unfold leaving
  refine wpAny_bind (note_on af fL fl fun h1 hh sl c1 => ?_)
  obtain ⟨n1, n2, n3, n4⟩ := hh
  refine flight_off (s := { s with heap := h1 }) n1 n2 n3 n4 fun h2 f2 sl2 c2 => ?_
  obtain ⟨m1, m2, ⟨_, _, m3⟩, m4⟩ := f2
  exact k h2 ⟨m1, m2, m3, m4⟩ (sl.trans sl2) fun y c => c2 y (c1 y c)
theorem leave_new {base : Heap} {env : Env} {outer : List Env} {L e : Addr} {oe : Obj} {vs : Array Value} {a0 : Value} {Q : Unit → Shared → Prop} (af : A.frames = some (env :: outer)) (ff : s.heap.FunFrames base (env :: outer)) (fL : env.frame = some L)
    (ge : s.heap.get? e = some oe) (kb : base.StaysIn s.heap) (be : base.get? e = none) (gd : oe.data = .fields vs) (g1 : vs[1]? = some .none) (g0 : vs[0]? = some a0)
    (k : ∀ h', Heap.FlyingW base outer e oe.cls a0 h' → s.heap.UpToSlots h' → (∀ y, F2 s.heap e y → F2 h' e y) → Q () { s with heap := h' }) : wpAny M A (leaving env (.ref e)) Q E s := by
  unfold leaving
  refine wpAny_bind (note_new af ff fL ge kb be gd g1 g0 fun h1 hh sl c1 => ?_)
  obtain ⟨n1, n2, n3, n4⟩ := hh
  refine flight_off (s := { s with heap := h1 }) n1 n2 n3 n4 fun h2 f2 sl2 c2 => ?_
  obtain ⟨m1, m2, ⟨_, _, m3⟩, m4⟩ := f2
  exact k h2 ⟨m1, m2, m3, m4⟩ (sl.trans sl2) fun y c => c2 y (c1 y c)
end
end L2
namespace L2
open PySem PySem.Spec PyProof.Rows

section
variable {P : Program} {w : World} {H H' : Hp} {h h' : Heap} {a : Addr} {o : HO}
theorem ObjOk.there (x : ObjOk P w H h a o) : ∃ ob, h.get? a = some ob := by
  cases o with
  | lst xs => obtain ⟨_, _, _, _, e⟩ := x; exact ⟨_, e⟩
  | tup xs => obtain ⟨_, _, _, _, e, _⟩ := x; exact ⟨_, e⟩
  | dK kvs => obtain ⟨_, _, _, _, o, _, _, e, _⟩ := x; exact ⟨_, e⟩
  | dT kvs => obtain ⟨_, _, _, _, o, _, _, e, _⟩ := x; exact ⟨_, e⟩
  | set S n => obtain ⟨o, _, _, _, e, _⟩ := x; exact ⟨_, e⟩
  | ins C dx fs => obtain ⟨_, _, _, e, _⟩ := x; exact ⟨_, e⟩
  | own y => exact x
  | xd fs => obtain ⟨_, ⟨_, _, _, e, _⟩, _⟩ := x; exact ⟨_, e⟩
  | rng lo hi => obtain ⟨_, _, _, e⟩ := x; exact ⟨_, e⟩
  | frz ob u => obtain ⟨e, _⟩ := x; exact ⟨_, e⟩
  | tbl ps => exact ⟨_, (show h.get? a = some _ from x)⟩
  | met f y => exact ⟨_, (show h.get? a = some _ from x)⟩
  | ext φ => obtain ⟨_, e, _⟩ := x; exact e
theorem HOk.notThere (x : HOk P w H h) (e : h.get? a = none) : H a = none := by
  cases q : H a with
  | none => rfl
  | some u => obtain ⟨ob, z⟩ := (x a u q).there; rw [e] at z; cases z
theorem HOk.part (x : HOk P w H h) (k : ∀ b u v, H b = some u → h.get? b = some v → h'.get? b = some v) : HOk P w H h' := fun a o e =>
  (x a o e).stay (fun b u hb q => by
    rcases hb with z | z
    · subst z; exact k _ _ _ e q
    · exact k _ _ _ z q) (fun _ q => q) fun _ _ q => q
end
theorem Un.fly {fs : List Addr} {L : Addr} {H₀ H H' : Hp} {h0 h h1 h2 B : Heap} (U1 : Un fs [] H₀ H h0 h) (U2 : Un (L :: fs) [] H H' h h1) (hL : h0.get? L = none)
    (cov : ∀ b o, h.get? b = some o → b ∉ L :: fs → ∃ o', B.get? b = some o') (k1 : ∀ b o, B.get? b = some o → h1.get? b = some o) (k2 : ∀ b o, B.get? b = some o → h2.get? b = some o)
    (sl : h1.UpToSlots h2) (nf : ∀ b ∈ fs, ∃ o, h1.get? b = some o ∧ ∀ vs, o.data ≠ .fields vs) : Un fs [] H₀ H' h0 h2 := by
  have nL : ∀ b o, h0.get? b = some o → b ∉ fs → b ∉ L :: fs := fun b o q hb z => by
    rcases List.mem_cons.mp z with z | z
    · rw [z, hL] at q; cases q
    · exact hb z
  refine ⟨fun b o q n hb hx => ?_, fun b o q n hb hx => ?_, fun b o q n hx => ?_, fun b o q hx => ?_, fun b xs q => U2.tups _ _ (U1.tups _ _ q), fun b o u q => U2.frzs _ _ _ (U1.frzs _ _ _ q), fun b ps q => ?_⟩
  · have q1 := U1.keep b o q n hb hx
    have q2 := U2.keep b o q1 (U1.free b o q n hx) (nL b o q hb) hx
    obtain ⟨o', e⟩ := cov b o q1 (nL b o q hb)
    have e1 := k1 _ _ e
    rw [q2] at e1
    cases e1
    exact k2 _ _ e
  · obtain ⟨s1, q1⟩ := U1.slot b o q n hb hx
    obtain ⟨s2, q2⟩ := U2.slot b _ q1 (U1.free b o q n hx) (List.mem_cons_of_mem _ hb) hx
    obtain ⟨ob, q3, d⟩ := nf b hb
    rw [q2] at q3
    cases q3
    obtain ⟨s4, q4⟩ := sl b _ q2 d
    exact ⟨s4, q4⟩
  · obtain ⟨o1, q1⟩ := U1.there b o q hx
    exact U2.free b o1 q1 (U1.free b o q n hx) hx
  · by_cases hb : b ∈ fs
    · obtain ⟨ob, q3, d⟩ := nf b hb
      obtain ⟨s4, q4⟩ := sl b _ q3 d
      exact ⟨_, q4⟩
    · obtain ⟨o1, q1⟩ := U1.there b o q hx
      obtain ⟨o', e⟩ := cov b o1 q1 (nL b o q hb)
      exact ⟨_, k2 _ _ e⟩
  · obtain ⟨m1, e1⟩ := U1.tbls b ps q
    obtain ⟨m2, e2⟩ := U2.tbls b _ e1
    exact ⟨m1 ++ m2, by rw [e2, Array.append_assoc]⟩

noncomputable def CXE (P : Program) (w : World) : CXT := fun outer H s E e s' => ∃ (ea C : Addr) (a0 : Value) (B : Heap) (H' : Hp), e = .ref ea ∧ Heap.FlyingW B outer ea (.ref C) a0 s'.heap ∧ s'.os = s.os ∧ AllBare s'.gens ∧
  HOk P w H' B ∧ Un (frs outer) [] H H' s.heap s'.heap ∧ (∀ b o, s.heap.get? b = some o → b ∉ frs outer → ∃ o', B.get? b = some o') ∧ ∃ m : Option Addr, (m = none → Ctx0 s'.heap ea) ∧ E (.ref C) m H'

section
variable {P : Program} {w : World} {K : PySem.W.Frag} {mg : Str → Option Value} {base : Heap} {N : List Str} {qual : Str} {scope : Scope} {f : Addr} {cdv : Value} {A : Around} {outer : List Env} {s0 s : Shared} {H0 H : Hp} {E E' : XK}
  {pins : List (Addr × Obj)} {σ : St} {CX : CXT}
theorem stack_frs {e : Env} {L : Addr} {l : List Env} (h : e.frame = some L) : frs (e :: l) = L :: frs l := by
  unfold frs
  rw [List.filterMap_cons, h]
theorem flies {h' : Heap} {e C : Addr} {args : List Value} (I : Inv (cxOf (CXE P w) P w K mg base N qual scope f cdv A outer s0 H0 E) pins σ H s) (hx : Heap.MadeExcOf s.heap h' e (.ref C) args) (q : E (.ref C) none H) :
    (cxOf (CXE P w) P w K mg base N qual scope f cdv A outer s0 H0 E).xe (.ref e) { s with heap := h' } := by
  have fr : s.heap.FunFrames base (envOfC qual scope s0.heap.objs.size f cdv :: outer) := I.stack
  have sf : ∀ b ∈ frs (envOfC qual scope s0.heap.objs.size f cdv :: outer), H b = none := I.stkFree
  have hin : ∀ env ∈ (envOfC qual scope s0.heap.objs.size f cdv :: outer), ∀ b, env.frame = some b → b ∈ frs (envOfC qual scope s0.heap.objs.size f cdv :: outer) := fun env he b hb => List.mem_filterMap.mpr ⟨env, he, hb⟩
  have es : frs (envOfC qual scope s0.heap.objs.size f cdv :: outer) = s0.heap.objs.size :: frs outer := stack_frs rfl
  show wpAny _ _ (leaving _ _) _ _ _
  obtain ⟨t, gt, _, _⟩ := hx.there
  have ff := (PySem.W.funFrames_hide fr hin).of_keeps (h' := h') fun b o z _ => ⟨o, hx.keeps b o z, rfl⟩
  have kb : (PySem.W.hideAll s.heap (frs (envOfC qual scope s0.heap.objs.size f cdv :: outer))).StaysIn h' := fun b o z => hx.keeps b o (PySem.W.of_hideAll _ z)
  have be : (PySem.W.hideAll s.heap (frs (envOfC qual scope s0.heap.objs.size f cdv :: outer))).get? e = none := by
    cases z : (PySem.W.hideAll s.heap (frs (envOfC qual scope s0.heap.objs.size f cdv :: outer))).get? e with
    | none => rfl
    | some o => have := PySem.W.of_hideAll _ z; rw [hx.new] at this; cases this
  refine leave_new (s := { s with heap := h' }) (a0 := .ref t) I.ok.frames ff rfl gt kb be rfl rfl rfl ?_
  intro h'' x1 x4 x5
  have cov : ∀ b o, s.heap.get? b = some o → b ∉ s0.heap.objs.size :: frs outer → (PySem.W.hideAll s.heap (frs (envOfC qual scope s0.heap.objs.size f cdv :: outer))).get? b = some o := fun b o z hb => PySem.W.hideAll_get _ z (by rw [es]; exact hb)
  have Ib : Un (frs outer) [] H0 H s0.heap s.heap := I.base
  refine ⟨e, C, .ref t, _, H, rfl, x1, I.os, I.bare, HOk.part I.hok fun b u v z1 z2 => PySem.W.hideAll_get _ z2 fun hm => ?_, ?_, ?_, none, fun _ => x5 _ ⟨_, _, gt, rfl, rfl⟩, q⟩
  · rw [sf b hm] at z1; cases z1
  · refine Un.fly (h := s.heap) (h1 := h') (L := s0.heap.objs.size) Ib (Un.kept hx.keeps) (Heap.get?_none_of_le (Nat.le_refl _)) (fun b o z hb => ⟨o, cov b o z hb⟩) (fun b o z => hx.keeps _ _ (PySem.W.of_hideAll _ z)) x1.1 x4 fun b hb => ?_
    obtain ⟨_, o, z, d⟩ := fr.mem (b := b) (by show b ∈ frs _; rw [es]; exact List.mem_cons_of_mem _ hb)
    exact ⟨o, hx.keeps _ _ z, d⟩
  · intro b o z hb
    obtain ⟨o1, z1⟩ := Ib.there b o z (by simp)
    refine ⟨o1, cov b o1 z1 fun hm => ?_⟩
    rcases List.mem_cons.mp hm with y | y
    · rw [y, Heap.get?_none_of_le (Nat.le_refl _)] at z; cases z
    · exact hb y
theorem passE (hE : ∀ c m H', E' c m H' → E c m H') : Passes (CXE P w) (cxOf (CXE P w) P w K mg base N qual scope f cdv A outer s0 H0 E) E' := by
  intro pins σ H s e s' I h
  obtain ⟨ea, C, a0, B, H', rfl, fl, os, bare, hok, un, cov, m, hm, q⟩ := h
  have es : frs (envOfC qual scope s0.heap.objs.size f cdv :: outer) = s0.heap.objs.size :: frs outer := stack_frs rfl
  have Ib : Un (frs outer) [] H0 H s0.heap s.heap := I.base
  have un' : Un (s0.heap.objs.size :: frs outer) [] H H' s.heap s'.heap := by rw [← es]; exact un
  have cov' : ∀ b o, s.heap.get? b = some o → b ∉ s0.heap.objs.size :: frs outer → ∃ o', B.get? b = some o' := fun b o z hb => cov b o z (by show b ∉ frs (envOfC qual scope s0.heap.objs.size f cdv :: outer); rw [es]; exact hb)
  show wpAny _ _ (leaving _ _) _ _ _
  refine leave_on I.ok.frames rfl fl fun h'' x1 x2 x3 => ?_
  refine ⟨ea, C, a0, B, H', rfl, x1, os.trans I.os, bare, hok, ?_, ?_, m, fun z => x3 _ (hm z), hE _ _ _ q⟩
  · refine Un.fly Ib un' (Heap.get?_none_of_le (Nat.le_refl _)) cov' fl.1 x1.1 x2 fun b hb => ?_
    obtain ⟨_, o, z, d⟩ := fl.2.2.1.mem (b := b) (by show b ∈ frs (envOfC qual scope s0.heap.objs.size f cdv :: outer); rw [es]; exact List.mem_cons_of_mem _ hb)
    exact ⟨o, z, d⟩
  · intro b o z hb
    obtain ⟨o1, z1⟩ := Ib.there b o z (by simp)
    refine cov' b o1 z1 fun hm => ?_
    rcases List.mem_cons.mp hm with y | y
    · rw [y, Heap.get?_none_of_le (Nat.le_refl _)] at z; cases z
    · exact hb y
end

structure Exc (K : PySem.W.Frag) (mg : Str → Option Value) (x : Str) (C : Addr) : Prop where
  glob : mg x = some (.ref C)
  here : PySem.W.excIn K C [.type "ValueError", .type "Exception", .type "BaseException", .type "object"] "ValueError.__new__" = true
theorem Exc.own {K : PySem.W.Frag} {mg : Str → Option Value} {x : Str} {C : Addr} {h : Heap} (e : Exc K mg x C) (X : K.In h) : OwnCls x C [.type "ValueError", .type "Exception", .type "BaseException", .type "object"] "ValueError.__new__" mg h := by
  refine ⟨e.glob, ?_⟩
  have q := e.here
  unfold PySem.W.excIn at q
  split at q
  · rename_i dd cd sl ho
    split at q
    · rename_i C' bm k0 k1 k2 k3 n k5 hm hs
      simp only [Bool.and_eq_true, beq_iff_eq, Bool.not_eq_true'] at q
      obtain ⟨⟨⟨⟨⟨rfl, rfl⟩, hdel⟩, ht⟩, hok⟩, hni⟩ := q
      obtain ⟨nm, bs, mro, ns, qn, hd, sn, sub, ab, col, del⟩ := cd
      dsimp only at hm hdel hok hni
      subst hm hdel
      have hsl : sl = #[k0, k1, k2, k3, some (.builtin "ValueError.__new__"), k5] := by
        obtain ⟨l⟩ := sl
        simp only at hs
        rw [hs]
      subst hsl
      exact ⟨bm, ns, nm, qn, bs, hd, sn, sub, ab, col, dd, k0, k1, k2, k3, k5, _, X _ _ ho, .of_isNs (PySem.W.isNs_of_in X hok), PySem.W.nsMap_none_of_in X hok hni, PySem.W.tail_of_in X ht⟩
    · cases q
  · cases q
noncomputable def Flies (X : Cx) (C : Addr) (E : XK) : Prop := ∀ (pins : List (Addr × Obj)) (σ : St) (H : Hp) (s : Shared) (h' : Heap) (e : Addr) (args : List Value), Inv X pins σ H s → Heap.MadeExcOf s.heap h' e (.ref C) args → E (.ref C) none H → X.xe (.ref e) { s with heap := h' }
noncomputable def tRaise (C : Addr) (E : XK) (t : TA) : TS := fun _ σ H => t σ H fun vs H1 => vs.length ≤ sizeLine ∧ E (.ref C) none H1
theorem ps_raise {X : Cx} {x : Str} {C : Addr} {E : XK} {e₀ : Expr} {rest : List Expr} {t : TA} {np cpos pos : Pos} (O : Exc X.K X.mg x C) (hc : X.calm = true) (F : Flies X C E) (ha : PA X (e₀ :: rest) t) (hg : Gl X x)
    (he : starEach (e₀ :: rest) X.env = (false, eval e₀ X.env) :: starEach rest X.env := by rfl) (hplain : (backTo cpos (starEach rest X.env)).any (·.1) = false := by rfl) (hd : (x == ("__debug__" : Str)) = false := by decide) :
    PS X (.Raise (some (.Call (.Name x np) (e₀ :: rest) [] cpos)) none pos) (tRaise C E t) := by
  intro pins s σ H D I h
  obtain ⟨tl, N, nm, q, bs, hdct, sn, sub, ab, col, dd, k0, k1, k2, k3, k5, mN, hC, hN, hni, T⟩ := (O.own I.ok.mod.kin).obj
  refine wpAny_Raise_call_subT (C := C) (nm := nm) (q := q) (N := N) (bs := bs) (bm := tl) (hdct := hdct) (sn := sn) (sub := sub) (ab := ab) (col := col) (dd := dd) (k0 := k0) (k1 := k1) (k2 := k2) (k3 := k3) (k5 := k5)
    PySem.F.excBase_ValueError (mN := mN) (T.hasType PySem.F.excBase_ValueError.hasBase) (I.ok.hd hc) (by rw [he]; show (false || (backTo cpos (starEach rest X.env)).any (·.1)) = false; rw [hplain]; rfl) hni (ld_glob I hg O.glob ⟨rfl, ?_⟩ hd)
  have h₂ := ha cpos pins s σ H _ I h
  rw [he] at h₂ ⊢
  exact Calls.evalArgs_plain (wpAny_mono h₂ (fun vs s₂ ⟨xs, H1, I1, r, hl, hq⟩ => ⟨rfl, by rw [← r.length]; exact hl, I1.bk _ _ hC, hN.keeps I1.bk, T.keeps I1.bk, fun h' e hm => F pins σ H1 s₂ h' e vs I1 hm hq⟩) fun _ _ y => y)
end L2
namespace L2
open PySem PySem.Spec PyProof.Rows PySem.W

section
variable {prog : Program} {w : World} {A : Around} {E : Value → Shared → Prop} {h : Heap} {g : Array GenState} {d : Drawn} {t : Nat} {os : OsState} {a : Addr} {o : Obj}
  {nm q : Str} {C N : Addr} {bs bm : List Value} {hdct : Bool} {sn : List Str} {sub : List Value} {ab : Bool} {col : Option Bool} {dd : Option Addr} {k0 k1 k2 k3 k5 : Option Value} {newId : String}





end
end L2
namespace L2
open PySem PySem.Spec PyProof.Rows

noncomputable def XO (ea C : Addr) : HO := .ext fun h => ∃ o, h.get? ea = some o ∧ o.cls = .ref C
noncomputable abbrev Cx.uncalm (X : Cx) (A : Around) (xe : Value → Shared → Prop) : Cx := { X with A := A, calm := false, xe := xe }
section
variable {X : Cx} {pins : List (Addr × Obj)} {σ : St} {H : Hp} {s : Shared} {xe : Value → Shared → Prop} {A : Around}
theorem Inv.uncalm (I : Inv X pins σ H s) (hf : A.frames = X.A.frames) : Inv (X.uncalm A xe) pins σ H s :=
  ⟨⟨I.ok.mod, I.ok.kind, I.ok.glob, I.ok.blt, I.ok.above, I.ok.inj, I.ok.has, I.ok.cab, (fun h => absurd (show false = true from h) (by decide)), hf.trans I.ok.frames, I.ok.stk, I.ok.exf, I.ok.bs, I.ok.bsz, I.ok.noex, I.ok.exfs, I.ok.funs, I.ok.frf⟩,
    I.os, I.bare, I.base, I.loc, I.cell, I.free, I.freeC, I.pin, I.hok, I.len⟩
theorem Inv.recalm (I : Inv (X.uncalm A xe) pins σ H s) (hd : X.calm = true → X.A.handled = none) (hf : X.A.frames = A.frames) : Inv X pins σ H s :=
  ⟨⟨I.ok.mod, I.ok.kind, I.ok.glob, I.ok.blt, I.ok.above, I.ok.inj, I.ok.has, I.ok.cab, hd, hf.trans I.ok.frames, I.ok.stk, I.ok.exf, I.ok.bs, I.ok.bsz, I.ok.noex, I.ok.exfs, I.ok.funs, I.ok.frf⟩,
    I.os, I.bare, I.base, I.loc, I.cell, I.free, I.freeC, I.pin, I.hok, I.len⟩
end
theorem Un.on {fs : List Addr} {H H' : Hp} {h h1 h2 B : Heap} (U : Un fs [] H H' h h1) (cov : ∀ b o, h.get? b = some o → b ∉ fs → ∃ o', B.get? b = some o') (k1 : ∀ b o, B.get? b = some o → h1.get? b = some o) (k2 : ∀ b o, B.get? b = some o → h2.get? b = some o)
    (sl : h1.UpToSlots h2) (nf : ∀ b ∈ fs, ∃ o, h1.get? b = some o ∧ ∀ vs, o.data ≠ .fields vs) : Un fs [] H H' h h2 := by
  refine ⟨fun b o q n hb hx => ?_, fun b o q n hb hx => ?_, U.free, fun b o q hx => ?_, U.tups, U.frzs, U.tbls⟩
  · have q2 := U.keep b o q n hb hx
    obtain ⟨o', e⟩ := cov b o q hb
    have e1 := k1 _ _ e
    rw [q2] at e1
    cases e1
    exact k2 _ _ e
  · obtain ⟨s1, q1⟩ := U.slot b o q n hb hx
    obtain ⟨ob, q3, d⟩ := nf b hb
    rw [q1] at q3
    cases q3
    obtain ⟨s4, q4⟩ := sl b _ q1 d
    exact ⟨s4, q4⟩
  · by_cases hb : b ∈ fs
    · obtain ⟨ob, q3, d⟩ := nf b hb
      obtain ⟨s4, q4⟩ := sl b _ q3 d
      exact ⟨_, q4⟩
    · obtain ⟨o', e⟩ := cov b o q hb
      exact ⟨_, k2 _ _ e⟩
theorem Un.more {fs : List Addr} {H H' : Hp} {h h2 : Heap} {a : Addr} {o : HO} (U : Un fs [] H H' h h2) (hn : h.get? a = none) (hH : H' a = none) : Un fs [] H (upd H' a o) h h2 := by
  have ne : ∀ b u, h.get? b = some u → b ≠ a := fun b u q z => by rw [z, hn] at q; cases q
  refine ⟨U.keep, U.slot, fun b u q n hx => by rw [upd_ne (ne b u q)]; exact U.free b u q n hx, U.there, fun b xs q => ?_, fun b u xs q => ?_, fun b ps q => ?_⟩
  · have e := U.tups b xs q
    rw [upd_ne (ne_of_none e hH)]; exact e
  · have e := U.frzs b u xs q
    rw [upd_ne (ne_of_none e hH)]; exact e
  · obtain ⟨m, e⟩ := U.tbls b ps q
    exact ⟨m, by rw [upd_ne (ne_of_none e hH)]; exact e⟩
section
variable {X : Cx} {pins : List (Addr × Obj)} {σ : St} {H0 H' : Hp} {s0 s' : Shared} {ea C : Addr} {a0 : Value} {B h5 : Heap} {env : Env} {outer : List Env}
theorem caught_inv (I : Inv X pins σ H0 s0) (fl : Heap.FlyingW B X.stack ea (.ref C) a0 s'.heap) (os : s'.os = s0.os) (bare : AllBare s'.gens) (hok : HOk X.prog X.w H' B) (un : Un (frs X.stack) [] H0 H' s0.heap s'.heap)
    (cov : ∀ b o, s0.heap.get? b = some o → b ∉ frs X.stack → ∃ o', B.get? b = some o') (k5 : ∀ b o, B.get? b = some o → h5.get? b = some o) (sl : s'.heap.UpToSlots h5) (he : ∃ o vs, h5.get? ea = some o ∧ o.cls = .ref C ∧ o.data = .fields vs) :
    Inv X pins σ (upd H' ea (XO ea C)) { s' with heap := h5 } ∧ H' ea = none := by
  have hn : H' ea = none := hok.notThere fl.2.1
  have fm : ∀ b ∈ frs X.stack, ∃ o, s'.heap.get? b = some o ∧ ∀ vs, o.data ≠ .fields vs := fun b hb => (fl.2.2.1.mem hb).2
  obtain ⟨oe, vs, h1, h2, h3⟩ := he
  have new : s0.heap.get? ea = none := by
    cases q : s0.heap.get? ea with
    | none => rfl
    | some o =>
      by_cases hb : ea ∈ frs X.stack
      · obtain ⟨ob, q3, d⟩ := fm ea hb
        obtain ⟨s4, q4⟩ := sl ea _ q3 d
        rw [h1] at q4
        cases q4
        exact absurd h3 (d vs)
      · obtain ⟨o', e⟩ := cov ea o q hb
        rw [fl.2.1] at e; cases e
  refine ⟨Inv.call' (s' := { s' with heap := h5 }) I os ((un.on cov fl.1 k5 sl fm).more new hn) ?_ bare (fun b z => absurd z (by simp)), hn⟩
  intro b u e
  have tup : ∀ c xs, H' c = some (.tup xs) → upd H' ea (XO ea C) c = some (.tup xs) := fun c xs z => by rw [upd_ne (ne_of_none z hn)]; exact z
  have own : ∀ c y, H' c = some (.own y) → upd H' ea (XO ea C) c = some (.own y) := fun c y z => by rw [upd_ne (ne_of_none z hn)]; exact z
  by_cases hb : b = ea
  · subst hb
    rw [upd_same] at e
    cases e
    refine ⟨⟨oe, h1, h2⟩, ⟨oe, h1⟩, fun g1 g2 ⟨o, z1, z2⟩ k => ⟨o, k o z1, z2⟩⟩
  · rw [upd_ne hb] at e
    exact (hok b u e).stay (fun c v hc q => k5 _ _ q) (fun c z => own c b z) tup
end

noncomputable def Wish (X : Cx) (pins : List (Addr × Obj)) (σ : St) (E : XK) (xe : Value → Shared → Prop) : Prop := ∀ (H0 : Hp) (s0 : Shared) (e : Value) (s' : Shared), Inv X pins σ H0 s0 → CXE X.prog X.w X.stack H0 s0 E e s' → xe e s'
noncomputable def PEt (X : Cx) (e : Expr) (t : XK → TE) : Prop := ∀ (E : XK) (pins : List (Addr × Obj)) (s : Shared) (σ : St) (H : Hp) (Q : VK) (xe : Value → Shared → Prop), Wish X pins σ E xe → Inv X pins σ H s → t E σ H Q →
  wpAny (model X.prog X.w) X.A (eval e X.env) (EP X pins σ Q) xe s
noncomputable def PSt (X : Cx) (st : List Stmt) (t : XK → TS) : Prop := ∀ (E : XK) (pins : List (Addr × Obj)) (s : Shared) (σ : St) (H : Hp) (D : Ends) (xe : Value → Shared → Prop), Wish X pins σ E xe → Inv X pins σ H s → t E D σ H →
  wpAny (model X.prog X.w) X.A (execs st X.env) (SP X pins D) xe s
section
variable {X : Cx} {k : Nat} {f : Addr} {fd : FuncData} {ps : List Str} {sp : Sp} {dvs : List V} {ds : List Value} {x : Str} {p pos : Pos} {e : Expr} {es : List Expr} {t : TA}
theorem run_fnX {CX : CXT} {E : XK} {xe : Value → Shared → Prop} {pins : List (Addr × Obj)} {σ : St} {H : Hp} {s : Shared} {Q : VK} {us : List Value} {vs : List V} (F : FnOk X.prog X.w X.K X.mg X.base CX k f fd ps sp) (hr : Room k X.A) (hb : Binds X.K fd ps ds) (hd : Vals dvs ds)
    (I : Inv X pins σ H s) (hx : ∀ e s', CX X.stack H s E e s' → xe e s') (r : Vals vs us) (h : sp (vs ++ dvs) H Q E) : wpAny (model X.prog X.w) X.A (call (.ref f) us) (EP X pins σ Q) xe s := by
  have r2 : Vals (vs ++ dvs) (us ++ ds) := r.append hd
  have hl : (us ++ ds).length = ps.length := by rw [← r2.length]; exact F.len _ _ _ _ h
  refine wpAny_call (codeAny_mono (F.run X.A X.stack s H ⟨us, []⟩ (us ++ ds) (vs ++ dvs) Q E hr I.env0 (hb s us I.kIn hl) r2 h) fun r s' hq => ?_)
  cases r with
  | error e => exact hx e s' hq
  | ok fl =>
    cases fl with
    | ret u => exact I.after hq
    | next => exact False.elim hq
    | brk => exact False.elim hq
    | cont => exact False.elim hq
end

structure RoomN (k : Nat) (A : Around) : Prop where
  dp : A.depth + 3 * k + 5 < recursionLimit
  un : A.units + 16 * k + 200 < cLine
theorem Room.mark {k : Nat} {A : Around} (r : Room k A) (v : Option Value) : RoomN k (A.mark v) := ⟨r.dp, r.un⟩
theorem RoomN.mono {j k : Nat} {A : Around} (r : RoomN k A) (h : j ≤ k) : RoomN j A := ⟨by have := r.dp; omega, by have := r.un; omega⟩
theorem RoomN.deeper {k : Nat} {A : Around} (r : RoomN (k + 1) A) (env : Env) : RoomN k (A.deeper env) :=
  ⟨by have := r.dp; show A.depth + 1 + 3 * k + 5 < _; omega, by have := r.un; show A.units + 3 + 16 * k + 200 < _; omega⟩
structure FnN (P : Program) (w : World) (K : PySem.W.Frag) (mg : Str → Option Value) (base : Heap) (k : Nat) (f : Addr) (fd : FuncData) (ps : List Str) (sp : Sp) : Prop where
  len : ∀ vs H Q E, sp vs H Q E → vs.length = ps.length
  run : ∀ (A : Around) (outer : List Env) (s : Shared) (H : Hp) (args : Args) (us : List Value) (vs : List V) (Q : VK), RoomN k A → Env0 P w K mg base A outer s H → BindsTo s fd args (ps.zip us) → Vals vs us → sp vs H Q E0 →
    codeAny (model P w) A (.call (.ref f) args) (CR CX0 outer P w H s Q E0) s
theorem fn_N {P : Program} {w : World} {K : PySem.W.Frag} {mg : Str → Option Value} {base : Heap} {k : Nat} {f : Addr} {x qual : Str} {st : Stmt} {fd : FuncData} {N ps : List Str} {sp : Sp} (F : Fun K x qual st f fd) (S : FnScope N ps (defScope st))
    (len : ∀ vs H Q E, sp vs H Q E → vs.length = ps.length)
    (hbody : ∀ (cdv : Value) (A : Around) (outer : List Env) (s : Shared) (H : Hp) (vs : List V) (Q : VK), RoomN k (A.deeper (envOfC qual (defScope st) s.heap.objs.size f cdv)) → sp vs H Q E0 →
      ∃ t, PSs ((cxOf CX0 P w K mg base N qual (defScope st) f cdv { A with handled := none } outer s H E0).uncalm (A.deeper (envOfC qual (defScope st) s.heap.objs.size f cdv)) fun _ _ => False) (defBody st) t ∧ t { nx := fun _ H' => Q .non H', rt := Q } (start N vs) H) :
    FnN P w K mg base (k + 1) f fd ps sp := by
  obtain ⟨oc, od, kV, doc, pm, an, cdv, ct, osl, rfl, lk, hcd⟩ := F.ex
  refine ⟨len, fun A outer s H args us vs Q hr e0 hb r hsp => ?_⟩
  have hl := len _ _ _ _ hsp
  have KX : K.In s.heap := e0.mod.kin.keeps fun b o e => (e0.bs b o e).1
  have lim : s.heap.NoLimit := e0.mod.nolimit.keeps fun b o e => (e0.bs b o e).1
  have hkind : ∀ y ∈ ps.zip us, (defScope st).names.lookup y.1 = some .local ∨ ((defScope st).names.lookup y.1 = some .cell ∧ ((cellsFrom (s.heap.objs.size + 1) (defScope st).names []).lookup y.1).isSome = true) := fun ⟨n, v⟩ hy => by
    rcases S.par n (List.of_mem_zip hy).1 with q | q
    · exact .inl q
    · exact .inr ⟨q, PySem.W.cellsFrom_some _ _ _ (.inl q)⟩
  have hdep : A.depth < recursionLimit := by have := hr.dp; omega
  refine codeAny_call_function hdep (KX _ _ lk) rfl S.co S.gen rfl (PySem.W.codeRec_of KX hcd) (hb _ _ _ _ ?_)
  refine wpAny_newFunctionEnv_cells S.kind hkind fun env he s1 x => ?_
  subst he
  refine ⟨lim.keeps x.toInCall.keep, codeAny_func ?_⟩
  obtain ⟨t, ht, hq⟩ := hbody cdv A outer s H vs Q (hr.deeper _) hsp
  have e0' : Env0 P w K mg base { A with handled := none } outer s H := ⟨e0.frames, e0.mod, e0.bs, e0.bsz, e0.funs, e0.frf, e0.hok, e0.bare⟩
  have I0 : Inv (cxOf CX0 P w K mg base N qual (defScope st) f cdv { A with handled := none } outer s H E0) [] (start N vs) H s1 := inv_start S rfl e0' hl r x
  have I := I0.uncalm (A := A.deeper (envOfC qual (defScope st) s.heap.objs.size f cdv)) (xe := fun _ _ => False) rfl
  refine wpAny_mono (ht [] s1 (start N vs) H _ I hq) (fun fl s' hs => ?_) fun e s' hs => False.elim hs
  have fin : ∀ {σ' : St} {H' : Hp} {v : V} {u : Value}, Inv ((cxOf CX0 P w K mg base N qual (defScope st) f cdv { A with handled := none } outer s H E0).uncalm (A.deeper (envOfC qual (defScope st) s.heap.objs.size f cdv)) fun _ _ => False) [] σ' H' s' → RelV v u → Q v H' → CE outer P w H s Q u s' :=
    fun {σ' H' v u} J rv q => ⟨v, H', J.os, J.bare, J.base, J.hok, rv, q⟩
  cases fl with
  | ret u =>
    obtain ⟨v, σ', H', J, rv, q⟩ := hs
    exact fin J rv q
  | next =>
    obtain ⟨σ', H', J, q⟩ := hs
    exact fin (v := V.non) (u := Value.none) J rfl q
  | brk =>
    obtain ⟨_, _, _, q⟩ := hs
    exact False.elim q
  | cont =>
    obtain ⟨_, _, _, q⟩ := hs
    exact False.elim q

end L2
namespace L2
open PySem PySem.Spec PyProof.Rows

section
variable {X : Cx}
end

theorem Fun.okE {P : Program} {w : World} {K : PySem.W.Frag} {mg : Str → Option Value} {base : Heap} {x qual : Str} {st : Stmt} {f : Addr} {fd : FuncData} {N ps : List Str} {k : Nat} {sp : Sp} (F : Fun K x qual st f fd) (S : FnScope N ps (defScope st)) (len : ∀ vs H Q E, sp vs H Q E → vs.length = ps.length)
    (hbody : ∀ (cdv : Value) (A : Around) (outer : List Env) (s : Shared) (H : Hp) (vs : List V) (Q : VK) (E : XK), Room k (A.deeper (envOfC qual (defScope st) s.heap.objs.size f cdv)) → sp vs H Q E →
      ∃ t, PSs (cxOf (CXE P w) P w K mg base N qual (defScope st) f cdv A outer s H E) (defBody st) t ∧ t { nx := fun _ H' => Q .non H', rt := Q } (start N vs) H) : FnOk P w K mg base (CXE P w) (k + 1) f fd ps sp := by
  obtain ⟨oc, od, kV, doc, pm, an, cdv, ct, osl, rfl, lk, hcd⟩ := F.ex
  exact fn_of lk hcd S len fun A outer s H vs Q E hr hsp => hbody cdv A outer s H vs Q E hr hsp
structure HasM (P : Program) (w : World) (K : PySem.W.Frag) (mg : Str → Option Value) (base : Heap) (k : Nat) (C : Addr) (m : Str) (ps : List Str) (sp : Sp) : Prop where
  ex : ∃ f fd, FnOk P w K mg base (CXE P w) k f fd ps sp ∧ Meth K C m f ∧ Binds K fd ps []
structure HasC (P : Program) (w : World) (K : PySem.W.Frag) (mg : Str → Option Value) (base : Heap) (k : Nat) (x : Str) (C : Addr) (ps : List Str) (sp : Sp) : Prop where
  ex : ∃ f fd, FnOk P w K mg base (CXE P w) k f fd ps sp ∧ mg x = some (.ref C) ∧ Mk K C f ∧ Binds K fd ps []
structure DefM (K : PySem.W.Frag) (C : Addr) (m qual : Str) (st : Stmt) (ps : List Str) : Prop where
  ex : ∃ f fd, Fun K m qual st f fd ∧ Meth K C m f ∧ Binds K fd ps []
structure DefC (K : PySem.W.Frag) (mg : Str → Option Value) (x : Str) (C : Addr) (qual : Str) (st : Stmt) (ps : List Str) : Prop where
  ex : ∃ f fd, Fun K "__init__" qual st f fd ∧ mg x = some (.ref C) ∧ Mk K C f ∧ Binds K fd ps []
section
variable {P : Program} {w : World} {K : PySem.W.Frag} {mg : Str → Option Value} {base : Heap} {x m qual : Str} {C : Addr} {st : Stmt} {N ps : List Str} {k : Nat} {sp : Sp}
theorem DefM.has (D : DefM K C m qual st ps) (S : FnScope N ps (defScope st)) (len : ∀ vs H Q E, sp vs H Q E → vs.length = ps.length)
    (hbody : ∀ (f : Addr) (cdv : Value) (A : Around) (outer : List Env) (s : Shared) (H : Hp) (vs : List V) (Q : VK) (E : XK), Room k (A.deeper (envOfC qual (defScope st) s.heap.objs.size f cdv)) → sp vs H Q E →
      ∃ t, PSs (cxOf (CXE P w) P w K mg base N qual (defScope st) f cdv A outer s H E) (defBody st) t ∧ t { nx := fun _ H' => Q .non H', rt := Q } (start N vs) H) : HasM P w K mg base (k + 1) C m ps sp := by
  obtain ⟨f, fd, F, hm, hb⟩ := D.ex
  exact ⟨f, fd, F.okE S len (hbody f), hm, hb⟩
theorem DefC.has (D : DefC K mg x C qual st ps) (S : FnScope N ps (defScope st)) (len : ∀ vs H Q E, sp vs H Q E → vs.length = ps.length)
    (hbody : ∀ (f : Addr) (cdv : Value) (A : Around) (outer : List Env) (s : Shared) (H : Hp) (vs : List V) (Q : VK) (E : XK), Room k (A.deeper (envOfC qual (defScope st) s.heap.objs.size f cdv)) → sp vs H Q E →
      ∃ t, PSs (cxOf (CXE P w) P w K mg base N qual (defScope st) f cdv A outer s H E) (defBody st) t ∧ t { nx := fun _ H' => Q .non H', rt := Q } (start N vs) H) : HasC P w K mg base (k + 1) x C ps sp := by
  obtain ⟨f, fd, F, hm, hb⟩ := D.ex
  exact ⟨f, fd, F.okE S len (hbody f), hm, hb⟩
end
section
variable {X : Cx} {k k' : Nat} {x m : Str} {C : Addr} {ps : List Str} {sp : Sp} {p pos apos : Pos} {e o : Expr} {es : List Expr} {ta : TE} {t : TA} {E : XK}
theorem pe_mE {pl : Sem Bool} (h : HasM X.prog X.w X.K X.mg X.base k C m ps sp) (c : Cls X.K C) (hr : Room k' X.A) (hk : k ≤ k') (hx : Passes (CXE X.prog X.w) X E) (he : PE X o ta) (ha : PA X (e :: es) t)
    (hst : starEach (e :: es) X.env = (false, eval e X.env) :: starEach es X.env := by rfl) (hpl : (backTo pos (starEach es X.env)).any (·.1) = false := by rfl)
    (ht : eval (.Call (.Attribute o m apos) (e :: es) [] pos) X.env = (do
      let ov ← eval o X.env
      standAt apos.atName
      let (f, first) ← holding [ov] (getMethod ov m pl)
      callWith pos f first (backTo pos (starEach (e :: es) X.env)) (backToKw pos (keywordEach [] X.env))) := by rfl) :
    PE X (.Call (.Attribute o m apos) (e :: es) [] pos) (tMeth C m sp [] E ta t) := by
  obtain ⟨f, fd, F, hm, hb⟩ := h.ex
  exact pe_meth he c hm F (hr.mono hk) hb .nil hx ha hst hpl ht
theorem pe_makeE (h : HasC X.prog X.w X.K X.mg X.base k x C ps sp) (hr : Room k' X.A) (hk : k + 1 ≤ k') (hx : Passes (CXE X.prog X.w) X E) (hg : Gl X x) (ha : PA X (e :: es) t) (hdb : (x == ("__debug__" : Str)) = false := by decide)
    (he : starEach (e :: es) X.env = (false, eval e X.env) :: starEach es X.env := by rfl) (hpl : (backTo pos (starEach es X.env)).any (·.1) = false := by rfl) :
    PE X (.Call (.Name x p) (e :: es) [] pos) (tMake C sp [] E t) := by
  obtain ⟨f, fd, F, hm, M, hb⟩ := h.ex
  exact pe_make M F (hr.mono hk) hg hm hb .nil hx ha hdb he hpl
end
end L2
namespace L2
open PySem PySem.Spec PyProof.Rows
end L2
namespace L2
open PySem PySem.Spec PyProof.Rows
section
variable {X : Cx}
end
end L2
namespace L2
open PySem PySem.Spec PyProof.Rows
end L2
namespace L2
open PySem PySem.Spec PyProof.Rows

inductive D where
  | non | int (i : Int) | str (x : Str) | tup (ds : List D) | lst (ds : List D)
noncomputable instance : DecidableEq D := fun _ _ => Classical.propDecidable _
mutual
noncomputable def D.deep : D → Nat
  | .tup ds => D.deeps ds + 1
  | .lst ds => D.deeps ds + 1
  | .non => 0
  | .int _ => 0
  | .str _ => 0
noncomputable def D.deeps : List D → Nat
  | [] => 0
  | d :: ds => max d.deep (D.deeps ds)
end
theorem deeps_le : ∀ {ds : List D} {d : D}, d ∈ ds → d.deep ≤ D.deeps ds
  | e :: ds, d, h => by
    rw [D.deeps]
    rcases List.mem_cons.mp h with rfl | h
    · omega
    · have := deeps_le h; omega
mutual
noncomputable def DenR (h : Heap) : D → Value → Prop
  | .non, u => u = Value.none
  | .int i, u => (∃ t, u = Value.int i t) ∨ ∃ b, u = Value.bool b ∧ i = (if b then 1 else 0)
  | .str x, u => ∃ t, u = Value.str x t
  | .tup ds, u => ∃ a us, u = Value.ref a ∧ h.IsTuple a us.toArray ∧ DenRs h ds us
  | .lst ds, u => ∃ a us, u = Value.ref a ∧ h.IsList a us.toArray ∧ DenRs h ds us
noncomputable def DenRs (h : Heap) : List D → List Value → Prop
  | [], us => us = []
  | d :: ds, us => ∃ u us', us = u :: us' ∧ DenR h d u ∧ DenRs h ds us'
end
mutual
noncomputable def Den (H : Hp) : D → V → Prop
  | .non, v => v = .non
  | .int i, v => v = .int i ∨ ∃ b, v = .bl b ∧ i = (if b then 1 else 0)
  | .str x, v => v = .str x
  | .tup ds, v => ∃ a vs, v = .ref a ∧ H a = some (.tup vs) ∧ Dens H ds vs
  | .lst ds, v => ∃ a vs, v = .ref a ∧ H a = some (.lst vs) ∧ Dens H ds vs
noncomputable def Dens (H : Hp) : List D → List V → Prop
  | [], vs => vs = []
  | d :: ds, vs => ∃ v vs', vs = v :: vs' ∧ Den H d v ∧ Dens H ds vs'
end
theorem denRs_len {h : Heap} : ∀ {ds : List D} {us : List Value}, DenRs h ds us → us.length = ds.length
  | [], us, r => by rw [DenRs] at r; subst r; rfl
  | d :: ds, us, r => by
    rw [DenRs] at r
    obtain ⟨u, us', rfl, _, r⟩ := r
    rw [List.length_cons, List.length_cons, denRs_len r]
theorem denRs_at {h : Heap} : ∀ {ds : List D} {us : List Value} {j : Nat} {d : D}, DenRs h ds us → ds[j]? = some d → ∃ u, us[j]? = some u ∧ DenR h d u
  | [], us, j, d, r, e => by simp at e
  | c :: ds, us, 0, d, r, e => by
    rw [DenRs] at r
    obtain ⟨u, us', rfl, r1, _⟩ := r
    simp at e; subst e
    exact ⟨u, rfl, r1⟩
  | c :: ds, us, j + 1, d, r, e => by
    rw [DenRs] at r
    obtain ⟨u, us', rfl, _, r⟩ := r
    obtain ⟨u', e', r'⟩ := denRs_at (j := j) (d := d) r (by simpa using e)
    exact ⟨u', by simpa using e', r'⟩
theorem dens_cons {H : Hp} {d : D} {v : V} {ds : List D} {vs : List V} (r : Den H d v) (q : Dens H ds vs) : Dens H (d :: ds) (v :: vs) := by
  rw [Dens]; exact ⟨v, vs, rfl, r, q⟩
theorem dens_nil {H : Hp} : Dens H [] [] := by rw [Dens]
mutual
theorem den_raw {P : Program} {w : World} {H : Hp} {h : Heap} (ok : HOk P w H h) : ∀ {d : D} {v : V} {u : Value}, Den H d v → RelV v u → DenR h d u
  | .non, v, u, r, q => by rw [Den] at r; subst r; rw [DenR]; exact q
  | .int i, v, u, r, q => by
    rw [Den] at r
    rw [DenR]
    rcases r with rfl | ⟨b, rfl, e⟩
    · exact .inl q
    · exact .inr ⟨b, q, e⟩
  | .str x, v, u, r, q => by rw [Den] at r; subst r; rw [DenR]; exact q
  | .tup ds, v, u, r, q => by
    rw [Den] at r
    obtain ⟨a, vs, rfl, e, r⟩ := r
    rw [DenR]
    obtain ⟨_, its, rv, p⟩ := (show ObjOk P w H h a (.tup vs) from ok a _ e)
    exact ⟨a, its, q, p.tup, dens_raw ok r rv⟩
  | .lst ds, v, u, r, q => by
    rw [Den] at r
    obtain ⟨a, vs, rfl, e, r⟩ := r
    rw [DenR]
    obtain ⟨_, its, n, rv, p⟩ := (show ObjOk P w H h a (.lst vs) from ok a _ e)
    exact ⟨a, its, q, ⟨_, p, rfl, n, rfl⟩, dens_raw ok r rv⟩
theorem dens_raw {P : Program} {w : World} {H : Hp} {h : Heap} (ok : HOk P w H h) : ∀ {ds : List D} {vs : List V} {us : List Value}, Dens H ds vs → Vals vs us → DenRs h ds us
  | [], vs, us, r, q => by rw [Dens] at r; subst r; cases q; rw [DenRs]
  | d :: ds, vs, us, r, q => by
    rw [Dens] at r
    obtain ⟨v, vs', rfl, r1, r⟩ := r
    cases q with
    | cons q1 q2 =>
      rw [DenRs]
      exact ⟨_, _, rfl, den_raw ok r1 q1, dens_raw ok r q2⟩
end
theorem tup_seq {h : Heap} {a : Addr} {x y : Array Value} (p : h.IsTuple a x) (q : h.IsTuple a y) : x = y := by
  obtain ⟨o, e, _, n, d⟩ := p
  obtain ⟨o', e', _, n', d'⟩ := q
  rw [e] at e'; cases e'
  rw [d] at d'
  injection d'
theorem lst_seq {h : Heap} {a : Addr} {x y : Array Value} (p : h.IsList a x) (q : h.IsList a y) : x = y := by
  obtain ⟨o, e, _, n, d⟩ := p
  obtain ⟨o', e', _, n', d'⟩ := q
  rw [e] at e'; cases e'
  rw [d] at d'
  injection d'
theorem lst_tup {h : Heap} {a : Addr} {x y : Array Value} (p : h.IsList a x) (q : h.IsTuple a y) : False := by
  obtain ⟨o, e, c, n, d⟩ := p
  obtain ⟨o', e', c', n', d'⟩ := q
  rw [e] at e'; cases e'
  rw [c] at c'
  exact absurd (Value.type.inj c') (by decide)
mutual
theorem denR_inj {h : Heap} : ∀ {d e : D} {u : Value}, DenR h d u → DenR h e u → d = e
  | .non, e, u, r, q => by
    rw [DenR] at r; subst r
    cases e with
    | non => rfl
    | int i => rw [DenR] at q; rcases q with ⟨t, z⟩ | ⟨b, z, _⟩ <;> cases z
    | str x => rw [DenR] at q; obtain ⟨t, z⟩ := q; cases z
    | tup es => rw [DenR] at q; obtain ⟨a, us, z, _⟩ := q; cases z
    | lst es => rw [DenR] at q; obtain ⟨a, us, z, _⟩ := q; cases z
  | .int i, e, u, r, q => by
    rw [DenR] at r
    cases e with
    | non => rw [DenR] at q; subst q; rcases r with ⟨t, z⟩ | ⟨b, z, _⟩ <;> cases z
    | int j =>
      rw [DenR] at q
      rcases r with ⟨t, rfl⟩ | ⟨b, rfl, hb⟩ <;> rcases q with ⟨t', z⟩ | ⟨b', z, hb'⟩ <;> cases z
      · rfl
      · rw [hb, hb']
    | str x => rw [DenR] at q; obtain ⟨t, rfl⟩ := q; rcases r with ⟨t, z⟩ | ⟨b, z, _⟩ <;> cases z
    | tup es => rw [DenR] at q; obtain ⟨a, us, rfl, _⟩ := q; rcases r with ⟨t, z⟩ | ⟨b, z, _⟩ <;> cases z
    | lst es => rw [DenR] at q; obtain ⟨a, us, rfl, _⟩ := q; rcases r with ⟨t, z⟩ | ⟨b, z, _⟩ <;> cases z
  | .str x, e, u, r, q => by
    rw [DenR] at r
    obtain ⟨t, rfl⟩ := r
    cases e with
    | non => rw [DenR] at q; cases q
    | int i => rw [DenR] at q; rcases q with ⟨t, z⟩ | ⟨b, z, _⟩ <;> cases z
    | str x => rw [DenR] at q; obtain ⟨t, z⟩ := q; cases z; rfl
    | tup es => rw [DenR] at q; obtain ⟨a, us, z, _⟩ := q; cases z
    | lst es => rw [DenR] at q; obtain ⟨a, us, z, _⟩ := q; cases z
  | .tup ds, e, u, r, q => by
    rw [DenR] at r
    obtain ⟨a, us, rfl, p, r⟩ := r
    cases e with
    | non => rw [DenR] at q; cases q
    | int i => rw [DenR] at q; rcases q with ⟨t, z⟩ | ⟨b, z, _⟩ <;> cases z
    | str x => rw [DenR] at q; obtain ⟨t, z⟩ := q; cases z
    | tup es =>
      rw [DenR] at q; obtain ⟨a', us', z, p', q⟩ := q; cases z
      have e : us = us' := by have := tup_seq p p'; simpa using this
      subst e
      rw [denRs_inj r q]
    | lst es => rw [DenR] at q; obtain ⟨a', us', z, p', _⟩ := q; cases z; exact absurd p (fun p => lst_tup p' p)
  | .lst ds, e, u, r, q => by
    rw [DenR] at r
    obtain ⟨a, us, rfl, p, r⟩ := r
    cases e with
    | non => rw [DenR] at q; cases q
    | int i => rw [DenR] at q; rcases q with ⟨t, z⟩ | ⟨b, z, _⟩ <;> cases z
    | str x => rw [DenR] at q; obtain ⟨t, z⟩ := q; cases z
    | tup es => rw [DenR] at q; obtain ⟨a', us', z, p', _⟩ := q; cases z; exact absurd p (fun p => lst_tup p p')
    | lst es =>
      rw [DenR] at q; obtain ⟨a', us', z, p', q⟩ := q; cases z
      have e : us = us' := by have := lst_seq p p'; simpa using this
      subst e
      rw [denRs_inj r q]
theorem denRs_inj {h : Heap} : ∀ {ds es : List D} {us : List Value}, DenRs h ds us → DenRs h es us → ds = es
  | [], es, us, r, q => by
    rw [DenRs] at r; subst r
    cases es with
    | nil => rfl
    | cons e es => rw [DenRs] at q; obtain ⟨u, us', z, _⟩ := q; cases z
  | d :: ds, es, us, r, q => by
    rw [DenRs] at r
    obtain ⟨u, us', rfl, r1, r⟩ := r
    cases es with
    | nil => rw [DenRs] at q; cases q
    | cons e es =>
      rw [DenRs] at q; obtain ⟨u', us'', z, q1, q⟩ := q
      cases z
      rw [denR_inj r1 q1, denRs_inj r q]
end
theorem dec_true {p : Prop} [Decidable p] {b : Bool} (h : p ↔ b = true) : b = decide p := by
  cases b with
  | true => exact (decide_eq_true (h.mpr rfl)).symm
  | false => exact (decide_eq_false fun z => Bool.false_ne_true (h.mp z)).symm
theorem all_eq (ds es : List D) : ((List.range (min ds.length es.length)).all (fun j => decide (ds[j]? = es[j]?)) && ds.length == es.length) = decide (ds = es) := by
  refine dec_true ⟨fun h => by subst h; simp, fun h => ?_⟩
  rw [Bool.and_eq_true, List.all_eq_true] at h
  have hl : ds.length = es.length := eq_of_beq h.2
  refine List.ext_getElem? fun j => ?_
  by_cases hj : j < ds.length
  · exact of_decide_eq_true (h.1 j (List.mem_range.mpr (by omega)))
  · rw [List.getElem?_eq_none (by omega), List.getElem?_eq_none (by omega)]
theorem all_eq' (ds es : List D) (hl : ds.length = es.length) : (List.range ds.length).all (fun j => decide (ds[j]? = es[j]?)) = decide (ds = es) := by
  have := all_eq ds es
  rw [← hl, Nat.min_self] at this
  simpa using this
section
open SeqAt
variable {A : Around} {s : Shared}
theorem eqAt_cast {u v : Value} {b c : Bool} (h : EqAt A s u v b) (e : b = c) : EqAt A s u v c := e ▸ h
theorem eqAt_D : ∀ (n : Nat) {d e : D} {A : Around} {u v : Value}, d.deep ≤ n → DenR s.heap d u → DenR s.heap e v → A.units + n < cLine → EqAt A s u v (decide (d = e)) := by
  intro n
  induction n with
  | zero => ?_
  | succ n ih => ?_
  all_goals intro d e A u v hn r q hu
  all_goals have hu0 : A.units < cLine := by omega
  all_goals cases d with
    | non =>
      rw [DenR] at r; subst r
      cases e with
      | non => rw [DenR] at q; subst q; exact eqAt_cast (EqAt.same _) (decide_eq_true rfl).symm
      | int j =>
        rw [DenR] at q
        rcases q with ⟨t, rfl⟩ | ⟨b, rfl, _⟩
        · exact eqAt_cast (EqAt.none_int j t) (decide_eq_false (fun z => nomatch z)).symm
        · exact eqAt_cast (EqAt.none_bool b) (decide_eq_false (fun z => nomatch z)).symm
      | str y => rw [DenR] at q; obtain ⟨t, rfl⟩ := q; exact eqAt_cast (EqAt.none_str y t) (decide_eq_false (fun z => nomatch z)).symm
      | tup es => rw [DenR] at q; obtain ⟨a, us, rfl, p, _⟩ := q; exact eqAt_cast (EqAt.none_tuple p hu0) (decide_eq_false (fun z => nomatch z)).symm
      | lst es => rw [DenR] at q; obtain ⟨a, us, rfl, p, _⟩ := q; exact eqAt_cast (EqAt.none_list p hu0) (decide_eq_false (fun z => nomatch z)).symm
    | int i =>
      rw [DenR] at r
      cases e with
      | non =>
        rw [DenR] at q; subst q
        rcases r with ⟨t, rfl⟩ | ⟨b, rfl, _⟩
        · exact eqAt_cast (EqAt.int_none i t) (decide_eq_false (fun z => nomatch z)).symm
        · exact eqAt_cast (EqAt.bool_none b) (decide_eq_false (fun z => nomatch z)).symm
      | int j =>
        rw [DenR] at q
        have key : ∀ x y : Int, (x == y) = decide (D.int x = D.int y) := fun x y => dec_true ⟨fun z => by cases z; simp, fun z => by rw [eq_of_beq z]⟩
        rcases r with ⟨t, rfl⟩ | ⟨b, rfl, hb⟩ <;> rcases q with ⟨t', rfl⟩ | ⟨b', rfl, hb'⟩
        · exact eqAt_cast (EqAt.int_int i t j t') (key i j)
        · rw [hb']; exact eqAt_cast (EqAt.int_bool i t b') (key _ _)
        · rw [hb]; exact eqAt_cast (EqAt.bool_int b j t') (key _ _)
        · rw [hb, hb']; exact eqAt_cast (EqAt.bool_bool b b') (by rw [← key]; cases b <;> cases b' <;> rfl)
      | str y =>
        rw [DenR] at q; obtain ⟨t, rfl⟩ := q
        rcases r with ⟨t', rfl⟩ | ⟨b, rfl, _⟩
        · exact eqAt_cast (EqAt.int_str i t' y t) (decide_eq_false (fun z => nomatch z)).symm
        · exact eqAt_cast (EqAt.bool_str b y t) (decide_eq_false (fun z => nomatch z)).symm
      | tup es =>
        rw [DenR] at q; obtain ⟨a, us, rfl, p, _⟩ := q
        rcases r with ⟨t', rfl⟩ | ⟨b, rfl, _⟩
        · exact eqAt_cast (EqAt.int_tuple i t' p hu0) (decide_eq_false (fun z => nomatch z)).symm
        · exact eqAt_cast (EqAt.bool_tuple b p hu0) (decide_eq_false (fun z => nomatch z)).symm
      | lst es =>
        rw [DenR] at q; obtain ⟨a, us, rfl, p, _⟩ := q
        rcases r with ⟨t', rfl⟩ | ⟨b, rfl, _⟩
        · exact eqAt_cast (EqAt.int_list i t' p hu0) (decide_eq_false (fun z => nomatch z)).symm
        · exact eqAt_cast (EqAt.bool_list b p hu0) (decide_eq_false (fun z => nomatch z)).symm
    | str x =>
      rw [DenR] at r; obtain ⟨t', rfl⟩ := r
      cases e with
      | non => rw [DenR] at q; subst q; exact eqAt_cast (EqAt.str_none x t') (decide_eq_false (fun z => nomatch z)).symm
      | int j =>
        rw [DenR] at q
        rcases q with ⟨t, rfl⟩ | ⟨b, rfl, _⟩
        · exact eqAt_cast (EqAt.str_int x t' j t) (decide_eq_false (fun z => nomatch z)).symm
        · exact eqAt_cast (EqAt.str_bool x t' b) (decide_eq_false (fun z => nomatch z)).symm
      | str y =>
        rw [DenR] at q; obtain ⟨t, rfl⟩ := q
        exact eqAt_cast (EqAt.str_str x t' y t) (dec_true ⟨fun z => by cases z; simp, fun z => by rw [eq_of_beq z]⟩)
      | tup es => rw [DenR] at q; obtain ⟨a, us, rfl, p, _⟩ := q; exact eqAt_cast (EqAt.str_tuple x t' p hu0) (decide_eq_false (fun z => nomatch z)).symm
      | lst es => rw [DenR] at q; obtain ⟨a, us, rfl, p, _⟩ := q; exact eqAt_cast (EqAt.str_list x t' p hu0) (decide_eq_false (fun z => nomatch z)).symm
    | tup ds => ?_
    | lst ds => ?_
  · rw [D.deep] at hn; omega
  · rw [D.deep] at hn; omega
  · rw [D.deep] at hn
    have r0 := r
    rw [DenR] at r
    obtain ⟨a, us, rfl, p, r⟩ := r
    cases e with
    | non => rw [DenR] at q; subst q; exact eqAt_cast (EqAt.tuple_none p hu0) (decide_eq_false (fun z => nomatch z)).symm
    | int j =>
      rw [DenR] at q
      rcases q with ⟨t, rfl⟩ | ⟨b, rfl, _⟩
      · exact eqAt_cast (EqAt.tuple_int j t p hu0) (decide_eq_false (fun z => nomatch z)).symm
      · exact eqAt_cast (EqAt.tuple_bool b p hu0) (decide_eq_false (fun z => nomatch z)).symm
    | str y => rw [DenR] at q; obtain ⟨t, rfl⟩ := q; exact eqAt_cast (EqAt.tuple_str y t p hu0) (decide_eq_false (fun z => nomatch z)).symm
    | tup es =>
      have q0 := q
      rw [DenR] at q
      obtain ⟨b, us', rfl, p', q⟩ := q
      by_cases hab : a = b
      · subst hab
        rw [denR_inj r0 q0]
        exact eqAt_cast (EqAt.same _) (decide_eq_true rfl).symm
      · refine eqAt_cast (EqAt.of_refs hab (RcAt.tuples (e := fun j => decide (ds[j]? = es[j]?)) p p' hu0 fun j h1 h2 => ?_)) ?_
        · have l1 := denRs_len r
          have l2 := denRs_len q
          have h1' : j < us.length := by simpa using h1
          have h2' : j < us'.length := by simpa using h2
          have e1 := List.getElem?_eq_getElem (l := ds) (i := j) (by omega)
          have e2 := List.getElem?_eq_getElem (l := es) (i := j) (by omega)
          obtain ⟨u, f1, g1⟩ := denRs_at r e1
          obtain ⟨v, f2, g2⟩ := denRs_at q e2
          have z1 : us.toArray[j] = u := by rw [List.getElem?_eq_getElem h1'] at f1; simpa using f1
          have z2 : us'.toArray[j] = v := by rw [List.getElem?_eq_getElem h2'] at f2; simpa using f2
          rw [z1, z2]
          have := ih (d := ds[j]) (e := es[j]) (A := A.in1) (by have := deeps_le (List.getElem_mem (l := ds) (n := j) (by omega)); omega) g1 g2 (by show A.units + 1 + n < cLine; omega)
          refine eqAt_cast this ?_
          rw [e1, e2]
          exact decide_eq_decide.mpr ⟨fun z => by rw [z], fun z => Option.some.inj z⟩
        · have := all_eq ds es
          simp only [List.size_toArray, denRs_len r, denRs_len q]
          rw [this]
          exact decide_eq_decide.mpr ⟨fun z => by rw [z], fun z => by injection z⟩
    | lst es => rw [DenR] at q; obtain ⟨b, us', rfl, p', _⟩ := q; exact eqAt_cast (EqAt.tuple_list p p' hu0) (decide_eq_false (fun z => nomatch z)).symm
  · rw [D.deep] at hn
    have r0 := r
    rw [DenR] at r
    obtain ⟨a, us, rfl, p, r⟩ := r
    cases e with
    | non => rw [DenR] at q; subst q; exact eqAt_cast (EqAt.list_none p hu0) (decide_eq_false (fun z => nomatch z)).symm
    | int j =>
      rw [DenR] at q
      rcases q with ⟨t, rfl⟩ | ⟨b, rfl, _⟩
      · exact eqAt_cast (EqAt.list_int j t p hu0) (decide_eq_false (fun z => nomatch z)).symm
      · exact eqAt_cast (EqAt.list_bool b p hu0) (decide_eq_false (fun z => nomatch z)).symm
    | str y => rw [DenR] at q; obtain ⟨t, rfl⟩ := q; exact eqAt_cast (EqAt.list_str y t p hu0) (decide_eq_false (fun z => nomatch z)).symm
    | tup es => rw [DenR] at q; obtain ⟨b, us', rfl, p', _⟩ := q; exact eqAt_cast (EqAt.list_tuple p p' hu0) (decide_eq_false (fun z => nomatch z)).symm
    | lst es =>
      have q0 := q
      rw [DenR] at q
      obtain ⟨b, us', rfl, p', q⟩ := q
      have l1 := denRs_len r
      have l2 := denRs_len q
      by_cases hab : a = b
      · subst hab
        rw [denR_inj r0 q0]
        exact eqAt_cast (EqAt.same _) (decide_eq_true rfl).symm
      by_cases hl : ds.length = es.length
      · refine eqAt_cast (EqAt.of_refs hab (RcAt.lists (e := fun j => decide (ds[j]? = es[j]?)) p p' (by simp only [List.size_toArray]; omega) hu0 fun j h1 h2 => ?_)) ?_
        · have h1' : j < us.length := by simpa using h1
          have h2' : j < us'.length := by simpa using h2
          have e1 := List.getElem?_eq_getElem (l := ds) (i := j) (by omega)
          have e2 := List.getElem?_eq_getElem (l := es) (i := j) (by omega)
          obtain ⟨u, f1, g1⟩ := denRs_at r e1
          obtain ⟨v, f2, g2⟩ := denRs_at q e2
          have z1 : us.toArray[j] = u := by rw [List.getElem?_eq_getElem h1'] at f1; simpa using f1
          have z2 : us'.toArray[j] = v := by rw [List.getElem?_eq_getElem h2'] at f2; simpa using f2
          rw [z1, z2]
          have := ih (d := ds[j]) (e := es[j]) (A := A.in1) (by have := deeps_le (List.getElem_mem (l := ds) (n := j) (by omega)); omega) g1 g2 (by show A.units + 1 + n < cLine; omega)
          refine eqAt_cast this ?_
          rw [e1, e2]
          exact decide_eq_decide.mpr ⟨fun z => by rw [z], fun z => Option.some.inj z⟩
        · have := all_eq' ds es hl
          simp only [List.size_toArray, l1]
          rw [this]
          exact decide_eq_decide.mpr ⟨fun z => by rw [z], fun z => by injection z⟩
      · refine eqAt_cast (EqAt.of_refs hab (RcAt.lists_lengths p p' (by simp only [List.size_toArray]; simp; omega) hu0)) ?_
        exact (decide_eq_false (fun z => hl (by injection z with z; rw [z]))).symm
end
section
variable {X : Cx}
inductive J_rEqD (x : V) (y : V) (H : Hp) (Q : VK) : Prop
  | mk : ∀ ds es, (((Den H (.tup ds) x ∧ Den H (.tup es) y) ∨ (Den H (.lst ds) x ∧ Den H (.lst es) y))) → (D.deeps ds ≤ 150) → (Q (.bl (decide (ds = es))) H) → J_rEqD x y H Q
noncomputable def rEqD : R2 := fun x y H Q => J_rEqD x y H Q
inductive J_rNeD (x : V) (y : V) (H : Hp) (Q : VK) : Prop
  | mk : ∀ ds es, (((Den H (.tup ds) x ∧ Den H (.tup es) y) ∨ (Den H (.lst ds) x ∧ Den H (.lst es) y))) → (D.deeps ds ≤ 150) → (Q (.bl (!decide (ds = es))) H) → J_rNeD x y H Q
noncomputable def rNeD : R2 := fun x y H Q => J_rNeD x y H Q
theorem deep_items {A : Around} {s : Shared} {ds es : List D} {us us' : List Value} (hu : A.units + 151 < cLine) (hd : D.deeps ds ≤ 150) (r : DenRs s.heap ds us) (q : DenRs s.heap es us') (j : Nat) (h1 : j < us.toArray.size) (h2 : j < us'.toArray.size) :
    SeqAt.EqAt A.in1 s us.toArray[j] us'.toArray[j] (decide (ds[j]? = es[j]?)) := by
  have l1 := denRs_len r
  have l2 := denRs_len q
  have h1' : j < us.length := by simpa using h1
  have h2' : j < us'.length := by simpa using h2
  have e1 := List.getElem?_eq_getElem (l := ds) (i := j) (by omega)
  have e2 := List.getElem?_eq_getElem (l := es) (i := j) (by omega)
  obtain ⟨u, f1, g1⟩ := denRs_at r e1
  obtain ⟨v, f2, g2⟩ := denRs_at q e2
  have z1 : us.toArray[j] = u := by rw [List.getElem?_eq_getElem h1'] at f1; simpa using f1
  have z2 : us'.toArray[j] = v := by rw [List.getElem?_eq_getElem h2'] at f2; simpa using f2
  rw [z1, z2]
  refine eqAt_cast (eqAt_D 150 (by have := deeps_le (List.getElem_mem (l := ds) (n := j) (by omega)); omega) g1 g2 (by show A.units + 1 + 150 < cLine; omega)) ?_
  rw [e1, e2]
  exact decide_eq_decide.mpr ⟨fun z => by rw [z], fun z => Option.some.inj z⟩
theorem op_eqD (hu : X.A.units + 151 < cLine) : OpR X (compareOp .Eq) rEqD := by
  intro pins s σ H x y v u Q I rx ry h
  obtain ⟨ds, es, hh, hd, q⟩ := h
  have hu0 : X.A.units < cLine := by omega
  rcases hh with ⟨h1, h2⟩ | ⟨h1, h2⟩
  · have g1 := den_raw I.hok h1 rx
    have g2 := den_raw I.hok h2 ry
    rw [DenR] at g1 g2
    obtain ⟨a, us, rfl, p, r⟩ := g1
    obtain ⟨b, us', rfl, p', r'⟩ := g2
    refine SeqAt.eq_tupleAt (e := fun j => decide (ds[j]? = es[j]?)) p p' hu0 (deep_items hu hd r r') ?_
    refine ⟨.bl (decide (ds = es)), H, I, ?_, q⟩
    have := all_eq ds es
    simp only [List.size_toArray, denRs_len r, denRs_len r']
    rw [this]
    rfl
  · have g1 := den_raw I.hok h1 rx
    have g2 := den_raw I.hok h2 ry
    rw [DenR] at g1 g2
    obtain ⟨a, us, rfl, p, r⟩ := g1
    obtain ⟨b, us', rfl, p', r'⟩ := g2
    have l1 := denRs_len r
    have l2 := denRs_len r'
    by_cases hl : ds.length = es.length
    · refine SeqAt.eq_listAt (e := fun j => decide (ds[j]? = es[j]?)) p p' (by simp only [List.size_toArray]; omega) hu0 (deep_items hu hd r r') ?_
      refine ⟨.bl (decide (ds = es)), H, I, ?_, q⟩
      have := all_eq' ds es hl
      simp only [List.size_toArray, l1]
      rw [this]
      rfl
    · refine SeqAt.eq_list_lengthsAt p p' (by simp only [List.size_toArray]; simp; omega) hu0 ⟨.bl (decide (ds = es)), H, I, ?_, q⟩
      rw [decide_eq_false (fun z => hl (by rw [z]))]
      rfl
theorem op_neD (hu : X.A.units + 151 < cLine) : OpR X (compareOp .NotEq) rNeD := by
  intro pins s σ H x y v u Q I rx ry h
  obtain ⟨ds, es, hh, hd, q⟩ := h
  have hu0 : X.A.units < cLine := by omega
  rcases hh with ⟨h1, h2⟩ | ⟨h1, h2⟩
  · have g1 := den_raw I.hok h1 rx
    have g2 := den_raw I.hok h2 ry
    rw [DenR] at g1 g2
    obtain ⟨a, us, rfl, p, r⟩ := g1
    obtain ⟨b, us', rfl, p', r'⟩ := g2
    refine SeqAt.RcNeAt.tuples (e := fun j => decide (ds[j]? = es[j]?)) p p' hu0 (deep_items hu hd r r') _ _ _ _ ?_
    refine ⟨.bl (!decide (ds = es)), H, I, ?_, q⟩
    have := all_eq ds es
    simp only [List.size_toArray, denRs_len r, denRs_len r']
    rw [this]
    rfl
  · have g1 := den_raw I.hok h1 rx
    have g2 := den_raw I.hok h2 ry
    rw [DenR] at g1 g2
    obtain ⟨a, us, rfl, p, r⟩ := g1
    obtain ⟨b, us', rfl, p', r'⟩ := g2
    have l1 := denRs_len r
    have l2 := denRs_len r'
    by_cases hl : ds.length = es.length
    · refine SeqAt.RcNeAt.lists (e := fun j => decide (ds[j]? = es[j]?)) p p' (by simp only [List.size_toArray]; omega) hu0 (deep_items hu hd r r') _ _ _ _ ?_
      refine ⟨.bl (!decide (ds = es)), H, I, ?_, q⟩
      have := all_eq' ds es hl
      simp only [List.size_toArray, l1]
      rw [this]
      rfl
    · refine SeqAt.RcNeAt.lists_lengths p p' (by simp only [List.size_toArray]; simp; omega) hu0 _ _ _ _ ⟨.bl (!decide (ds = es)), H, I, ?_, q⟩
      rw [decide_eq_false (fun z => hl (by rw [z]))]
      rfl
inductive J_rInD (neg : Bool) (x : V) (y : V) (H : Hp) (Q : VK) : Prop
  | mk : ∀ d ds, (Den H d x) → ((Den H (.lst ds) y ∨ Den H (.tup ds) y)) → (D.deeps ds ≤ 150) → (Q (.bl (if neg then !decide (d ∈ ds) else decide (d ∈ ds))) H) → J_rInD neg x y H Q
noncomputable def rInD (neg : Bool) : R2 := fun x y H Q => J_rInD neg x y H Q
noncomputable def eqR (h : Heap) (d : D) (y : Value) : Bool := @decide (DenR h d y) (Classical.propDecidable _)
theorem eqR_eq {h : Heap} {d e : D} {y : Value} (r : DenR h e y) : eqR h d y = decide (e = d) := by
  unfold eqR
  by_cases z : e = d
  · subst z; rw [decide_eq_true rfl]; exact @decide_eq_true _ (Classical.propDecidable _) r
  · rw [decide_eq_false z]; exact @decide_eq_false _ (Classical.propDecidable _) fun q => z (denR_inj r q)
theorem denRs_mem {h : Heap} : ∀ {ds : List D} {us : List Value} {u : Value}, DenRs h ds us → u ∈ us → ∃ d ∈ ds, DenR h d u
  | [], us, u, r, m => by rw [DenRs] at r; subst r; cases m
  | d :: ds, us, u, r, m => by
    rw [DenRs] at r
    obtain ⟨v, us', rfl, r1, r⟩ := r
    rcases List.mem_cons.mp m with rfl | m
    · exact ⟨d, List.mem_cons_self, r1⟩
    · obtain ⟨e, he, q⟩ := denRs_mem r m
      exact ⟨e, List.mem_cons_of_mem _ he, q⟩
theorem any_eqR {h : Heap} {d : D} : ∀ {ds : List D} {us : List Value}, DenRs h ds us → us.any (eqR h d) = decide (d ∈ ds)
  | [], us, r => by rw [DenRs] at r; subst r; simp
  | e :: ds, us, r => by
    rw [DenRs] at r
    obtain ⟨v, us', rfl, r1, r⟩ := r
    rw [List.any_cons, any_eqR r, eqR_eq r1]
    refine dec_true ⟨fun z => ?_, fun z => ?_⟩
    · rcases List.mem_cons.mp z with rfl | z
      · simp
      · rw [decide_eq_true z]; simp
    · rw [Bool.or_eq_true] at z
      rcases z with z | z
      · rw [of_decide_eq_true z]; exact List.mem_cons_self
      · exact List.mem_cons_of_mem _ (of_decide_eq_true z)
theorem op_notInD (hu : X.A.units + 151 < cLine) : OpR X (compareOp .NotIn) (rInD true) := by
  intro pins s σ H x y v u Q I rx ry h
  obtain ⟨d, ds, h1, h2, hd, q⟩ := h
  have g1 := den_raw I.hok h1 rx
  have el : ∀ us : List Value, DenRs s.heap ds us → ∀ y, y ∈ us.toArray → SeqAt.EqAt X.A.in1 s y v (eqR s.heap d y) := fun us r y hy => by
    obtain ⟨e, he, r1⟩ := denRs_mem r (by simpa using hy)
    refine eqAt_cast (eqAt_D 150 (by have := deeps_le he; omega) r1 g1 (by show X.A.units + 1 + 150 < cLine; omega)) (eqR_eq r1).symm
  rcases h2 with h2 | h2
  · have g2 := den_raw I.hok h2 ry
    rw [DenR] at g2
    obtain ⟨b, us', rfl, p', r'⟩ := g2
    refine SeqAt.notIn_listAt (eqR s.heap d) p' (el us' r') ⟨.bl (!decide (d ∈ ds)), H, I, ?_, q⟩
    rw [← any_eqR r']
    show Value.bool _ = Value.bool _
    rw [List.any_toArray]
  · have g2 := den_raw I.hok h2 ry
    rw [DenR] at g2
    obtain ⟨b, us', rfl, p', r'⟩ := g2
    refine SeqAt.notIn_tupleAt (eqR s.heap d) p' (el us' r') ⟨.bl (!decide (d ∈ ds)), H, I, ?_, q⟩
    rw [← any_eqR r']
    show Value.bool _ = Value.bool _
    rw [List.any_toArray]
end
end L2
namespace L2
open PySem PySem.Spec PyProof.Rows

section
variable {κ : Type} [DecidableEq κ]
noncomputable def valV (kvs : List (κ × V)) (k : κ) : Option V := (kvs.find? fun kv => decide (kv.1 = k)).map (·.2)
noncomputable def putK (kvs : List (κ × V)) (k : κ) (v : V) : List (κ × V) :=
  if (kvs.any fun kv => decide (kv.1 = k)) = true then kvs.map (fun kv => if kv.1 = k then (kv.1, v) else kv) else kvs ++ [(k, v)]

theorem valV_nil {k : κ} : valV ([] : List (κ × V)) k = none := rfl
theorem valV_pos {p : κ × V} {r : List (κ × V)} {k : κ} (e : p.1 = k) : valV (p :: r) k = some p.2 := by simp [valV, List.find?_cons, e]
theorem valV_neg {p : κ × V} {r : List (κ × V)} {k : κ} (e : ¬ p.1 = k) : valV (p :: r) k = valV r k := by simp [valV, List.find?_cons, e]
theorem valV_any (k : κ) : ∀ kvs : List (κ × V), (kvs.any fun kv => decide (kv.1 = k)) = (valV kvs k).isSome
  | [] => rfl
  | p :: r => by
    rw [List.any_cons]
    by_cases e : p.1 = k
    · simp only [valV_pos e, decide_eq_true e, Bool.true_or, Option.isSome_some]
    · rw [valV_neg e, decide_eq_false e, Bool.false_or]; exact valV_any k r
theorem valV_map (k j : κ) (y : V) : ∀ kvs : List (κ × V), valV (kvs.map fun kv => if kv.1 = k then (kv.1, y) else kv) j = (valV kvs j).map fun x => if j = k then y else x
  | [] => rfl
  | p :: r => by
    have ih := valV_map k j y r
    rw [List.map_cons]
    by_cases h : p.1 = k
    · rw [if_pos h]
      by_cases e : p.1 = j
      · rw [valV_pos (p := (p.1, y)) e, valV_pos e, Option.map_some, if_pos (e.symm.trans h)]
      · rw [valV_neg (p := (p.1, y)) e, valV_neg e, ih]
    · rw [if_neg h]
      by_cases e : p.1 = j
      · rw [valV_pos (p := p) e, valV_pos e, Option.map_some, if_neg (fun z => h (e.trans z))]
      · rw [valV_neg (p := p) e, valV_neg e, ih]
theorem valV_snoc (k j : κ) (y : V) : ∀ kvs : List (κ × V), valV kvs k = none → valV (kvs ++ [(k, y)]) j = if j = k then some y else valV kvs j
  | [], _ => by
    by_cases e : k = j
    · rw [if_pos e.symm]; exact valV_pos (p := (k, y)) e
    · rw [if_neg (fun z => e z.symm)]; exact valV_neg (p := (k, y)) e
  | p :: r, hn => by
    rw [List.cons_append]
    have hk : ¬ p.1 = k := fun z => by rw [valV_pos z] at hn; cases hn
    rw [valV_neg hk] at hn
    have ih := valV_snoc k j y r hn
    by_cases e : p.1 = j
    · rw [valV_pos e, valV_pos e, if_neg (fun z => hk (e.trans z))]
    · rw [valV_neg e, valV_neg e, ih]
theorem valV_put (kvs : List (κ × V)) (k j : κ) (y : V) : valV (putK kvs k y) j = if j = k then some y else valV kvs j := by
  unfold putK
  by_cases a : (kvs.any fun kv => decide (kv.1 = k)) = true
  · rw [if_pos a, valV_map]
    rw [valV_any] at a
    by_cases e : j = k
    · obtain ⟨x, hx⟩ := Option.isSome_iff_exists.mp a
      rw [if_pos e, e, hx, Option.map_some, if_pos rfl]
    · rw [if_neg e]
      cases valV kvs j with
      | none => rfl
      | some x => rw [Option.map_some, if_neg e]
  · rw [if_neg a]
    refine valV_snoc k j y kvs ?_
    rw [valV_any] at a
    cases q : valV kvs k with
    | none => rfl
    | some x => rw [q] at a; exact (a rfl).elim
theorem length_putK (kvs : List (κ × V)) (k : κ) (v : V) : (putK kvs k v).length ≤ kvs.length + 1 := by
  unfold putK
  split
  · rw [List.length_map]; omega
  · rw [List.length_append, List.length_cons, List.length_nil]; omega
theorem putK_new {kvs : List (κ × V)} {k : κ} (v : V) (h : valV kvs k = none) : putK kvs k v = kvs ++ [(k, v)] := by
  unfold putK
  rw [valV_any, h]
  exact if_neg (by decide)

theorem RelO.isSome_eq {o : Option V} {u : Option Value} (r : RelO o u) : o.isSome = u.isSome := by
  cases o with
  | none => cases u with
    | none => rfl
    | some _ => exact (show False from r).elim
  | some _ => cases u with
    | none => exact (show False from r).elim
    | some _ => rfl

theorem KV.val {kvs : List (κ × V)} {vs : List (κ × Value)} (r : KV kvs vs) (k : κ) : RelO (valV kvs k) (valueAt vs k) := by
  unfold KV at r
  induction r with
  | nil => exact True.intro
  | @cons p q ps qs h t ih =>
    obtain ⟨h1, h2⟩ := h
    by_cases e : p.1 = k
    · have e' : q.1 = k := h1.symm.trans e
      have b : valueAt (q :: qs) k = some q.2 := by simp [valueAt, List.find?_cons, e']
      rw [valV_pos e, b]; exact h2
    · have e' : ¬ q.1 = k := fun z => e (h1.trans z)
      have b : valueAt (q :: qs) k = valueAt qs k := by simp [valueAt, List.find?_cons, e']
      rw [valV_neg e, b]; exact ih
theorem KV.any {kvs : List (κ × V)} {vs : List (κ × Value)} (r : KV kvs vs) (k : κ) : (kvs.any fun kv => decide (kv.1 = k)) = vs.any fun kv => decide (kv.1 = k) := by
  unfold KV at r
  induction r with
  | nil => rfl
  | cons h t ih => rw [List.any_cons, List.any_cons, ih, h.1]
theorem KV.repl {kvs : List (κ × V)} {vs : List (κ × Value)} (r : KV kvs vs) (k : κ) {y : V} {u : Value} (ry : RelV y u) :
    KV (kvs.map fun kv => if kv.1 = k then (kv.1, y) else kv) (vs.map fun kv => if kv.1 = k then (kv.1, u) else kv) := by
  unfold KV at r ⊢
  induction r with
  | nil => exact .nil
  | @cons p q ps qs h t ih =>
    rw [List.map_cons, List.map_cons]
    refine .cons ?_ ih
    obtain ⟨h1, h2⟩ := h
    by_cases e : p.1 = k
    · rw [if_pos e, if_pos (h1.symm.trans e)]; exact ⟨h1, ry⟩
    · rw [if_neg e, if_neg (fun z => e (h1.trans z))]; exact ⟨h1, h2⟩
theorem KV.put {kvs : List (κ × V)} {vs : List (κ × Value)} (r : KV kvs vs) (k : κ) {y : V} {u : Value} (ry : RelV y u) : KV (putK kvs k y) (stored vs k u) := by
  unfold putK stored
  rw [r.any k]
  by_cases e : (vs.any fun kv => decide (kv.1 = k)) = true
  · rw [if_pos e, if_pos e]; exact r.repl k ry
  · rw [if_neg e, if_neg e]; exact Paired.snoc r ⟨rfl, ry⟩
theorem KV.keys {kvs : List (κ × V)} {vs : List (κ × Value)} (r : KV kvs vs) : kvs.map (·.1) = vs.map (·.1) := by
  unfold KV at r
  induction r with
  | nil => rfl
  | cons h t ih => rw [List.map_cons, List.map_cons, ih, h.1]
theorem KV.length {kvs : List (κ × V)} {vs : List (κ × Value)} (r : KV kvs vs) : kvs.length = vs.length := Paired.length r
end


theorem kV_is {P : Program} {w : World} {k : Key} {u : Value} (r : RelV (kV k) u) : (mixKind P w).is k u = true := by
  cases k with
  | inl i => obtain ⟨t, e⟩ := (show ∃ t, u = Value.int i t from r); subst e; exact mixKind_int P w i t
  | inr x => obtain ⟨t, e⟩ := (show ∃ t, u = Value.str x t from r); subst e; exact mixKind_str P w x t
theorem items_are {P : Program} {w : World} : ∀ {ks : List Key} {us : List Value}, Vals (ks.map kV) us → ItemsAre (mixKind P w) ks us
  | [], _, r => by rw [List.map_nil] at r; cases r; exact .nil
  | k :: ks, _, r => by
    rw [List.map_cons] at r
    cases r with
    | cons h t => exact .cons (kV_is h) (items_are t)

noncomputable abbrev KT (H : Hp) : List (List Key × V) → List (List Key × Addr × Value) → Prop := Paired fun p q => p.1 = q.1 ∧ H q.2.1 = some (.tup (p.1.map kV)) ∧ RelV p.2 q.2.2
theorem KT.val {H : Hp} {kvs : List (List Key × V)} {xs : List (List Key × Addr × Value)} (r : KT H kvs xs) (k : List Key) : RelO (valV kvs k) ((atKey xs k).map (·.2)) := by
  induction r with
  | nil => exact True.intro
  | @cons p q ps qs h t ih =>
    obtain ⟨h1, _, h2⟩ := h
    by_cases e : p.1 = k
    · have e' : q.1 = k := h1.symm.trans e
      have b : atKey (q :: qs) k = some q.2 := by simp [atKey, List.find?_cons, e']
      rw [valV_pos e, b]; exact h2
    · have e' : ¬ q.1 = k := fun z => e (h1.trans z)
      have b : atKey (q :: qs) k = atKey qs k := by simp [atKey, List.find?_cons, e']
      rw [valV_neg e, b]; exact ih
theorem KT.repl {H : Hp} {kvs : List (List Key × V)} {xs : List (List Key × Addr × Value)} (r : KT H kvs xs) (k : List Key) {y : V} {u : Value} (ry : RelV y u) :
    KT H (kvs.map fun kv => if kv.1 = k then (kv.1, y) else kv) (xs.map (putAt k u)) := by
  induction r with
  | nil => exact .nil
  | @cons p q ps qs h t ih =>
    rw [List.map_cons, List.map_cons]
    refine .cons ?_ ih
    obtain ⟨h1, h2, h3⟩ := h
    unfold putAt
    by_cases e : p.1 = k
    · rw [if_pos e, if_pos (h1.symm.trans e)]; exact ⟨h1, h2, ry⟩
    · rw [if_neg e, if_neg (fun z => e (h1.trans z))]; exact ⟨h1, h2, h3⟩
theorem KT.put {H : Hp} {kvs : List (List Key × V)} {xs : List (List Key × Addr × Value)} (r : KT H kvs xs) (k : List Key) {b : Addr} {y : V} {u : Value} (hb : H b = some (.tup (k.map kV))) (ry : RelV y u) :
    KT H (putK kvs k y) (storedH xs k b u) := by
  have e : (kvs.any fun kv => decide (kv.1 = k)) = (atKey xs k).isSome := by
    rw [valV_any, (r.val k).isSome_eq, Option.isSome_map]
  unfold putK storedH
  rw [e]
  by_cases q : (atKey xs k).isSome = true
  · rw [if_pos q, if_pos q]; exact r.repl k ry
  · rw [if_neg q, if_neg q]; exact Paired.snoc r ⟨rfl, hb, ry⟩
theorem KT.keeps {H H' : Hp} {kvs : List (List Key × V)} {xs : List (List Key × Addr × Value)} (r : KT H kvs xs) (ht : ∀ b ys, H b = some (.tup ys) → H' b = some (.tup ys)) : KT H' kvs xs :=
  Paired.mapP r fun _ _ z => ⟨z.1, ht _ _ z.2.1, z.2.2⟩

section
variable {P : Program} {w : World} {H : Hp} {h : Heap} {a : Addr}
theorem rd_of {u : HO} (ok : HOk P w H h) (e : Rd H a u) : ObjOk P w H h a u := e.ok ok
theorem dk_rd {kvs : List (Key × V)} (ok : HOk P w H h) (e : Rd H a (.dK kvs)) : kvs.length ≤ sizeLine ∧ (a == sysModules) = false ∧ ∃ vs, KV kvs vs ∧ h.DictOf (mixKind P w) a vs :=
  show ObjOk P w H h a (.dK kvs) from rd_of ok e
theorem dk_of {kvs : List (Key × V)} (ok : HOk P w H h) (e : H a = some (.dK kvs)) : kvs.length ≤ sizeLine ∧ (a == sysModules) = false ∧ ∃ vs, KV kvs vs ∧ h.DictOf (mixKind P w) a vs := dk_rd ok (.inl e)
theorem key_of {ks : List Key} (ok : HOk P w H h) (e : H a = some (.tup (ks.map kV))) : (tupleKind (mixKind P w)).is h ks a := by
  obtain ⟨_, its, r, o, h1, h2, n, h3, _⟩ := (show ObjOk P w H h a (.tup (ks.map kV)) from ok a _ e)
  exact ⟨o, its.toArray, n, h1, h2, h3, by simpa using items_are r⟩
theorem dt_rd {kvs : List (List Key × V)} (ok : HOk P w H h) (e : Rd H a (.dT kvs)) : kvs.length ≤ sizeLine ∧ (a == sysModules) = false ∧
    ∃ xs, KT H kvs xs ∧ h.DictOfH (tupleKind (mixKind P w)) a xs := by
  obtain ⟨z, y, xs, r, o, es, ep, h1, h2, h3, h4, h5⟩ := (show ObjOk P w H h a (.dT kvs) from rd_of ok e)
  refine ⟨z, y, xs, r, o, es, ep, h1, h2, h3, h4, fun x hx => ?_, h5⟩
  have all : ∀ {l : List (List Key × V)} {m : List (List Key × Addr × Value)}, KT H l m → ∀ x ∈ m, (tupleKind (mixKind P w)).is h x.1 x.2.1 := by
    intro l m q
    induction q with
    | nil => intro x hx; exact nomatch hx
    | @cons p q ps qs hq t ih =>
      intro x hx
      rcases List.mem_cons.mp hx with e | hx
      · subst e
        exact key_of ok (by rw [← hq.1]; exact hq.2.1)
      · exact ih x hx
  exact all r x hx
theorem dt_of {kvs : List (List Key × V)} (ok : HOk P w H h) (e : H a = some (.dT kvs)) : kvs.length ≤ sizeLine ∧ (a == sysModules) = false ∧
    ∃ xs, KT H kvs xs ∧ h.DictOfH (tupleKind (mixKind P w)) a xs := dt_rd ok (.inl e)
end

noncomputable def DGet (H : Hp) (a : Addr) (y : V) (r : Option V) : Prop :=
  (∃ kvs k, Rd H a (.dK kvs) ∧ y = kV k ∧ r = valV kvs k) ∨ ∃ kvs k b, Rd H a (.dT kvs) ∧ y = .ref b ∧ H b = some (.tup (k.map kV)) ∧ r = valV kvs k
noncomputable def DPut (H : Hp) (a : Addr) (y v : V) (H' : Hp) : Prop :=
  (∃ kvs k, H a = some (.dK kvs) ∧ y = kV k ∧ kvs.length < sizeLine ∧ H' = upd H a (.dK (putK kvs k v))) ∨
  ∃ kvs k b, H a = some (.dT kvs) ∧ y = .ref b ∧ H b = some (.tup (k.map kV)) ∧ kvs.length < sizeLine ∧ H' = upd H a (.dT (putK kvs k v))
theorem DGet.k {H : Hp} {a : Addr} {kvs : List (Key × V)} {k : Key} (e : H a = some (.dK kvs)) : DGet H a (kV k) (valV kvs k) := .inl ⟨kvs, k, .inl e, rfl, rfl⟩
theorem DPut.k {H : Hp} {a : Addr} {kvs : List (Key × V)} {k : Key} {v : V} (e : H a = some (.dK kvs)) (hl : kvs.length < sizeLine) : DPut H a (kV k) v (upd H a (.dK (putK kvs k v))) := .inl ⟨kvs, k, e, rfl, hl, rfl⟩


section
variable {X : Cx} {pins : List (Addr × Obj)} {σ : St} {H : Hp} {s : Shared} {a : Addr} {y v : V} {u r : Value} {o : Option V} {A : Around} {E : Value → Shared → Prop}

theorem Inv.big (I : Inv X pins σ H s) : sysModules < s.heap.objs.size := by
  have h : mainGlobals < s.heap.objs.size := (I.mod.glob.keeps I.bk).lt
  exact Nat.lt_trans (by decide) h

theorem d_getItem {Q : Value → Shared → Prop} (hu : A.units + 1 < cLine) (I : Inv X pins σ H s) (g : DGet H a y (some v)) (ry : RelV y u) (h : ∀ w' s', Inv X pins σ H s' → RelV v w' → Q w' s') :
    wpAny (model X.prog X.w) A (getItem (.ref a) u) Q E s := by
  rcases g with ⟨kvs, k, e, ey, l⟩ | ⟨kvs, k, b, e, ey, eb, l⟩
  · subst ey
    obtain ⟨z, hd, vs, rel, dd⟩ := dk_rd I.hok e
    obtain ⟨w', hw, rw'⟩ := RelO.some_of (v := v) (o := valueAt vs k) (by rw [l]; exact rel.val k)
    exact wpAny_getItem_of (kV_is ry) dd.mapOf hw (h w' _ (I.tok _) rw')
  · subst ey
    cases (show u = Value.ref b from ry)
    obtain ⟨z, hd, xs, rel, dd⟩ := dt_rd I.hok e
    obtain ⟨w', hw, rw'⟩ := RelO.some_of (v := v) (o := (atKey xs k).map (·.2)) (by rw [l]; exact rel.val k)
    obtain ⟨p, hp, hp2⟩ := Option.map_eq_some_iff.mp hw
    refine wpAny_getItem_heap (tupleKind_room_in1 hu) (key_of I.hok eb) dd hp ?_
    rw [hp2]
    exact h w' _ (I.tok _) rw'
theorem d_write {h' : Heap} {t' : Nat} {ob : HO} (I : Inv X pins σ H s) (mu : Mut (H a)) (hs : Heap.SameBut a s.heap h') (he : ∃ q, h'.get? a = some q) (new : ObjOk X.prog X.w (upd H a ob) h' a ob) :
    Inv X pins σ (upd H a ob) { s with heap := h', toks := t' } :=
  I.write (x := a) (e := a) mu (.inl rfl) (fun b q hb z => (hs.2 b hb).trans z) he new
theorem dk_new {P : Program} {w : World} {H' : Hp} {h' : Heap} {kvs : List (Key × V)} {vs : List (Key × Value)} (z : kvs.length ≤ sizeLine) (hd : (a == sysModules) = false) (rel : KV kvs vs) (dd : h'.DictOf (mixKind P w) a vs) :
    ObjOk P w H' h' a (.dK kvs) := ⟨z, hd, vs, rel, dd⟩
theorem d_setItem {H' : Hp} {Q : Unit → Shared → Prop} (hu : A.units + 1 < cLine) (I : Inv X pins σ H s) (g : DPut H a y v H') (ry : RelV y u) (rv : RelV v r) (h : ∀ s', Inv X pins σ H' s' → Q () s') :
    wpAny (model X.prog X.w) A (setItem (.ref a) u r) Q E s := by
  rcases g with ⟨kvs, k, e, ey, l, eH⟩ | ⟨kvs, k, b, e, ey, eb, l, eH⟩
  · subst ey eH
    obtain ⟨z, hd, vs, rel, dd⟩ := dk_of I.hok e
    have hz : vs.length ≤ sizeLine := by rw [← rel.length]; exact z
    have hl : (putK kvs k v).length ≤ sizeLine := by have := length_putK kvs k v; omega
    refine wpAny_setItem_pairs (hsz := hz) (kV_is ry) dd fun h' dd' hs => h _ ?_
    have he : ∃ q, h'.get? a = some q := let ⟨q, _, _, hq, _⟩ := dd'; ⟨q, hq⟩
    exact d_write I (by rw [e]; exact True.intro) hs he (dk_new hl hd (rel.put k rv) dd')
  · subst ey eH
    cases (show u = Value.ref b from ry)
    obtain ⟨z, hd, xs, rel, dd⟩ := dt_of I.hok e
    have hz : xs.length ≤ sizeLine := by rw [← Paired.length rel]; exact z
    have hl : (putK kvs k v).length ≤ sizeLine := by have := length_putK kvs k v; omega
    refine wpAny_setItem_heap (hsz := hz) (tupleKind_room_in1 hu) (key_of I.hok eb) dd fun h' dd' hs => h _ ?_
    obtain ⟨q, es, ep, hq, h2, h3, h4, _, h5⟩ := dd'
    refine d_write I (by rw [e]; exact True.intro) hs ⟨q, hq⟩ ⟨hl, hd, _, (rel.put k eb rv).keeps fun c ys ec => ?_, q, es, ep, hq, h2, h3, h4, h5⟩
    rw [upd_ne (ne_of ec e (fun z => nomatch z))]
    exact ec
end

section
variable {X : Cx} {pins : List (Addr × Obj)} {σ : St} {H : Hp} {s : Shared} {a : Addr} {kvs : List (Key × V)} {k : Key} {u : Value} {A : Around} {E : Value → Shared → Prop}
end


noncomputable def NoSl (i : Expr) : Prop := ∀ ov iv, subscripted i false ov iv = operate [ov, iv] (getItem ov iv)
theorem subD_of {prog : Program} {w : World} {A : Around} {E : Value → Shared → Prop} {s : Shared} {env : Env} {value slice : Expr} {pos : Pos} {T id : String} {Q : Value → Shared → Prop}
    (hl : typeLookup (.type T) "__getitem__" = pure (some (.builtin id))) (hs : NoSl slice)
    (h : wpAny (model prog w) A (eval value env) (fun o s₁ => wpAny (model prog w) A (eval slice env) (fun i s₂ => s₂.TypeIs o T ∧ wpAny (model prog w) A (getItem o i) Q E s₂) E s₁) E s) :
    wpAny (model prog w) A (eval (.Subscript value slice pos) env) Q E s := by
  refine Subscript_ (wpAny_mono h (fun o s₁ h₁ => wpAny_mono h₁ (fun i s₂ h₂ => ?_) fun _ _ x => x) fun _ _ x => x)
  obtain ⟨hT, h₂⟩ := h₂
  unfold subscriptTail
  refine wpAny_bind ?_
  rw [getitemInPython_of_ne hT.not_modules]
  refine wpAny_bind (wpAny_specialOf hT hl ?_)
  have fin : wpAny (model prog w) A (subscripted slice false o i) (fun r s₃ => wpAny (model prog w) A (letTemporaryGo value o r >>= fun _ => pure r) Q E s₃) E s₂ := by
    rw [hs o i]
    exact wpAny_operating (wpAny_mono h₂ (fun r s₃ h₃ => wpAny_bind (wpAny_letTemporaryGo (wpAny_pure h₃))) fun _ _ x => x)
  first
    | exact wpAny_pure (wpAny_bind fin)
    | exact wpAny_bind (wpAny_pure (wpAny_bind fin))
    | exact wpAny_bind fin

theorem dict_typeIs {X : Cx} {pins : List (Addr × Obj)} {σ : St} {H : Hp} {s : Shared} {a : Addr} {y : V} {o : Option V} (I : Inv X pins σ H s) (g : DGet H a y o) : s.TypeIs (.ref a) "dict" := by
  rcases g with ⟨kvs, k, e, _, _⟩ | ⟨kvs, k, b, e, _, _, _⟩
  · obtain ⟨_, _, vs, _, dd⟩ := dk_rd I.hok e
    exact dd.typeIs
  · obtain ⟨_, _, xs, _, dd⟩ := dt_rd I.hok e
    exact dd.typeIs

inductive J_tDGet (Q : VK) (x : V) (y : V) (H2 : Hp) : Prop
  | mk : ∀ a v, (x = .ref a) → (DGet H2 a y (some v)) → (Q v H2) → J_tDGet Q x y H2
noncomputable def tDGet (td ty : TE) : TE := fun σ H Q => td σ H fun x H1 => ty σ H1 fun y H2 => J_tDGet Q x y H2
inductive J_sDPut (D : Ends) (σ : St) (v : V) (x : V) (y : V) (H3 : Hp) : Prop
  | mk : ∀ a H4, (x = .ref a) → (DPut H3 a y v H4) → (D.nx σ H4) → J_sDPut D σ v x y H3
noncomputable def sDPut (td ty tv : TE) : TS := fun D σ H => tv σ H fun v H1 => td σ H1 fun x H2 => ty σ H2 fun y H3 => J_sDPut D σ v x y H3

section
variable {X : Cx} {o i e value : Expr} {pos pos' tpos : Pos} {td ty tv : TE}
theorem pe_dget (hu : X.A.units + 1 < cLine) (ho : PE X o td) (hi : PE X i ty) (hs : NoSl i) : PE X (.Subscript o i pos) (tDGet td ty) := by
  intro pins s σ H Q I h
  refine subD_of PySem.F.slot_dict_getitem.lookup hs (thn (ho pins s σ H _ I h) fun u s1 ⟨x, H1, I1, rx, q1⟩ => thn (hi pins s1 σ H1 _ I1 q1) fun iv s2 ⟨y, H2, I2, ry, a, v, ex, g, q2⟩ => ?_)
  subst ex
  obtain rfl : u = Value.ref a := rx
  exact ⟨dict_typeIs I2 g, d_getItem hu I2 g ry fun w' s3 I3 rw' => ⟨v, H2, I3, rw', q2⟩⟩
theorem ps_dput (hu : X.A.units + 1 < cLine) (ho : PE X o td) (hi : PE X i ty) (hv : PE X value tv) (hs : swapsWith value (some (.Subscript o i pos')) pos.line X.env = pure false) :
    PS X (.Assign [.Subscript o i pos'] value pos) (sDPut td ty tv) := by
  intro pins s σ H D I h
  refine wpAny_Assign_Subscript (thn (hv pins s σ H _ I h) fun r s1 ⟨v, H1, I1, rv, q1⟩ => thn (ho pins s1 σ H1 _ I1 q1) fun u s2 ⟨x, H2, I2, rx, q2⟩ => thn (hi pins s2 σ H2 _ I2 q2) fun iv s3 ⟨y, H3, I3, ry, a, H4, ex, g, q3⟩ => ?_) hs
  subst ex
  obtain rfl : u = Value.ref a := rx
  exact d_setItem hu I3 g ry rv fun s4 I4 => ⟨σ, H4, I4, q3⟩
end


theorem dk_empty {P : Program} {w : World} {H : Hp} (h : Heap) (hb : sysModules < h.objs.size) : ObjOk P w H (h.push { cls := .type "dict", data := .dict #[] }) h.objs.size (.dK []) :=
  ⟨Nat.zero_le _, beq_eq_false_iff_ne.mpr (Ne.symm (Nat.ne_of_lt hb)), [], .nil, Heap.DictOf.new h⟩
noncomputable def tDNewK : TE := fun _ H Q => ∀ p, H p = none → Q (.ref p) (upd H p (.dK []))
section
variable {X : Cx} {pos : Pos}
theorem pe_dnewK : PE X (.Dict [] [] pos) tDNewK := fun pins s σ H Q I h =>
  wpAny_Dict_empty ⟨.ref s.heap.objs.size, _, I.laid (a := s.heap.objs.size) (o := .dK []) (t' := s.toks) (fun _ _ q => Heap.get?_push_of_some _ q) (Nat.le_refl _) (dk_empty s.heap I.big), rfl, h _ (I.hok.fresh (Nat.le_refl _))⟩
end

noncomputable def tPairs : List (TE × TE) → St → Hp → (List (V × V) → Hp → Prop) → Prop
  | [], _, H, Q => Q [] H
  | (tk, tv) :: r, σ, H, Q => tk σ H fun x H1 => tv σ H1 fun y H2 => tPairs r σ H2 fun ps H3 => Q ((x, y) :: ps) H3
noncomputable abbrev VV : List (V × V) → List (Value × Value) → Prop := Paired fun p q => RelV p.1 q.1 ∧ RelV p.2 q.2
noncomputable def PPs (X : Cx) (pos : Pos) (keys : List (Option Expr)) (values : List Expr) (trs : List (TE × TE)) : Prop :=
  ∀ (pins : List (Addr × Obj)) (s : Shared) (σ : St) (H : Hp) (Q : List (V × V) → Hp → Prop), Inv X pins σ H s → tPairs trs σ H Q →
    wpAny (model X.prog X.w) X.A (evalPairs (pairTrees keys values X.env pos)) (fun vs s' => ∃ ps H', Inv X pins σ H' s' ∧ VV ps vs ∧ Q ps H') X.xe s
theorem pps_nil {X : Cx} {pos : Pos} : PPs X pos [] [] [] := fun pins s σ H Q I h => pairTrees_nil_walk ⟨[], H, I, .nil, h⟩
theorem pps_cons {X : Cx} {pos : Pos} {k v : Expr} {ks : List (Option Expr)} {vs : List Expr} {tk tv : TE} {trs : List (TE × TE)} (hk : PE X k tk) (hv : PE X v tv) (hr : PPs X pos ks vs trs) :
    PPs X pos (some k :: ks) (v :: vs) ((tk, tv) :: trs) := fun pins s σ H Q I h =>
  pairTrees_cons_walk (thn (hk pins s σ H _ I h) fun u s1 ⟨x, H1, I1, rx, q1⟩ => thn (hv pins s1 σ H1 _ I1 q1) fun w2 s2 ⟨y, H2, I2, ry, q2⟩ =>
    thn (hr pins s2 σ H2 _ I2 q2) fun ws s3 ⟨ps, H3, I3, rel, q3⟩ => ⟨(x, y) :: ps, H3, I3, .cons ⟨rx, ry⟩ rel, q3⟩)

noncomputable def mergeK (kvs more : List (Key × V)) : List (Key × V) := more.foldl (fun acc kv => putK acc kv.1 kv.2) kvs
theorem KV.merge : ∀ {more : List (Key × V)} {rs : List (Key × Value)} {kvs : List (Key × V)} {vs : List (Key × Value)}, KV more rs → KV kvs vs → KV (mergeK kvs more) (merged vs rs) := by
  intro more rs kvs vs r
  unfold KV at r
  induction r generalizing kvs vs with
  | nil => intro q; exact q
  | @cons p q ps qs h t ih =>
    intro r0
    have e : KV (putK kvs p.1 p.2) (stored vs q.1 q.2) := by
      have := r0.put p.1 h.2
      rw [← h.1]; exact this
    exact ih e
theorem length_mergeK : ∀ (more kvs : List (Key × V)), (mergeK kvs more).length ≤ kvs.length + more.length
  | [], kvs => by show kvs.length ≤ kvs.length + 0; omega
  | p :: r, kvs => by
    have h1 := length_mergeK r (putK kvs p.1 p.2)
    have h2 := length_putK kvs p.1 p.2
    show (mergeK (putK kvs p.1 p.2) r).length ≤ _
    rw [List.length_cons]; omega
theorem carries_of {P : Program} {w : World} : ∀ {kvs : List (Key × V)} {ws : List (Value × Value)}, VV (kvs.map fun kv => (kV kv.1, kv.2)) ws → ∃ rs, Carries (mixKind P w) ws rs ∧ KV kvs rs
  | [], _, r => by rw [List.map_nil] at r; cases r; exact ⟨[], True.intro, .nil⟩
  | p :: kvs, _, r => by
    rw [List.map_cons] at r
    cases r with
    | @cons a b as bs h t =>
      obtain ⟨rs, c, q⟩ := carries_of (P := P) (w := w) t
      obtain ⟨b1, b2⟩ := b
      exact ⟨(p.1, b2) :: rs, ⟨kV_is h.1, rfl, c⟩, .cons ⟨rfl, h.2⟩ q⟩
noncomputable def tDisp (trs : List (TE × TE)) : TE := fun σ H Q => ∀ p, H p = none → tPairs trs σ (upd H p (.dK [])) fun ps H2 => H2 p = some (.dK []) ∧ ∃ kvs : List (Key × V), ps = kvs.map (fun kv => (kV kv.1, kv.2)) ∧ kvs.length ≤ 15 ∧ Q (.ref p) (upd H2 p (.dK (mergeK [] kvs)))
theorem pe_disp {X : Cx} {pos : Pos} {keys : List (Option Expr)} {values : List Expr} {trs : List (TE × TE)} (h : PPs X pos keys values trs) (hall : keys.all (·.isSome) = true) (hl : keys.length = values.length) (h0 : keys ≠ [])
    (h15 : keys.length ≤ 15) : PE X (.Dict keys values pos) (tDisp trs) := by
  intro pins s σ H Q I q
  have hn := I.hok.fresh (Nat.le_refl s.heap.objs.size)
  have I1 := I.laid (a := s.heap.objs.size) (o := .dK []) (h' := s.heap.push { cls := .type "dict", data := .dict #[] }) (t' := s.toks) (fun _ _ q => Heap.get?_push_of_some _ q) (Nat.le_refl _) (dk_empty s.heap I.big)
  refine wpAny_Dict_walk (knd := mixKind X.prog X.w) hall hl h0 h15 (thn (h pins _ σ _ _ I1 (q _ hn)) fun ws s2 ⟨ps, H2, I2, rel, e, kvs, ep, lk, q2⟩ => ?_)
  subst ep
  obtain ⟨rs, c, rk⟩ := carries_of (P := X.prog) (w := X.w) rel
  obtain ⟨z, hd, vs0, r0, dd⟩ := dk_of I2.hok e
  cases r0
  refine ⟨rs, c, dd, fun h' dd' hs => ⟨.ref s.heap.objs.size, _, ?_, rfl, q2⟩⟩
  have hz : (mergeK [] kvs).length ≤ sizeLine := by
    have h1 := length_mergeK kvs []
    rw [List.length_nil] at h1
    rw [sizeLine_eq]; omega
  have he : ∃ q, h'.get? s.heap.objs.size = some q := let ⟨q, _, _, hq, _⟩ := dd'; ⟨q, hq⟩
  exact d_write I2 (by rw [e]; exact True.intro) hs he (dk_new hz hd (rk.merge .nil) dd')


structure M1 (X : Cx) (o : Expr) (m : Str) (apos : Pos) (e : Expr) (cpos : Pos) : Prop where
  base : attributeBase o m X.env (eval o X.env) = eval o X.env
  few : ((backTo cpos (starEach [e] X.env)).all (fun x => !x.1) && (backToKw cpos (keywordEach [] X.env)).all (fun x => x.1.isSome)
    && decide (([e] : List Expr).length + ([] : List Keyword).length + (if ([] : List Keyword).isEmpty then 0 else 1) < 30)) = true
  line : (apos.endLine == cpos.line) = true
  trees : backTo cpos (starEach [e] X.env) = [(false, eval e X.env)]


section
variable {X : Cx} {pins : List (Addr × Obj)} {σ : St} {H : Hp} {s : Shared} {a : Addr} {y d : V} {u r : Value} {o : Option V} {A : Around} {E : Value → Shared → Prop}
end

section
variable {X : Cx} {o e f : Expr} {apos cpos : Pos} {td ty tx : TE}
end

section
variable {X : Cx} {pins : List (Addr × Obj)} {σ : St} {H : Hp} {s : Shared} {a : Addr} {kvs : List (Key × V)} {A : Around} {E : Value → Shared → Prop}
end


section
variable {X : Cx} {pins : List (Addr × Obj)} {σ : St} {H : Hp} {s : Shared} {a : Addr} {y : V} {u : Value} {A : Around} {E : Value → Shared → Prop}
end
end L2
namespace L2
open PySem PySem.Spec PyProof.Rows

noncomputable abbrev NK := List (Sum Key (List Key))
noncomputable def kD : Key → D
  | .inl i => .int i
  | .inr x => .str x
noncomputable def iD : Sum Key (List Key) → D
  | .inl k => kD k
  | .inr l => .tup (l.map kD)
noncomputable def nkD (k : NK) : D := .tup (k.map iD)
theorem kD_inj {a b : Key} (e : kD a = kD b) : a = b := by
  cases a with
  | inl i => cases b with
    | inl j => have e' : D.int i = D.int j := e; injection e' with e'; rw [e']
    | inr y => exact nomatch (show D.int i = D.str y from e)
  | inr x => cases b with
    | inl j => exact nomatch (show D.str x = D.int j from e)
    | inr y => have e' : D.str x = D.str y := e; injection e' with e'; rw [e']
theorem map_inj_of {α β : Type} {f : α → β} (hf : ∀ a b, f a = f b → a = b) : ∀ {x y : List α}, x.map f = y.map f → x = y
  | [], [], _ => rfl
  | [], _ :: _, e => by simp at e
  | _ :: _, [], e => by simp at e
  | a :: xs, b :: ys, e => by
    rw [List.map_cons, List.map_cons] at e
    injection e with e1 e2
    rw [hf _ _ e1, map_inj_of hf e2]
theorem iD_inj {a b : Sum Key (List Key)} (e : iD a = iD b) : a = b := by
  cases a with
  | inl i => cases b with
    | inl j => rw [kD_inj e]
    | inr y => cases i <;> exact nomatch e
  | inr x => cases b with
    | inl j => cases j <;> exact nomatch e
    | inr y =>
      have e' : D.tup (x.map kD) = D.tup (y.map kD) := e
      injection e' with e'
      rw [map_inj_of (fun _ _ => kD_inj) e']
theorem nkD_inj {a b : NK} (e : nkD a = nkD b) : a = b := by
  have e' : D.tup (a.map iD) = D.tup (b.map iD) := e
  injection e' with e'
  exact map_inj_of (fun _ _ => iD_inj) e'
section
variable (P : Program) (w : World)
noncomputable def NIt (h : Heap) : NK → List Value → Prop
  | [], us => us = []
  | .inl k :: ks, us => ∃ u us', us = u :: us' ∧ (mixKind P w).is k u = true ∧ NIt h ks us'
  | .inr l :: ks, us => ∃ b us', us = Value.ref b :: us' ∧ IsTupleKey (mixKind P w) h l b ∧ NIt h ks us'
noncomputable def IsNK (h : Heap) (k : NK) (a : Addr) : Prop := ∃ us : List Value, IsTup h a us.toArray ∧ NIt P w h k us
noncomputable def iHash : Sum Key (List Key) → Int
  | .inl k => (mixKind P w).hash k
  | .inr l => tupleKeyHash (mixKind P w) l
noncomputable def iDraws : Sum Key (List Key) → Nat
  | .inl _ => 1
  | .inr l => l.length + 1
noncomputable def nkHash (k : NK) : Int := reduceHash (Builtin.Tuple.tupleHashOf (k.map (iHash P w)))
noncomputable def nkDraws (k : NK) : Nat := (k.map iDraws).sum + 1
end
section
variable {P : Program} {w : World} {h h' : Heap}
theorem NIt.inj : ∀ {x y : NK} {us : List Value}, NIt P w h x us → NIt P w h y us → x = y
  | [], [], us, _, _ => rfl
  | [], .inl k :: ks, us, r, q => by rw [NIt] at r; rw [NIt] at q; subst r; obtain ⟨_, _, z, _⟩ := q; cases z
  | [], .inr k :: ks, us, r, q => by rw [NIt] at r; rw [NIt] at q; subst r; obtain ⟨_, _, z, _⟩ := q; cases z
  | .inl k :: ks, [], us, r, q => by rw [NIt] at r; rw [NIt] at q; subst q; obtain ⟨_, _, z, _⟩ := r; cases z
  | .inr k :: ks, [], us, r, q => by rw [NIt] at r; rw [NIt] at q; subst q; obtain ⟨_, _, z, _⟩ := r; cases z
  | .inl k :: ks, .inl l :: ls, us, r, q => by
    rw [NIt] at r; rw [NIt] at q
    obtain ⟨u, us', rfl, r1, r⟩ := r
    obtain ⟨u', us'', z, q1, q⟩ := q
    cases z
    rw [(mixKind P w).inj _ _ _ r1 q1, NIt.inj r q]
  | .inr k :: ks, .inr l :: ls, us, r, q => by
    rw [NIt] at r; rw [NIt] at q
    obtain ⟨u, us', rfl, r1, r⟩ := r
    obtain ⟨u', us'', z, q1, q⟩ := q
    cases z
    rw [r1.inj q1, NIt.inj r q]
  | .inl k :: ks, .inr l :: ls, us, r, q => by
    rw [NIt] at r; rw [NIt] at q
    obtain ⟨u, us', rfl, r1, r⟩ := r
    obtain ⟨u', us'', z, q1, q⟩ := q
    cases z
    rcases keyIs_shape r1 with ⟨i, t, _, e⟩ | ⟨x, t, _, e⟩ <;> cases e
  | .inr k :: ks, .inl l :: ls, us, r, q => by
    rw [NIt] at r; rw [NIt] at q
    obtain ⟨u, us', rfl, r1, r⟩ := r
    obtain ⟨u', us'', z, q1, q⟩ := q
    cases z
    rcases keyIs_shape q1 with ⟨i, t, _, e⟩ | ⟨x, t, _, e⟩ <;> cases e
theorem NIt.keeps {d : Addr} {o : Obj} {es ep} (ho : h.get? d = some o) (hd : o.data = .dict es ep) (hs : Heap.SameBut d h h') : ∀ {k : NK} {us : List Value}, NIt P w h k us → NIt P w h' k us
  | [], us, r => by rw [NIt] at r ⊢; exact r
  | .inl k :: ks, us, r => by
    rw [NIt] at r ⊢
    obtain ⟨u, us', e, r1, r⟩ := r
    exact ⟨u, us', e, r1, NIt.keeps ho hd hs r⟩
  | .inr k :: ks, us, r => by
    rw [NIt] at r ⊢
    obtain ⟨u, us', e, r1, r⟩ := r
    exact ⟨u, us', e, r1.keeps ho hd hs, NIt.keeps ho hd hs r⟩
theorem IsNK.inj {x y : NK} {a : Addr} (r : IsNK P w h x a) (q : IsNK P w h y a) : x = y := by
  obtain ⟨us, p, r⟩ := r
  obtain ⟨us', p', q⟩ := q
  have e : us = us' := by have := tup_seq p p'; simpa using this
  subst e
  exact r.inj q
theorem IsNK.keeps {k : NK} {a d : Addr} {o : Obj} {es ep} (r : IsNK P w h k a) (ho : h.get? d = some o) (hd : o.data = .dict es ep) (hs : Heap.SameBut d h h') : IsNK P w h' k a := by
  obtain ⟨us, ⟨o', e', c', n', d'⟩, r⟩ := r
  have hne : a ≠ d := by
    rintro rfl
    rw [ho] at e'; cases e'
    rw [hd] at d'; cases d'
  exact ⟨us, ⟨o', (hs.2 a hne).trans e', c', n', d'⟩, r.keeps ho hd hs⟩
theorem key_denR {k : Key} {u : Value} (r : (mixKind P w).is k u = true) : DenR h (kD k) u := by
  rcases keyIs_shape r with ⟨i, t, rfl, rfl⟩ | ⟨x, t, rfl, rfl⟩
  · show DenR h (.int i) _
    rw [DenR]; exact .inl ⟨t, rfl⟩
  · show DenR h (.str x) _
    rw [DenR]; exact ⟨t, rfl⟩
theorem items_denR {ks : List Key} {us : List Value} (r : ItemsAre (mixKind P w) ks us) : DenRs h (ks.map kD) us := by
  induction r with
  | nil => rw [List.map_nil, DenRs]
  | cons r1 _ ih => rw [List.map_cons, DenRs]; exact ⟨_, _, rfl, key_denR r1, ih⟩
theorem NIt.denR : ∀ {k : NK} {us : List Value}, NIt P w h k us → DenRs h (k.map iD) us
  | [], us, r => by rw [NIt] at r; rw [List.map_nil, DenRs]; exact r
  | .inl k :: ks, us, r => by
    rw [NIt] at r
    obtain ⟨u, us', e, r1, r⟩ := r
    rw [List.map_cons, DenRs]
    exact ⟨u, us', e, key_denR r1, NIt.denR r⟩
  | .inr k :: ks, us, r => by
    rw [NIt] at r
    obtain ⟨b, us', e, ⟨o, its, n, g, c, d, i⟩, r⟩ := r
    rw [List.map_cons, DenRs]
    refine ⟨_, us', e, ?_, NIt.denR r⟩
    show DenR h (.tup (k.map kD)) _
    rw [DenR]
    exact ⟨b, its.toList, rfl, ⟨o, g, c, n, by simpa using d⟩, items_denR i⟩
theorem IsNK.denR {k : NK} {a : Addr} (r : IsNK P w h k a) : DenR h (nkD k) (.ref a) := by
  obtain ⟨us, p, r⟩ := r
  rw [nkD, DenR]
  exact ⟨a, us, rfl, p, r.denR⟩
theorem kDs_deep : ∀ l : List Key, D.deeps (l.map kD) = 0
  | [] => by rw [List.map_nil, D.deeps]
  | .inl k :: ks => by rw [List.map_cons, D.deeps, kDs_deep ks]; show max (D.deep (.int k)) 0 = 0; rw [D.deep]; rfl
  | .inr k :: ks => by rw [List.map_cons, D.deeps, kDs_deep ks]; show max (D.deep (.str k)) 0 = 0; rw [D.deep]; rfl
theorem nk_deeps : ∀ l : NK, D.deeps (l.map iD) ≤ 1
  | [] => by rw [List.map_nil, D.deeps]; omega
  | .inl (.inl k) :: ks => by rw [List.map_cons, D.deeps]; have := nk_deeps ks; show max (D.deep (.int k)) _ ≤ 1; rw [D.deep]; omega
  | .inl (.inr k) :: ks => by rw [List.map_cons, D.deeps]; have := nk_deeps ks; show max (D.deep (.str k)) _ ≤ 1; rw [D.deep]; omega
  | .inr l :: ks => by rw [List.map_cons, D.deeps]; have := nk_deeps ks; show max (D.deep (.tup (l.map kD))) _ ≤ 1; rw [D.deep, kDs_deep]; omega
theorem nk_deep (k : NK) : (nkD k).deep ≤ 2 := by rw [nkD, D.deep]; have := nk_deeps k; omega
end
section
variable {P : Program} {w : World} {A : Around} {E : Value → Shared → Prop} {s : Shared}
theorem wpAny_eqBool_nk {x y : NK} {a b : Addr} {Q : Bool → Shared → Prop} (hu : A.units + 5 < cLine) (hx : IsNK P w s.heap x a) (hy : IsNK P w s.heap y b) (h : Q (decide (x = y)) s) :
    wpAny (model P w) A (eqBool (.ref a) (.ref b)) Q E s := by
  refine eqAt_D 2 (nk_deep x) hx.denR hy.denR (by omega) P w E Q ?_
  have e : decide (nkD x = nkD y) = decide (x = y) := decide_eq_decide.mpr ⟨nkD_inj, fun z => by rw [z]⟩
  rw [e]; exact h
theorem quiet_flat {K : Type} [DecidableEq K] {knd : KeyKind P w K} (n : Nat) {ks : List K} {a : Addr} {Q : Bool → Shared → Prop} (hk : IsTupleKey knd s.heap ks a) (h : Q true s) : wpAny (model P w) A (eqIsQuiet (n + 1) (.ref a)) Q E s := by
  have hT := hk.typeIs
  obtain ⟨o, items, m, ho, _, hd, hi⟩ := hk
  unfold eqIsQuiet
  refine wpAny_bind (wpAny_specialOf hT F.slot_tuple_eq.lookup ?_)
  show wpAny _ _ (isInstance (.ref a) (.type "tuple") >>= _) _ _ s
  refine wpAny_bind (wpAny_isInstance hT isSubtype_tuple_tuple ?_)
  simp only [Bool.not_true, Bool.false_eq_true, if_false]
  refine wpAny_bind (wpAny_seqItems ho hd ?_)
  refine wpAny_bind ?_
  show wpAny _ _ (forIn items _ _) _ _ s
  rw [← Array.forIn_toList]
  refine wpAny_forIn_list _ (fun rest r s' => r.1 = none ∧ s' = s ∧ ∀ v ∈ rest, carriedByValue v = true) _ ?_ ?_ _ _ ⟨rfl, rfl, hi.byValue⟩
  · rintro v rest r s' ⟨hr, rfl, hall⟩
    rw [eqIsQuiet_byValue _ (hall v List.mem_cons_self)]
    refine wpAny_bind (wpAny_pure ?_)
    simp only [Bool.not_true, Bool.false_eq_true, if_false]
    exact wpAny_pure ⟨rfl, rfl, fun u hu' => hall u (List.mem_cons_of_mem _ hu')⟩
  · rintro ⟨r1, r2⟩ s' ⟨hr, rfl, _⟩
    simp only at hr
    subst hr
    exact wpAny_pure h
theorem quiet_nk {k : NK} {a : Addr} {Q : Bool → Shared → Prop} (hk : IsNK P w s.heap k a) (h : Q true s) : wpAny (model P w) A (eqIsQuiet 8 (.ref a)) Q E s := by
  obtain ⟨us, p, hi⟩ := hk
  have hT : s.TypeIs (.ref a) "tuple" := p.typeIs
  obtain ⟨o, ho, _, m, hd⟩ := p
  unfold eqIsQuiet
  refine wpAny_bind (wpAny_specialOf hT F.slot_tuple_eq.lookup ?_)
  show wpAny _ _ (isInstance (.ref a) (.type "tuple") >>= _) _ _ s
  refine wpAny_bind (wpAny_isInstance hT isSubtype_tuple_tuple ?_)
  simp only [Bool.not_true, Bool.false_eq_true, if_false]
  refine wpAny_bind (wpAny_seqItems ho hd ?_)
  refine wpAny_bind ?_
  show wpAny _ _ (forIn us.toArray _ _) _ _ s
  rw [← Array.forIn_toList]
  refine wpAny_forIn_list _ (fun rest r s' => r.1 = none ∧ s' = s ∧ ∃ left, NIt P w s.heap left rest) _ ?_ ?_ _ _ ⟨rfl, rfl, k, by simpa using hi⟩
  · rintro v rest r s' ⟨hr, rfl, left, hl⟩
    cases left with
    | nil => rw [NIt] at hl; cases hl
    | cons i left =>
      cases i with
      | inl k =>
        rw [NIt] at hl
        obtain ⟨u, us', e, r1, hl⟩ := hl
        cases e
        rw [eqIsQuiet_byValue _ ((mixKind P w).byValue _ _ r1)]
        refine wpAny_bind (wpAny_pure ?_)
        simp only [Bool.not_true, Bool.false_eq_true, if_false]
        exact wpAny_pure ⟨rfl, rfl, left, hl⟩
      | inr l =>
        rw [NIt] at hl
        obtain ⟨b, us', e, r1, hl⟩ := hl
        cases e
        refine wpAny_bind (quiet_flat 6 r1 ?_)
        simp only [Bool.not_true, Bool.false_eq_true, if_false]
        exact wpAny_pure ⟨rfl, rfl, left, hl⟩
  · rintro ⟨r1, r2⟩ s' ⟨hr, rfl, _⟩
    simp only at hr
    subst hr
    exact wpAny_pure h
theorem wpAny_pyHash_nk {k : NK} {a : Addr} {Q : Int → Shared → Prop} (hu : A.units + 5 < cLine) (hk : IsNK P w s.heap k a) (h : Q (nkHash P w k) { s with toks := s.toks + nkDraws k }) :
    wpAny (model P w) A (pyHash (.ref a)) Q E s := by
  obtain ⟨us, p, hi⟩ := hk
  have hT : s.TypeIs (.ref a) "tuple" := p.typeIs
  obtain ⟨o, ho, _, n, hd⟩ := p
  unfold pyHash
  first | unfold pyHashByItsType | skip
  first | refine wpAny_bind (wpAny_cRoomFor_or (.inr (by omega)) ?_) | skip
  refine wpAny_bind (wpAny_specialOf hT F.slot_tuple_hash.lookup ?_)
  show wpAny _ _ (if (some (Value.builtin "tuple.__hash__") == some Value.none) = true then _ else _) Q E s
  rw [if_neg (by rw [beq_builtin_none]; exact Bool.false_ne_true)]
  refine wpAny_bind (wpAny_specialOf hT F.slot_tuple_hash.lookup ?_)
  show wpAny _ _ (callSpecialIfBoundUnlessNone? (.ref a) "__hash__" _ >>= _) Q E s
  refine wpAny_bind (wpAny_callSpecialIfBoundUnlessNone?_slot hT F.slot_tuple_hash (wpAny_call_entry F.slot_tuple_hash hT F.entry_tuple_hash ?_ (F.args_tuple_hash_1 _)))
  show wpAny _ _ (Builtin.Tuple.tupleItemsOf (.ref a) >>= _) _ _ s
  refine wpAny_bind (wpAny_tupleItemsOf ho hd ?_)
  refine wpAny_bind ?_
  rw [← Array.forIn_toList]
  refine wpAny_forIn_list _
    (fun rest (b : Array Int) s' => ∃ done left : NK, k = done ++ left ∧ NIt P w s.heap left rest ∧ b.toList = done.map (iHash P w) ∧ s' = { s with toks := s.toks + (done.map iDraws).sum })
    _ ?_ ?_ _ _ ⟨[], k, rfl, by simpa using hi, rfl, rfl⟩
  · rintro x rest b s' ⟨done, left, rfl, hl, hb, rfl⟩
    cases left with
    | nil => rw [NIt] at hl; cases hl
    | cons i left =>
      cases i with
      | inl k =>
        rw [NIt] at hl
        obtain ⟨u, us', e, r1, hl⟩ := hl
        cases e
        refine wpAny_bind ((mixKind P w).pyHash r1 ?_)
        first
          | exact wpAny_pure ⟨done ++ [.inl k], left, by simp, hl, by simp [hb, iHash], by simp [Nat.add_assoc, iDraws]⟩
          | exact wpAny_bind (wpAny_pure (wpAny_pure ⟨done ++ [.inl k], left, by simp, hl, by simp [hb, iHash], by simp [Nat.add_assoc, iDraws]⟩))
      | inr l =>
        rw [NIt] at hl
        obtain ⟨c, us', e, r1, hl⟩ := hl
        cases e
        refine wpAny_bind (wpAny_pyHash_tuple (by show A.units + 1 < cLine; omega) r1 ?_)
        first
          | exact wpAny_pure ⟨done ++ [.inr l], left, by simp, hl, by simp [hb, iHash], by simp [Nat.add_assoc, iDraws]⟩
          | exact wpAny_bind (wpAny_pure (wpAny_pure ⟨done ++ [.inr l], left, by simp, hl, by simp [hb, iHash], by simp [Nat.add_assoc, iDraws]⟩))
  · rintro b s' ⟨done, left, rfl, hl, hb, rfl⟩
    have e : left = [] := by
      cases left with
      | nil => rfl
      | cons i left => cases i <;> rw [NIt] at hl <;> obtain ⟨_, _, z, _⟩ := hl <;> cases z
    subst e
    rw [List.append_nil] at h
    show wpAny _ _ (retInt (Builtin.Tuple.tupleHashOf b.toList)) _ _ _
    rw [hb]
    refine wpAny_ret_mkInt ?_
    show wpAny _ _ (if (decide (-(2 : Int) ^ 63 ≤ Builtin.Tuple.tupleHashOf (done.map (iHash P w))) && decide (Builtin.Tuple.tupleHashOf (done.map (iHash P w)) < 2 ^ 63)) = true then _ else _) Q E _
    unfold nkHash reduceHash nkDraws at h
    by_cases hr : (decide (-(2 : Int) ^ 63 ≤ Builtin.Tuple.tupleHashOf (done.map (iHash P w))) && decide (Builtin.Tuple.tupleHashOf (done.map (iHash P w)) < 2 ^ 63)) = true
    · rw [if_pos hr]
      rw [if_pos hr] at h
      exact wpAny_pure (by simpa [Nat.add_assoc] using h)
    · rw [if_neg hr]
      rw [if_neg hr] at h
      exact wpAny_bind (wpAny_rule (wpAny_pure (by simpa [Nat.add_assoc] using h)))
end
noncomputable def nkKind (P : Program) (w : World) : HeapKind P w NK where
  is := IsNK P w
  hash := nkHash P w
  draws := nkDraws
  room := fun A => A.units + 5 < cLine
  inj := fun hx hy => hx.inj hy
  keeps := fun x ho hd hs => x.keeps ho hd hs
  pyHash := fun hu hk h => wpAny_pyHash_nk hu hk h
  eqBool := fun hu hx hy h => wpAny_eqBool_nk hu hx hy h
  quiet := fun hk h => quiet_nk hk h

section
variable {prog : Program} {w : World} {K : Type} [DecidableEq K] {knd : HeapKind prog w K} {A : Around} {E : Value → Shared → Prop} {s : Shared} {d a : Addr} {k : K} {xs : List (K × Addr × Value)}
end
section
variable {prog : Program} {w : World} {K : Type} [DecidableEq K] (knd : HeapKind prog w K) (d a : Addr)
end
end L2
namespace L2
open PySem PySem.Spec PyProof.Rows

section
variable {X : Cx} {scope : Scope} {own : List Str} {caps : List (Str × Nat)} {pins : List (Addr × Obj)} {σ : St} {H : Hp} {s : Shared} {fp : List Addr}
theorem comp_goI {prog : Program} {w : World} {A : Around} {R : Result → Shared → Prop} {elt target iter tst : Expr} {pos : Pos} {it acc : Value} {env : Env} (Iv : Nat → Shared → Prop)
    (turn : ∀ n s, Iv n s → wpAny (model prog w) A (pyNext it) (fun r s₁ => match r with
      | none => R (.ok .next) s₁
      | some v => wpAny (model prog w) A (letOwnedTupleGo target it v) (fun _ s₂ => wpAny (model prog w) A (assign target env v) (fun _ s₃ => wpAny (model prog w) A (isTrue tst env (eval tst env)) (fun ok s₆ => if ok = true then wpAny (model prog w) A (eval elt env) (fun x s₄ =>
              wpAny (model prog w) A (call (.builtin "list.append") [acc, x]) (fun _ s₅ => ∃ m, m < n ∧ Iv m s₅) (fun _ _ => False) s₄) (fun _ _ => False) s₆ else ∃ m, m < n ∧ Iv m s₆) (fun _ _ => False) s₃) (fun _ _ => False) s₂) (fun _ _ => False) s₁) (fun _ _ => False) s)
    (n : Nat) (h : Iv n s) : codeAny (model prog w) A (.compLoop (.ListComp elt [⟨target, iter, [tst], 0⟩] scope pos) 0 it acc env) R s := by
  refine codeAny_loop rfl Iv (fun n s hI => ?_) n h
  show wpAny _ A ((compTurn (.ListComp elt [⟨target, iter, [tst], 0⟩] scope pos) 0 it acc env).onRaise (fun x => do noteFrame x env; theTreesLotGoes x)) _ _ s
  refine wpAny_noted ?_
  rw [compTurn_list]
  refine wpAny_bind (wpAny_standAt (wpAny_bind (wpAny_mono (turn n s hI) (fun r s₁ h₁ => ?_) fun _ _ z => z.elim)))
  cases r with
  | none => exact wpAny_pure h₁
  | some v =>
    refine wpAny_bind (wpAny_mono h₁ (fun _ s₂ h₂ => wpAny_bind (wpAny_mono h₂ (fun _ s₃ h₃ => wpAny_bind (wpAny_tests_one (wpAny_mono h₃ (fun ok s₆ h₆ => ?_) fun _ _ z => z.elim))) fun _ _ z => z.elim)) fun _ _ z => z.elim)
    cases ok with
    | true =>
      have h₆' := (if_pos rfl : (if true = true then _ else _) = _) ▸ h₆
      exact wpAny_bind (wpAny_bind (wpAny_mono h₆' (fun x s₄ h₄ => wpAny_bind (wpAny_mono h₄ (fun _ s₅ h₅ => wpAny_pure (wpAny_pure ⟨rfl, h₅⟩)) fun _ _ z => z.elim)) fun _ _ z => z.elim))
    | false =>
      have h₆' : ∃ m, m < n ∧ Iv m s₆ := h₆
      exact wpAny_bind (wpAny_pure (wpAny_pure ⟨rfl, h₆'⟩))

noncomputable def CompBodyI (J : It) (g : TG) (ct : TT) (te : TE) (τ0 : St) (H1 : Hp) (Q : VK) : Prop := ∀ D, H1 D = none → ∃ W : Nat → Nat → St → List V → Hp → Prop,
  (∃ m, W 0 m τ0 [] (upd H1 D (.lst []))) ∧
  ∀ i m τ ys H, W i m τ ys H → H D = some (.lst ys) ∧ ((J.stop i H ∧ Q (.ref D) H) ∨ (J.go i H ∧ ys.length < sizeLine ∧ ∀ x H', J.yld i H x H' → g x τ H' fun τ2 H2 => ct τ2 H2 fun b H4 => if b = true then te τ2 H4 fun y H3 =>
    H3 D = some (.lst ys) ∧ ∃ m', m' < m ∧ W (i + 1) m' τ2 (ys ++ [y]) (upd H3 D (.lst (ys ++ [y]))) else ∃ m', m' < m ∧ W (i + 1) m' τ2 ys H4))
noncomputable def tCompI (wi : TI) (g : TG) (ct : TT) (te : TE) (k : Nat) (caps : List (Str × Nat)) : TE := fun σ H Q => wi σ H fun J H1 => CompBodyI J g ct te (List.replicate k none ++ capt σ caps) H1 Q

theorem comp_coreI {tg elt iter tst : Expr} {wi : TI} {g : TG} {ct : TT} {te : TE} {pos p2 : Pos} {use : Option (Value → Sem Unit)} {Q : VK} {Q' : Value → Shared → Prop} (S : CompScope X scope own caps) (hi : PI X tg iter wi) (hc : X.calm = true)
    (hg : ∀ fp s H, PG (cxComp X scope (own ++ caps.map (·.1)) fp s H) tg g) (hct : ∀ fp s H, PT (cxComp X scope (own ++ caps.map (·.1)) fp s H) tst ct) (he : ∀ fp s H, PE (cxComp X scope (own ++ caps.map (·.1)) fp s H) elt te)
    (I : Inv X pins σ H s) (h : tCompI wi g ct te own.length caps σ H Q)
    (fin : ∀ D C H5 s5, Inv X pins σ H5 s5 → Q (.ref D) H5 → (∃ m, s5.heap.Ns C m) → H5 C = none → C ≠ X.env.locals → X.s₀.heap.objs.size ≤ C → (∀ x c, X.env.cells.lookup x = some c → c ≠ C) → (∀ p ∈ X.pn ++ pins, p.1 ≠ C) →
      compPost (model X.prog X.w) X.A X.xe use Q' (.ref D) C (.ok .next) s5)
    (hs : ∀ x, foldedSetIterable iter X.env x = pure x := by intro _; rfl) :
    wpAny (model X.prog X.w) X.A (comprehension (.ListComp elt [⟨tg, iter, [tst], 0⟩] scope pos) scope X.env p2 (newList []) false (eval iter X.env) use) Q' X.xe s := by
  have hclos : closureFor scope X.env = pure (capsOf X.env.cells scope.names []) := closure_caps fun y hy hk => I.ok.has y.1 (.inl (S.frees y hy hk))
  refine wpAny_comprehension_free (g := ⟨tg, iter, [tst], 0⟩) (gs := []) rfl hs hclos S.kind S.locs (thn (hi pins s σ H _ I h) fun v s1 h1 => thn h1 fun itv s2 h2 => ?_)
  obtain ⟨it, fp, tn, J, H2, e, I2, T, st2, f2, R⟩ := h2
  subst e
  refine wpAny_newObj_type (wpAny_newFunctionEnv S.nocell (by intro y hy; simp at hy) (fun h₁ hns₁ hsb₁ => ?_) S.kind)
  have fr2 : H2 s2.heap.objs.size = none := I2.hok.fresh (Nat.le_refl _)
  obtain ⟨W, ⟨m0, w0⟩, turn⟩ := R s2.heap.objs.size fr2
  have I3 : Inv X pins σ (upd H2 s2.heap.objs.size (.lst [])) { s2 with heap := s2.heap.push { cls := .type "list", dict := none, data := .seq ([] : List Value).toArray } } := I2.lnew (its := []) (t' := s2.toks) .nil (Nat.zero_le _)
  have lt2 : ∀ b ∈ fp, b < s2.heap.objs.size := fun b hb => by
    obtain ⟨o, ho, _⟩ := T.obj _ _ st2 b hb
    exact Heap.lt_size ho
  have f3 : ∀ b ∈ fp, FpOk X pins (upd H2 s2.heap.objs.size (.lst [])) b := fun b hb => ⟨by rw [upd_ne (Nat.ne_of_lt (lt2 b hb))]; exact (f2 b hb).1, (f2 b hb).2⟩
  generalize hs3 : ({ s2 with heap := s2.heap.push { cls := .type "list", dict := none, data := .seq ([] : List Value).toArray } } : Shared) = s3 at I3
  have hz3 : s3.heap.objs.size = s2.heap.objs.size + 1 := by rw [← hs3]; exact Heap.size_push _ _
  have kp23 : ∀ b o, s2.heap.get? b = some o → s3.heap.get? b = some o := fun b o e => by rw [← hs3]; exact Heap.get?_push_of_some _ e
  have lt3 : ∀ b ∈ fp, b < s3.heap.objs.size := fun b hb => by rw [hz3]; exact Nat.lt_succ_of_lt (lt2 b hb)
  have hns₁' : h₁.Ns s3.heap.objs.size (fun x => ([] : List (Str × Value)).reverse.lookup x) := by rw [← hs3]; exact hns₁
  have kp31 : ∀ b o, s3.heap.get? b = some o → h₁.get? b = some o := fun b o e => by
    have hb : b ≠ s3.heap.objs.size := Nat.ne_of_lt (Heap.lt_size e)
    rw [← hs3] at e hb
    exact hsb₁.extBut b o hb (Heap.get?_push_of_some _ e)
  have J1 := comp_start S I3 f3 lt3 (t := s2.toks + ([] : List (Str × Value)).length) hns₁' kp31
  have st1 : tn 0 h₁ := T.keep _ _ _ st2 fun b hb o e => kp31 b o (kp23 b o e)
  -- the loop
  have loop : ∀ s₃ : Shared, s₃ = { s3 with heap := h₁, toks := s2.toks + ([] : List (Str × Value)).length } →
      codeAny (model X.prog X.w) X.A (.compLoop (.ListComp elt [⟨tg, iter, [tst], 0⟩] scope pos) 0 (.ref it) (.ref s2.heap.objs.size) (cxComp X scope (own ++ caps.map (·.1)) fp s3 (upd H2 s2.heap.objs.size (.lst []))).env)
        (compPost (model X.prog X.w) X.A X.xe use Q' (.ref s2.heap.objs.size) s3.heap.objs.size) s₃ := by
    rintro s₃ rfl
    refine comp_goI (fun n s' => ∃ i τ ys H', Inv (cxComp X scope (own ++ caps.map (·.1)) fp s3 (upd H2 s2.heap.objs.size (.lst []))) [] τ H' s' ∧ tn i s'.heap ∧ (∀ b ∈ fp, H' b = none) ∧ W i n τ ys H') ?_ m0
      ⟨0, _, [], _, J1, st1, fun b hb => (f3 b hb).1, w0⟩
    rintro n s' ⟨i, τ, ys, H', J', st', fr', w'⟩
    have fY : ∀ {H'' : Hp}, (∀ b ∈ fp, H'' b = none) → ∀ b ∈ fp, FpOk (cxComp X scope (own ++ caps.map (·.1)) fp s3 (upd H2 s2.heap.objs.size (.lst []))) [] H'' b := fun hn b hb =>
      ⟨hn b hb, Nat.ne_of_lt (lt3 b hb), fun z => by
          rcases List.mem_cons.mp (I3.stkSub b z) with e | e
          · exact (f3 b hb).2.1 e
          · exact (f3 b hb).2.2.1 e, .inl hb, fun x c e => (f3 b hb).2.2.2.2.1 x c (caps_cells e), (fun p hp => by cases hp)⟩
    obtain ⟨hD, tt⟩ := turn i n τ ys H' w'
    rcases tt with ⟨stop, qn⟩ | ⟨go, hlen, step⟩
    · refine thn (T.done (cxComp X scope (own ++ caps.map (·.1)) fp s3 (upd H2 s2.heap.objs.size (.lst []))) rfl rfl rfl hc i [] s' τ H' (fun _ _ => False) J' (fY fr') st' stop) fun r s4 ⟨hr, J4⟩ => ?_
      subst hr
      obtain ⟨m4, hn4, _⟩ := J4.loc
      have I5 := comp_back I3 J4 f3
      refine fin _ _ _ s4 I5 qn ⟨m4, hn4⟩ J4.free ?_ ?_ (fun x c e z => ?_) fun p hp z => ?_
      · exact Nat.ne_of_gt I3.lt
      · exact I3.sz
      · obtain ⟨v, q⟩ := I3.cell x c e
        rw [z] at q
        exact absurd q.lt (Nat.lt_irrefl _)
      · have q := (I3.pin p hp).1
        rw [z] at q
        exact absurd (Heap.lt_size q) (Nat.lt_irrefl _)
    · refine thn (T.item (cxComp X scope (own ++ caps.map (·.1)) fp s3 (upd H2 s2.heap.objs.size (.lst []))) rfl rfl rfl hc i [] s' τ H' (fun _ _ => False) J' (fY fr') st' go) fun r s4 ⟨u, hr, h4⟩ => ?_
      subst hr
      refine thn h4 fun _ s5 ⟨x, H5, J5, r5, y5, st5, fr5⟩ => ?_
      have J5' := J5.pinned (fY fr5) (T.obj _ _ st5)
      have keepsT : ∀ {τ6 : St} {H8 : Hp} {s8 : Shared}, Inv (cxComp X scope (own ++ caps.map (·.1)) fp s3 (upd H2 s2.heap.objs.size (.lst []))) ([] ++ pinsAt fp s5.heap) τ6 H8 s8 → tn (i + 1) s8.heap ∧ ∀ b ∈ fp, H8 b = none := fun {τ6 H8 s8} J8 => by
        refine ⟨T.keep _ _ _ st5 fun b hb o e => (J8.pin (b, o) (List.mem_append_right _ (List.mem_append_right _ (mem_pinsAt hb e)))).1, fun b hb => ?_⟩
        obtain ⟨o, e, d⟩ := T.obj _ _ st5 b hb
        exact (J8.pin (b, o) (List.mem_append_right _ (List.mem_append_right _ (mem_pinsAt hb e)))).2.1
      refine thn (hg fp s3 _ _ s5 τ H5 x u _ J5' r5 (step x H5 y5)) fun _ s6 ⟨τ6, H6, J6, q6⟩ => ?_
      refine thn (hct fp s3 _ _ s6 τ6 H6 _ J6 q6) fun ok s9 ⟨H9, J9, q9⟩ => ?_
      cases ok with
      | false =>
        obtain ⟨m', hm', w9⟩ := (show ∃ m', m' < n ∧ W (i + 1) m' τ6 ys H9 from q9)
        exact ⟨m', hm', i + 1, τ6, ys, _, J9.unpinned, (keepsT J9).1, (keepsT J9).2, w9⟩
      | true =>
        refine thn (he fp s3 _ _ s9 τ6 H9 _ J9 q9) fun yv s7 ⟨y, H7, J7, r7, hD7, m', hm', w7⟩ => ?_
        refine thn (mt_append (X := cxComp X scope (own ++ caps.map (·.1)) fp s3 (upd H2 s2.heap.objs.size (.lst []))) _ s7 τ6 H7 (.ref s2.heap.objs.size) [y] _ [yv] (fun _ H8 => H8 = upd H7 s2.heap.objs.size (.lst (ys ++ [y]))) J7 rfl (.cons r7 .nil) ⟨_, ys, y, rfl, rfl, hD7, hlen, rfl⟩) fun _ s8 ⟨_, H8, J8, _, e8⟩ => ?_
        subst e8
        exact ⟨m', hm', i + 1, τ6, ys ++ [y], _, J8.unpinned, (keepsT J8).1, (keepsT J8).2, w7⟩
  have hloop := loop _ rfl
  subst hs3
  exact codeAny_compStart_list hloop (T.self _ 0 _ _ _ st1 hloop)
theorem pe_compI {tg elt iter tst : Expr} {wi : TI} {g : TG} {ct : TT} {te : TE} {pos : Pos} (S : CompScope X scope own caps) (hi : PI X tg iter wi) (hc : X.calm = true)
    (hg : ∀ fp s H, PG (cxComp X scope (own ++ caps.map (·.1)) fp s H) tg g) (hct : ∀ fp s H, PT (cxComp X scope (own ++ caps.map (·.1)) fp s H) tst ct) (he : ∀ fp s H, PE (cxComp X scope (own ++ caps.map (·.1)) fp s H) elt te)
    (hs : ∀ x, foldedSetIterable iter X.env x = pure x := by intro _; rfl) : PE X (.ListComp elt [⟨tg, iter, [tst], 0⟩] scope pos) (tCompI wi g ct te own.length caps) := by
  intro pins s σ H Q I h
  rw [eval_ListComp]
  refine comp_coreI (use := none) (Q := Q) S hi hc hg hct he I h (fun D C H5 s5 I5 q ⟨m, hn⟩ hC hL hz hcell hpin => ?_) hs
  refine ⟨m, hn, fun h' hs' => ?_⟩
  exact ⟨.ref D, H5, I5.turned (t' := s5.toks) (fun b o hb e => (hs'.2 b hb).trans e) hC hL (.inr hz) hcell hpin, rfl, q⟩
end
end L2
namespace L2
open PySem PySem.Spec PyProof.Rows

noncomputable def NKs (H : Hp) : NK → List V → Prop
  | [], vs => vs = []
  | .inl k :: ks, vs => ∃ vs', vs = kV k :: vs' ∧ NKs H ks vs'
  | .inr l :: ks, vs => ∃ b vs', vs = V.ref b :: vs' ∧ H b = some (.tup (l.map kV)) ∧ NKs H ks vs'
noncomputable def NKey (H : Hp) (k : NK) (a : Addr) : Prop := ∃ vs, H a = some (.tup vs) ∧ NKs H k vs
theorem NKs.keep {H H' : Hp} (ht : ∀ b ys, H b = some (.tup ys) → H' b = some (.tup ys)) : ∀ {k : NK} {vs : List V}, NKs H k vs → NKs H' k vs
  | [], vs, r => by rw [NKs] at r ⊢; exact r
  | .inl k :: ks, vs, r => by
    rw [NKs] at r ⊢
    obtain ⟨vs', e, r⟩ := r
    exact ⟨vs', e, NKs.keep ht r⟩
  | .inr l :: ks, vs, r => by
    rw [NKs] at r ⊢
    obtain ⟨b, vs', e, q, r⟩ := r
    exact ⟨b, vs', e, ht _ _ q, NKs.keep ht r⟩
theorem NKey.keep {H H' : Hp} {k : NK} {a : Addr} (ht : ∀ b ys, H b = some (.tup ys) → H' b = some (.tup ys)) (r : NKey H k a) : NKey H' k a := by
  obtain ⟨vs, e, r⟩ := r
  exact ⟨vs, ht _ _ e, r.keep ht⟩
section
variable {P : Program} {w : World} {H : Hp} {h : Heap}
theorem nks_of (ok : HOk P w H h) : ∀ {k : NK} {vs : List V} {us : List Value}, NKs H k vs → Vals vs us → NIt P w h k us
  | [], vs, us, r, q => by rw [NKs] at r; subst r; cases q; rw [NIt]
  | .inl k :: ks, vs, us, r, q => by
    rw [NKs] at r
    obtain ⟨vs', rfl, r⟩ := r
    cases q with
    | cons q1 q2 => rw [NIt]; exact ⟨_, _, rfl, kV_is q1, nks_of ok r q2⟩
  | .inr l :: ks, vs, us, r, q => by
    rw [NKs] at r
    obtain ⟨b, vs', rfl, e, r⟩ := r
    cases q with
    | cons q1 q2 =>
      rw [NIt]
      cases (show _ = Value.ref b from q1)
      exact ⟨b, _, rfl, key_of ok e, nks_of ok r q2⟩
theorem nkey_of {k : NK} {a : Addr} (ok : HOk P w H h) (r : NKey H k a) : IsNK P w h k a := by
  obtain ⟨vs, e, r⟩ := r
  obtain ⟨_, its, rv, p⟩ := (show ObjOk P w H h a (.tup vs) from ok a _ e)
  exact ⟨its, p.tup, nks_of ok r rv⟩
end
noncomputable abbrev KN (H : Hp) : List (NK × V) → List (NK × Addr × Value) → Prop := Paired fun p q => p.1 = q.1 ∧ NKey H p.1 q.2.1 ∧ RelV p.2 q.2.2
theorem KN.val {H : Hp} {kvs : List (NK × V)} {xs : List (NK × Addr × Value)} (r : KN H kvs xs) (k : NK) : RelO (valV kvs k) ((atKey xs k).map (·.2)) := by
  induction r with
  | nil => exact True.intro
  | @cons p q ps qs h t ih =>
    obtain ⟨h1, _, h2⟩ := h
    by_cases e : p.1 = k
    · have e' : q.1 = k := h1.symm.trans e
      have b : atKey (q :: qs) k = some q.2 := by simp [atKey, List.find?_cons, e']
      rw [valV_pos e, b]; exact h2
    · have e' : ¬ q.1 = k := fun z => e (h1.trans z)
      have b : atKey (q :: qs) k = atKey qs k := by simp [atKey, List.find?_cons, e']
      rw [valV_neg e, b]; exact ih
theorem KN.keeps {H H' : Hp} {kvs : List (NK × V)} {xs : List (NK × Addr × Value)} (r : KN H kvs xs) (ht : ∀ b ys, H b = some (.tup ys) → H' b = some (.tup ys)) : KN H' kvs xs :=
  Paired.mapP r fun _ _ z => ⟨z.1, z.2.1.keep ht, z.2.2⟩
noncomputable def DN (P : Program) (w : World) (H : Hp) (a : Addr) (kvs : List (NK × V)) : Prop := kvs.length ≤ sizeLine ∧ (a == sysModules) = false ∧ ∃ (xs : List (NK × Addr × Value)) (o : Obj) (es : Array DictEntry) (ep : Nat),
  H a = some (.ext fun h => h.get? a = some o) ∧ KN H kvs xs ∧ o.ExactDict ∧ o.data = .dict es ep ∧ es.toList = xs.map (entryOfKey (nkKind P w)) ∧ (xs.map (·.1)).Nodup
theorem DN.keep {P : Program} {w : World} {H H' : Hp} {a : Addr} {kvs : List (NK × V)} (d : DN P w H a kvs) (ha : ∀ φ, H a = some (.ext φ) → H' a = some (.ext φ)) (ht : ∀ b ys, H b = some (.tup ys) → H' b = some (.tup ys)) : DN P w H' a kvs := by
  obtain ⟨z, hd, xs, o, es, ep, e, r, q⟩ := d
  exact ⟨z, hd, xs, o, es, ep, ha _ e, r.keeps ht, q⟩
theorem DN.same {P : Program} {w : World} {H H' : Hp} {a : Addr} {kvs : List (NK × V)} (d : DN P w H a kvs) (sm : Same H H') : DN P w H' a kvs := d.keep (fun φ => sm _ _) (fun b ys => sm _ _)
theorem DN.ext {P : Program} {w : World} {H : Hp} {a : Addr} {kvs : List (NK × V)} (d : DN P w H a kvs) : ∃ φ, H a = some (.ext φ) := by
  obtain ⟨_, _, xs, o, es, ep, e, _⟩ := d
  exact ⟨_, e⟩
theorem dn_rd {P : Program} {w : World} {H : Hp} {h : Heap} {a : Addr} {kvs : List (NK × V)} (ok : HOk P w H h) (d : DN P w H a kvs) : kvs.length ≤ sizeLine ∧ (a == sysModules) = false ∧
    ∃ xs, KN H kvs xs ∧ h.DictOfH (nkKind P w) a xs := by
  obtain ⟨z, hd, xs, o, es, ep, e, r, h2, h3, h4, h5⟩ := d
  obtain ⟨h1, _⟩ := (show ObjOk P w H h a (.ext fun h => h.get? a = some o) from ok a _ e)
  refine ⟨z, hd, xs, r, o, es, ep, h1, h2, h3, h4, fun x hx => ?_, h5⟩
  have all : ∀ {l : List (NK × V)} {m : List (NK × Addr × Value)}, KN H l m → ∀ x ∈ m, (nkKind P w).is h x.1 x.2.1 := by
    intro l m q
    induction q with
    | nil => intro x hx; exact nomatch hx
    | @cons p q ps qs hq t ih =>
      intro x hx
      rcases List.mem_cons.mp hx with e | hx
      · subst e
        exact nkey_of ok (by rw [← hq.1]; exact hq.2.1)
      · exact ih x hx
  exact all r x hx
theorem ext_ok {P : Program} {w : World} {H : Hp} {h : Heap} {a : Addr} {o : Obj} (e : h.get? a = some o) : ObjOk P w H h a (.ext fun h => h.get? a = some o) := ⟨e, ⟨o, e⟩, fun h1 h2 e1 k => k o e1⟩
section
variable {X : Cx} {pins : List (Addr × Obj)} {σ : St} {H : Hp} {s : Shared} {a b : Addr} {kvs kvs' : List (NK × V)} {k : NK} {y v : V} {u r : Value} {A : Around} {E : Value → Shared → Prop}
theorem dn_write {h' : Heap} {t' : Nat} {xs' : List (NK × Addr × Value)} (I : Inv X pins σ H s) (d : DN X.prog X.w H a kvs) (hs : Heap.SameBut a s.heap h') (dd : h'.DictOfH (nkKind X.prog X.w) a xs') (rel : KN H kvs' xs') (hl : kvs'.length ≤ sizeLine) :
    ∃ φ, Inv X pins σ (upd H a (.ext φ)) { s with heap := h', toks := t' } ∧ DN X.prog X.w (upd H a (.ext φ)) a kvs' := by
  obtain ⟨φ0, e0⟩ := d.ext
  have hd := d.2.1
  obtain ⟨q, es, ep, hq, h2, h3, h4, _, h5⟩ := dd
  have ht : ∀ c ys, H c = some (.tup ys) → (upd H a (.ext fun h => h.get? a = some q)) c = some (.tup ys) := fun c ys ec => by
    rw [upd_ne (ne_of ec e0 (fun z => nomatch z))]
    exact ec
  exact ⟨_, d_write I (by rw [e0]; exact True.intro) hs ⟨q, hq⟩ (ext_ok hq), hl, hd, xs', q, es, ep, upd_same, rel.keeps ht, h2, h3, h4, h5⟩
end
theorem isN_at {X : Cx} {pins : List (Addr × Obj)} {σ : St} {H : Hp} {s : Shared} {a : Addr} (I : Inv X pins σ H s) (d : ∃ kvs, DN X.prog X.w H a kvs) :
    s.TypeIs (.ref a) "dict" ∧ (∀ b, Value.ref a = .ref b → ∃ ob, s.heap.get? b = some ob ∧ ob.dict = none) ∧ (a == sysModules) = false := by
  obtain ⟨kvs, e⟩ := d
  obtain ⟨_, hd, xs, _, dd⟩ := dn_rd I.hok e
  refine ⟨dd.typeIs, fun b q => ?_, hd⟩
  cases q
  obtain ⟨ob, _, _, h1, h2, _⟩ := dd
  exact ⟨ob, h1, h2.2.1⟩
section
variable {X : Cx} {o e f : Expr} {apos cpos : Pos} {td ty tx : TE}
noncomputable def tDNewN (P : Program) (w : World) : TE := fun _ H Q => ∀ p φ, H p = none → DN P w (upd H p (.ext φ)) p [] → Q (.ref p) (upd H p (.ext φ))
theorem pe_dnewN {pos : Pos} : PE X (.Dict [] [] pos) (tDNewN X.prog X.w) := by
  intro pins s σ H Q I h
  have hd : (s.heap.objs.size == sysModules) = false := beq_eq_false_iff_ne.mpr (Ne.symm (Nat.ne_of_lt I.big))
  refine wpAny_Dict_empty ⟨.ref s.heap.objs.size, _, I.laid (a := s.heap.objs.size) (o := .ext fun h => h.get? s.heap.objs.size = some { cls := .type "dict", data := .dict #[] }) (t' := s.toks) (fun _ _ q => Heap.get?_push_of_some _ q) (Nat.le_refl _) (ext_ok (Heap.get?_push_size _ rfl)), rfl, h _ _ (I.hok.fresh (Nat.le_refl _)) ?_⟩
  exact ⟨Nat.zero_le _, hd, [], _, #[], 0, upd_same, .nil, ⟨rfl, rfl, rfl⟩, rfl, rfl, List.nodup_nil⟩
end
end L2
namespace Sw
inductive TM (S : Type) where
  | num (n : Int) | name (x : S) | of (x : S) (as : List Nat)
section
variable {S : Type}
noncomputable def Arms (ts : List (TM S)) : Prop := ∀ (i : Nat) (x : S) (as : List Nat), ts[i]? = some (.of x as) → ∀ a ∈ as, a < i
end
end Sw
namespace L2
open PySem PySem.Spec PyProof.Rows

section
variable {X : Cx}
end
theorem un10 {k : Nat} {A : Around} (hr : Room k A) : A.units + 10 < cLine := by have := hr.un; omega
theorem un101 {k : Nat} {A : Around} (hr : Room k A) : A.units + 151 < cLine := by have := hr.un; omega
inductive J_op_mul_str0 (x : V) (y : V) (H : Hp) (Q : VK) : Prop
  | mk : ∀ z n, (x = .str z) → (y = .int n) → (0 ≤ n) → (n ≤ 1000) → (z.length ≤ 1000) → (Q (.str (timesS z n.toNat)) H) → J_op_mul_str0 x y H Q
theorem op_mul_str0 {X : Cx} : OpR X (binaryOp .Mult) (fun x y H Q => J_op_mul_str0 x y H Q) := by
  intro pins s σ H x y v u Q I rx ry h
  obtain ⟨z, n, rfl, rfl, h1, h2, h3, q⟩ := h
  by_cases h0 : n = 0
  · subst h0
    obtain ⟨t, rfl⟩ := rx
    obtain ⟨t', rfl⟩ := ry
    exact PySem.P.mul_str_none (by omega) (by omega) ⟨.str (timesS z 0), H, I.tok _, ⟨_, rfl⟩, q⟩
  · exact op_mul_str pins s σ H _ _ v u Q I rx ry ⟨z, n, rfl, rfl, by omega, h2, h3, q⟩
theorem compI_range {lo : Int} {n : Nat} {ct : TT} {te : TE} {σ : St} {caps : List (Str × Nat)} {H : Hp} {Q : VK} (f : Int → Option V) (hn : n ≤ 1000)
    (hel : ∀ (i : Nat), i < n → ∀ H', Same H H' → ∀ (R : Bool → Hp → Prop), (R (f (lo + i)).isSome H') → ct (some (.int (lo + i)) :: capt σ caps) H' R)
    (hev : ∀ (i : Nat) v, i < n → f (lo + i) = some v → ∀ H', Same H H' → ∀ Q' : VK, Q' v H' → te (some (.int (lo + i)) :: capt σ caps) H' Q')
    (hq : ∀ D, H D = none → Q (.ref D) (upd H D (.lst ((List.range n).filterMap fun i : Nat => f (lo + i))))) :
    CompBodyI (Itr lo n) (gName 0) ct te (List.replicate 1 none ++ capt σ caps) H Q := by
  intro D hD
  refine ⟨fun i m τ zs H' => m = n - i ∧ i ≤ n ∧ (∃ o, τ = o :: capt σ caps) ∧ zs = (List.range i).filterMap (fun i : Nat => f (lo + i)) ∧ H' = upd H D (.lst zs), ⟨n, by simp, Nat.zero_le _, ⟨none, rfl⟩, by simp, rfl⟩, ?_⟩
  rintro i m τ zs H' ⟨rfl, hi, ⟨o, rfl⟩, rfl, rfl⟩
  refine ⟨upd_same, ?_⟩
  have sm : ∀ zs, Same H (upd H D (.lst zs)) := fun zs => same_new hD _
  by_cases hlt : i < n
  · refine .inr ⟨hlt, ?_, fun x H'' y => ?_⟩
    · refine small1000 (Nat.le_trans (List.length_filterMap_le _ _) ?_)
      rw [List.length_range]; omega
    obtain ⟨e, e2⟩ := y
    subst e e2
    show ct (some (.int (lo + (i : Int))) :: capt σ caps) _ _
    refine hel i hlt _ (sm _) _ ?_
    have step : (List.range (i + 1)).filterMap (fun i : Nat => f (lo + i)) = (List.range i).filterMap (fun i : Nat => f (lo + i)) ++ (match f (lo + i) with | some v => [v] | none => []) := by
      rw [List.range_succ, List.filterMap_append]
      congr 1
      rw [List.filterMap_cons, List.filterMap_nil]
      cases f (lo + (i : Int)) <;> rfl
    cases e : f (lo + (i : Int)) with
    | none =>
      rw [e] at step
      refine ⟨n - (i + 1), by omega, rfl, hlt, ⟨_, rfl⟩, ?_, rfl⟩
      rw [step, List.append_nil]
    | some v =>
      rw [e] at step
      refine hev i v hlt e _ (sm _) _ ?_
      refine ⟨upd_same, n - (i + 1), by omega, rfl, hlt, ⟨_, rfl⟩, step.symm, ?_⟩
      rw [upd_upd]
  · have e : i = n := by omega
    subst e
    exact .inl ⟨Nat.le_refl _, hq D hD⟩
end L2
namespace Sw
open PySem L2
noncomputable abbrev Tm := TM Str
noncomputable abbrev nV (n : Nat) : V := V.int (n : Int)
noncomputable def IsTm (H : Hp) : Tm → V → Prop
  | .num n, v => ∃ a, v = .ref a ∧ H a = some (.tup [.str "num", .int n])
  | .name x, v => ∃ a, v = .ref a ∧ H a = some (.tup [.str "name", .str x])
  | .of x as, v => ∃ a b, v = .ref a ∧ H a = some (.tup [.str "of", .str x, .ref b]) ∧ H b = some (.tup (as.map nV))
theorem IsTm.keep {H H' : Hp} (ht : ∀ b ys, H b = some (.tup ys) → H' b = some (.tup ys)) : ∀ {t : Tm} {v : V}, IsTm H t v → IsTm H' t v
  | .num n, v, h => by obtain ⟨a, e, h⟩ := h; exact ⟨a, e, ht _ _ h⟩
  | .name x, v, h => by obtain ⟨a, e, h⟩ := h; exact ⟨a, e, ht _ _ h⟩
  | .of x as, v, h => by obtain ⟨a, b, e, h, h2⟩ := h; exact ⟨a, b, e, ht _ _ h, ht _ _ h2⟩
noncomputable abbrev Tms (H : Hp) : List V → List Tm → Prop := Paired fun v t => IsTm H t v
theorem tms_keep {H H' : Hp} {us : List V} {ts : List Tm} (ht : ∀ b ys, H b = some (.tup ys) → H' b = some (.tup ys)) (h : Tms H us ts) : Tms H' us ts := Paired.mapP h fun _ _ z => z.keep ht
theorem tms_same {H H' : Hp} {us : List V} {ts : List Tm} (sm : Same H H') (h : Tms H us ts) : Tms H' us ts := tms_keep (fun b ys => sm _ _) h
theorem tms_at {H : Hp} : ∀ {us : List V} {ts : List Tm} {i : Nat} {v : V}, Tms H us ts → us[i]? = some v → ∃ t, ts[i]? = some t ∧ IsTm H t v
  | _, _, _, _, .nil, e => by simp at e
  | _, _, 0, _, .cons h _, e => by simp at e; subst e; exact ⟨_, rfl, h⟩
  | _, _, i + 1, v, .cons _ r, e => by
    obtain ⟨t, e', h⟩ := tms_at (i := i) (v := v) r (by simpa using e)
    exact ⟨t, by simpa using e', h⟩
theorem tms_snoc {H : Hp} {us : List V} {ts : List Tm} {v : V} {t : Tm} (h : Tms H us ts) (q : IsTm H t v) : Tms H (us ++ [v]) (ts ++ [t]) := Paired.snoc h q
noncomputable def tmNK : Tm → NK
  | .num n => [.inl (.inr "num"), .inl (.inl n)]
  | .name x => [.inl (.inr "name"), .inl (.inr x)]
  | .of x as => [.inl (.inr "of"), .inl (.inr x), .inr (as.map fun n : Nat => (.inl (n : Int) : Key))]
theorem tmNK_inj : ∀ {t u : Tm}, tmNK t = tmNK u → t = u
  | .num n, .num m, e => by unfold tmNK at e; simp at e; rw [e]
  | .name x, .name y, e => by unfold tmNK at e; simp at e; rw [e]
  | .of x as, .of y bs, e => by
    unfold tmNK at e
    simp only [List.cons.injEq, Sum.inl.injEq, Sum.inr.injEq, and_true, true_and] at e
    rw [e.1]
    have := map_inj_of (f := fun n : Nat => (.inl (n : Int) : Key)) (fun a b h => by have h := Sum.inl.inj h; omega) e.2
    rw [this]
  | .num n, .name y, e => by
    unfold tmNK at e
    simp only [List.cons.injEq, Sum.inl.injEq, Sum.inr.injEq] at e
    exact absurd e.1 (by decide)
  | .name n, .num y, e => by
    unfold tmNK at e
    simp only [List.cons.injEq, Sum.inl.injEq, Sum.inr.injEq] at e
    exact absurd e.1 (by decide)
  | .num n, .of y bs, e => by unfold tmNK at e; simp at e
  | .name n, .of y bs, e => by unfold tmNK at e; simp at e
  | .of y bs, .num n, e => by unfold tmNK at e; simp at e
  | .of y bs, .name n, e => by unfold tmNK at e; simp at e
theorem nV_kV (as : List Nat) : as.map nV = (as.map fun n : Nat => (.inl (n : Int) : Key)).map kV := by
  rw [List.map_map]; rfl
theorem IsTm.key {H : Hp} : ∀ {t : Tm} {v : V}, IsTm H t v → ∃ b, v = .ref b ∧ NKey H (tmNK t) b
  | .num n, v, h => by
    obtain ⟨a, e, h⟩ := h
    refine ⟨a, e, _, h, ?_⟩
    exact ⟨_, rfl, _, rfl, rfl⟩
  | .name x, v, h => by
    obtain ⟨a, e, h⟩ := h
    refine ⟨a, e, _, h, ?_⟩
    exact ⟨_, rfl, _, rfl, rfl⟩
  | .of x as, v, h => by
    obtain ⟨a, b, e, h, h2⟩ := h
    refine ⟨a, e, _, h, ?_⟩
    rw [nV_kV] at h2
    exact ⟨_, rfl, _, rfl, b, _, rfl, h2, rfl⟩
noncomputable def tmD : Tm → D
  | .num n => .tup [.str "num", .int n]
  | .name x => .tup [.str "name", .str x]
  | .of x as => .tup [.str "of", .str x, .tup (as.map fun n : Nat => .int (n : Int))]
theorem dens_ints {H : Hp} : ∀ as : List Nat, Dens H (as.map fun n : Nat => D.int (n : Int)) (as.map nV)
  | [] => by rw [List.map_nil, List.map_nil]; exact dens_nil
  | a :: as => by rw [List.map_cons, List.map_cons]; exact dens_cons (by rw [Den]; exact .inl rfl) (dens_ints as)
theorem IsTm.den {H : Hp} : ∀ {t : Tm} {v : V}, IsTm H t v → Den H (tmD t) v
  | .num n, v, h => by
    obtain ⟨a, e, h⟩ := h
    rw [tmD, Den]
    exact ⟨a, _, e, h, dens_cons (by rw [Den]) (dens_cons (by rw [Den]; exact .inl rfl) dens_nil)⟩
  | .name x, v, h => by
    obtain ⟨a, e, h⟩ := h
    rw [tmD, Den]
    exact ⟨a, _, e, h, dens_cons (by rw [Den]) (dens_cons (by rw [Den]) dens_nil)⟩
  | .of x as, v, h => by
    obtain ⟨a, b, e, h, h2⟩ := h
    rw [tmD, Den]
    exact ⟨a, _, e, h, dens_cons (by rw [Den]) (dens_cons (by rw [Den]) (dens_cons (by rw [Den]; exact ⟨b, _, rfl, h2, dens_ints as⟩) dens_nil))⟩
theorem tms_den {H : Hp} {us : List V} {ts : List Tm} (h : Tms H us ts) : Dens H (ts.map tmD) us := by
  induction h with
  | nil => exact dens_nil
  | cons h _ ih => rw [List.map_cons]; exact dens_cons h.den ih
theorem ints_deep : ∀ as : List Nat, D.deeps (as.map fun n : Nat => D.int (n : Int)) = 0
  | [] => by rw [List.map_nil, D.deeps]
  | a :: as => by rw [List.map_cons, D.deeps, ints_deep as, D.deep]; rfl
theorem tm_deep : ∀ t : Tm, (tmD t).deep ≤ 2
  | .num n => by rw [tmD, D.deep, D.deeps, D.deeps, D.deeps, D.deep, D.deep]; decide
  | .name n => by rw [tmD, D.deep, D.deeps, D.deeps, D.deeps, D.deep, D.deep]; decide
  | .of x as => by rw [tmD, D.deep, D.deeps, D.deeps, D.deeps, D.deeps, D.deep, D.deep, D.deep, ints_deep]; decide
theorem tms_deep : ∀ ts : List Tm, D.deeps (ts.map tmD) ≤ 2
  | [] => by rw [List.map_nil, D.deeps]; omega
  | t :: ts => by rw [List.map_cons, D.deeps]; have := tms_deep ts; have := tm_deep t; omega
theorem tmD_inj : ∀ {t u : Tm}, tmD t = tmD u → t = u
  | .num n, .num m, e => by unfold tmD at e; simp at e; rw [e]
  | .name x, .name y, e => by unfold tmD at e; simp at e; rw [e]
  | .of x as, .of y bs, e => by
    unfold tmD at e
    simp only [D.tup.injEq, List.cons.injEq, D.str.injEq, and_true, true_and] at e
    rw [e.1]
    have := map_inj_of (f := fun n : Nat => D.int (n : Int)) (fun a b h => by have h := D.int.inj h; omega) e.2
    rw [this]
  | .num n, .name y, e => by
    unfold tmD at e
    simp only [D.tup.injEq, List.cons.injEq, D.str.injEq] at e
    exact absurd e.1 (by decide)
  | .name n, .num y, e => by
    unfold tmD at e
    simp only [D.tup.injEq, List.cons.injEq, D.str.injEq] at e
    exact absurd e.1 (by decide)
  | .num n, .of y bs, e => by unfold tmD at e; simp at e
  | .name n, .of y bs, e => by unfold tmD at e; simp at e
  | .of y bs, .num n, e => by unfold tmD at e; simp at e
  | .of y bs, .name n, e => by unfold tmD at e; simp at e
noncomputable def But (L : Addr) (H H' : Hp) : Prop := ∀ c o, c ≠ L → H c = some o → H' c = some o
theorem But.refl (L : Addr) (H : Hp) : But L H H := fun _ _ _ h => h
theorem But.put {L : Addr} {H H1 : Hp} {o : HO} (a : But L H H1) : But L H (upd H1 L o) := fun c u n h => by rw [upd_ne n]; exact a c u n h
theorem But.tup {L : Addr} {H H1 : Hp} {ls : List V} (a : But L H H1) (hL : H L = some (.lst ls)) : ∀ b ys, H b = some (.tup ys) → H1 b = some (.tup ys) := fun b ys h => a b _ (ne_of h hL (fun z => nomatch z)) h
theorem rd_cut {t rest : TS} {D : Ends} {σ : St} {H : Hp} (R : St → Hp → Prop) (key : ∀ σ' H', R σ' H' → rest D σ' H') (h : ∀ {N : St → Hp → Prop}, (∀ σ' H', R σ' H' → N σ' H') → t { D with nx := N } σ H) : tSeq t rest D σ H := h key
noncomputable def vI : V → Int
  | .int c => c
  | _ => 0
noncomputable def drawF (c f m : Int) : Int := (c % 2147483647 + 5) * f % 2147483629 / 89 % m
theorem drawF_nn (c f : Int) {m : Int} (h : 0 < m) : 0 ≤ drawF c f m := Int.emod_nonneg _ (by omega)
theorem drawF_lt (c f : Int) {m : Int} (h : 0 < m) : drawF c f m < m := Int.emod_lt_of_pos _ h
noncomputable def abc : Str := "abcdefghijklmnopqrstuvwxyz"
noncomputable def letF (i : Int) : Str := ⟨#[abc.cps.toList.getD (i % 26).toNat 97]⟩
theorem abcF_at (i : Int) : atI abc.cps.toList (i % 26) = some (abc.cps.toList.getD (i % 26).toNat 97) := by
  have h0 : 0 ≤ i % 26 := Int.emod_nonneg _ (by decide)
  have h1 : i % 26 < 26 := Int.emod_lt_of_pos _ (by decide)
  have hl : abc.cps.toList.length = 26 := by decide +kernel
  have hi : (i % 26).toNat < abc.cps.toList.length := by omega
  have z : atI abc.cps.toList (((i % 26).toNat : Nat) : Int) = some abc.cps.toList[(i % 26).toNat] := atI_nat (List.getElem?_eq_getElem hi)
  have e : (((i % 26).toNat : Nat) : Int) = i % 26 := by omega
  rw [e] at z
  rw [z, List.getD_eq_getElem?_getD, List.getElem?_eq_getElem hi]
  rfl
noncomputable def wordF (s k : Int) : Str := timesS (letF (s / 64)) (s / 8 % (1 + s % 8)).toNat ++ letF (s / 1664 + k) ++ timesS (letF (s / 64)) (1 + s % 8 - 1 - s / 8 % (1 + s % 8)).toNat
noncomputable def leafF (s c : Int) : Tm :=
  if drawF c 69621 4 = 0 then .num (c % (2 * 10 ^ 60 - 1) - (10 ^ 60 - 1))
  else if drawF c 69621 4 = 1 then .num (drawF c 40692 5 - 2)
  else .name (wordF s (drawF c 40692 4))
noncomputable def termF (s c : Int) (many : Nat) : Tm :=
  if many = 0 ∨ drawF c 48271 8 < 3 then leafF s c
  else .of (wordF s (drawF c 1664525 3)) ((List.range (1 + drawF c 16807 13 / 4).toNat).map fun j : Nat => (drawF c (((j : Int) + 2) * 742938285) many).toNat)
noncomputable def stepF (s : Int) (ts : List Tm) (x : V) : List Tm := if tmD (termF s (vI x) ts.length) ∈ ts.map tmD then ts else ts ++ [termF s (vI x) ts.length]
noncomputable def termsF (s : Int) (cs : List V) : List Tm := cs.foldl (stepF s) []
theorem leafF_of (s c : Int) (x : Str) (as : List Nat) : leafF s c ≠ .of x as := by
  unfold leafF
  split
  · intro z; cases z
  · split
    · intro z; cases z
    · intro z; cases z
theorem termF_of {s c : Int} {many : Nat} {x : Str} {as : List Nat} (h : termF s c many = .of x as) : as.length ≤ 4 ∧ 1 ≤ as.length ∧ ∀ a ∈ as, a < many := by
  unfold termF at h
  by_cases hc : many = 0 ∨ drawF c 48271 8 < 3
  · rw [if_pos hc] at h; exact absurd h (leafF_of _ _ _ _)
  · rw [if_neg hc] at h
    injection h with h1 h2
    subst h2
    have hm : 0 < many := by omega
    have n1 := drawF_nn c 16807 (m := 13) (by decide)
    have n2 := drawF_lt c 16807 (m := 13) (by decide)
    refine ⟨?_, ?_, fun a ha => ?_⟩
    · rw [List.length_map, List.length_range]; omega
    · rw [List.length_map, List.length_range]; omega
    · obtain ⟨j, _, rfl⟩ := List.mem_map.mp ha
      have a1 := drawF_nn c (((j : Int) + 2) * 742938285) (m := many) (by omega)
      have a2 := drawF_lt c (((j : Int) + 2) * 742938285) (m := many) (by omega)
      omega
noncomputable def TsOk (ts : List Tm) : Prop := Arms ts ∧ (∀ (i : Nat) x as, ts[i]? = some (.of x as) → as.length ≤ 4 ∧ 1 ≤ as.length) ∧ ts.Nodup
theorem tsok_nil : TsOk [] := ⟨fun i x as h => by simp at h, fun i x as h => by simp at h, List.nodup_nil⟩
theorem tsok_step {s : Int} {ts : List Tm} (h : TsOk ts) (x : V) : TsOk (stepF s ts x) := by
  unfold stepF
  split
  · exact h
  · rename_i hn
    have key : ∀ (i : Nat) y as, (ts ++ [termF s (vI x) ts.length])[i]? = some (.of y as) → ts[i]? = some (.of y as) ∨ (i = ts.length ∧ termF s (vI x) ts.length = .of y as) := fun i y as e => by
      by_cases hi : i < ts.length
      · rw [List.getElem?_append_left hi] at e; exact .inl e
      · rw [List.getElem?_append_right (by omega)] at e
        by_cases h0 : i - ts.length = 0
        · rw [h0] at e
          exact .inr ⟨by omega, by simpa using e⟩
        · rw [List.getElem?_eq_none (by simp; omega)] at e; cases e
    refine ⟨fun i y as e a ha => ?_, fun i y as e => ?_, ?_⟩
    · rcases key i y as e with e' | ⟨rfl, e'⟩
      · exact h.1 i y as e' a ha
      · exact (termF_of e').2.2 a ha
    · rcases key i y as e with e' | ⟨rfl, e'⟩
      · exact h.2.1 i y as e'
      · exact ⟨(termF_of e').1, (termF_of e').2.1⟩
    · rw [List.nodup_append]
      refine ⟨h.2.2, by simp, fun a ha b hb => ?_⟩
      rw [List.mem_singleton.mp hb]
      intro e
      exact hn (List.mem_map.mpr ⟨a, ha, by rw [e]⟩)
theorem tsok_fold {s : Int} : ∀ (cs : List V) {ts : List Tm}, TsOk ts → TsOk (cs.foldl (stepF s) ts)
  | [], _, h => h
  | c :: cs, _, h => tsok_fold cs (tsok_step h c)
theorem tsok (s : Int) (cs : List V) : TsOk (termsF s cs) := tsok_fold cs tsok_nil
theorem step_len (s : Int) (ts : List Tm) (x : V) : (stepF s ts x).length ≤ ts.length + 1 := by
  unfold stepF
  split
  · omega
  · rw [List.length_append]; simp
theorem fold_len (s : Int) : ∀ (cs : List V) (ts : List Tm), (cs.foldl (stepF s) ts).length ≤ ts.length + cs.length
  | [], _ => Nat.le_refl _
  | c :: cs, ts => by
    have h1 := fold_len s cs (stepF s ts c)
    have h2 := step_len s ts c
    rw [List.foldl_cons, List.length_cons]
    omega
theorem termsF_len (s : Int) (cs : List V) : (termsF s cs).length ≤ cs.length := by have := fold_len s cs []; rw [List.length_nil, Nat.zero_add] at this; exact this
noncomputable def oddC (ns : List Int) (k : Int) : Option V := if k % 2 = 1 then some (V.int (ns.getD k.toNat 0)) else none
noncomputable def cells1 (ns : List Int) : List V := cutV ((List.range ns.length).filterMap fun i : Nat => oddC ns (0 + (i : Int))) none (some 32)
theorem cutV_mem {xs : List V} {lo hi : Option Int} {x : V} (h : x ∈ cutV xs lo hi) : x ∈ xs := List.mem_of_mem_drop (List.mem_of_mem_take h)
theorem cells1_int {ns : List Int} {x : V} (h : x ∈ cells1 ns) : ∃ c : Int, x = .int c := by
  obtain ⟨i, _, e⟩ := List.mem_filterMap.mp (cutV_mem h)
  unfold oddC at e
  split at e
  · exact ⟨_, (Option.some.inj e).symm⟩
  · cases e
theorem cells1_len (ns : List Int) : (cells1 ns).length ≤ ns.length := by
  refine Nat.le_trans (cutV_length _ _ _) (Nat.le_trans (List.length_filterMap_le _ _) ?_)
  rw [List.length_range]; exact Nat.le_refl _
theorem cut_take {xs : List V} {k : Nat} (h : k ≤ xs.length) : cutV xs none (some (k : Int)) = xs.take k := by
  unfold cutV
  rw [HT.sIx_nat, HT.sIx_none, Nat.min_eq_left h, List.drop_zero, Nat.sub_zero]
end Sw
namespace Sw
open PySem L2


inductive T where
  | num (n : Int)
  | name (w : Str)
  | any (w : Str)
  | of (w : Str) (ts : List T)
mutual
noncomputable def T.depth : T → Nat
  | .num _ => 1
  | .name _ => 1
  | .any _ => 1
  | .of _ ts => 1 + T.deepest ts
noncomputable def T.deepest : List T → Nat
  | [] => 0
  | t :: ts => max t.depth (T.deepest ts)
end
theorem deepest_le : ∀ {ts : List T} {t : T}, t ∈ ts → t.depth ≤ T.deepest ts
  | t' :: ts, t, h => by
    rw [T.deepest]
    rcases List.mem_cons.mp h with rfl | h
    · exact Nat.le_max_left _ _
    · exact Nat.le_trans (deepest_le h) (Nat.le_max_right _ _)
theorem depth_pos : ∀ t : T, 1 ≤ t.depth
  | .num _ => by rw [T.depth]; exact Nat.le_refl _
  | .name _ => by rw [T.depth]; exact Nat.le_refl _
  | .any _ => by rw [T.depth]; exact Nat.le_refl _
  | .of _ ts => by rw [T.depth]; omega

mutual
noncomputable def IsTr (H : Hp) : T → V → Prop
  | .num n, v => ∃ a, v = .ref a ∧ H a = some (.tup [.str "num", .int n])
  | .name w, v => ∃ a, v = .ref a ∧ H a = some (.tup [.str "name", .str w])
  | .any w, v => ∃ a, v = .ref a ∧ H a = some (.tup [.str "any", .str w])
  | .of w ts, v => ∃ a b vs, v = .ref a ∧ H a = some (.tup [.str "of", .str w, .ref b]) ∧ H b = some (.tup vs) ∧ IsTrs H ts vs
noncomputable def IsTrs (H : Hp) : List T → List V → Prop
  | [], vs => vs = []
  | t :: ts, vs => ∃ v r, vs = v :: r ∧ IsTr H t v ∧ IsTrs H ts r
end
mutual
theorem tr_keep {H H' : Hp} (k : ∀ a xs, H a = some (.tup xs) → H' a = some (.tup xs)) : ∀ {t : T} {v : V}, IsTr H t v → IsTr H' t v
  | .num n, v, h => by
    rw [IsTr] at h ⊢
    obtain ⟨a, e, h⟩ := h
    exact ⟨a, e, k _ _ h⟩
  | .name n, v, h => by
    rw [IsTr] at h ⊢
    obtain ⟨a, e, h⟩ := h
    exact ⟨a, e, k _ _ h⟩
  | .any n, v, h => by
    rw [IsTr] at h ⊢
    obtain ⟨a, e, h⟩ := h
    exact ⟨a, e, k _ _ h⟩
  | .of w ts, v, h => by
    rw [IsTr] at h ⊢
    obtain ⟨a, b, vs, e, h1, h2, h3⟩ := h
    exact ⟨a, b, vs, e, k _ _ h1, k _ _ h2, trs_keep k h3⟩
theorem trs_keep {H H' : Hp} (k : ∀ a xs, H a = some (.tup xs) → H' a = some (.tup xs)) : ∀ {ts : List T} {vs : List V}, IsTrs H ts vs → IsTrs H' ts vs
  | [], vs, h => by rw [IsTrs] at h ⊢; exact h
  | t :: ts, vs, h => by
    rw [IsTrs] at h ⊢
    obtain ⟨v, r, e, h1, h2⟩ := h
    exact ⟨v, r, e, tr_keep k h1, trs_keep k h2⟩
end
theorem trs_len {H : Hp} : ∀ {ts : List T} {vs : List V}, IsTrs H ts vs → ts.length = vs.length
  | [], vs, h => by rw [IsTrs] at h; subst h; rfl
  | t :: ts, vs, h => by
    rw [IsTrs] at h
    obtain ⟨v, r, rfl, _, h2⟩ := h
    rw [List.length_cons, List.length_cons, trs_len h2]
theorem trs_at {H : Hp} : ∀ {ts : List T} {vs : List V} {i : Nat} {v : V}, IsTrs H ts vs → vs[i]? = some v → ∃ t, ts[i]? = some t ∧ IsTr H t v
  | [], vs, i, v, h, e => by rw [IsTrs] at h; subst h; simp at e
  | t :: ts, vs, i, v, h, e => by
    rw [IsTrs] at h
    obtain ⟨v', r, rfl, h1, h2⟩ := h
    cases i with
    | zero => simp at e; subst e; exact ⟨t, rfl, h1⟩
    | succ i => simpa using trs_at (i := i) h2 (by simpa using e)

end Sw
namespace L2
open PySem PySem.Spec PyProof.Rows

section
variable {prog : Program} {w : World} {K : Type} [DecidableEq K] {knd : HeapKind prog w K} {A : Around} {E : Value → Shared → Prop} {s : Shared} {d : Addr} {xs : List (K × Addr × Value)}
end
section
variable {X : Cx} {pins : List (Addr × Obj)} {σ : St} {H : Hp} {s : Shared} {a b : Addr} {kvs kvs' : List (NK × V)} {k : NK} {y v : V} {u r : Value} {A : Around} {E : Value → Shared → Prop}
theorem KN.repl {xs : List (NK × Addr × Value)} (r : KN H kvs xs) (k : NK) {y : V} {u : Value} (ry : RelV y u) :
    KN H (kvs.map fun kv => if kv.1 = k then (kv.1, y) else kv) (xs.map (putAt k u)) := by
  induction r with
  | nil => exact .nil
  | @cons p q ps qs h t ih =>
    rw [List.map_cons, List.map_cons]
    refine .cons ?_ ih
    obtain ⟨h1, h2, h3⟩ := h
    unfold putAt
    by_cases e : p.1 = k
    · rw [if_pos e, if_pos (h1.symm.trans e)]; exact ⟨h1, h2, ry⟩
    · rw [if_neg e, if_neg (fun z => e (h1.trans z))]; exact ⟨h1, h2, h3⟩
theorem KN.put {xs : List (NK × Addr × Value)} (r : KN H kvs xs) (k : NK) {b : Addr} {y : V} {u : Value} (hb : NKey H k b) (ry : RelV y u) :
    KN H (putK kvs k y) (storedH xs k b u) := by
  have e : (kvs.any fun kv => decide (kv.1 = k)) = (atKey xs k).isSome := by
    rw [valV_any, (r.val k).isSome_eq, Option.isSome_map]
  unfold putK storedH
  rw [e]
  by_cases q : (atKey xs k).isSome = true
  · rw [if_pos q, if_pos q]; exact r.repl k ry
  · rw [if_neg q, if_neg q]; exact Paired.snoc r ⟨rfl, hb, ry⟩
theorem dn_getItem {Q : Value → Shared → Prop} (hu : A.units + 10 < cLine) (I : Inv X pins σ H s) (d : DN X.prog X.w H a kvs) (nk : NKey H k b) (l : valV kvs k = some v) (h : ∀ w' s', Inv X pins σ H s' → RelV v w' → Q w' s') :
    wpAny (model X.prog X.w) A (getItem (.ref a) (.ref b)) Q E s := by
  obtain ⟨z, hd, xs, rel, dd⟩ := dn_rd I.hok d
  obtain ⟨w', hw, rw'⟩ := RelO.some_of (v := v) (o := (atKey xs k).map (·.2)) (by rw [← l]; exact rel.val k)
  obtain ⟨p, hp, hp2⟩ := Option.map_eq_some_iff.mp hw
  refine wpAny_getItem_heap (show A.units + 1 + 5 < cLine by omega) (nkey_of I.hok nk) dd hp ?_
  rw [hp2]
  exact h w' _ (I.tok _) rw'
theorem dn_notIn {Q : Value → Shared → Prop} (hu : A.units + 10 < cLine) (I : Inv X pins σ H s) (d : DN X.prog X.w H a kvs) (nk : NKey H k b) (h : ∀ s', Inv X pins σ H s' → Q (.bool (!(valV kvs k).isSome)) s') :
    wpAny (model X.prog X.w) A (compareOp .NotIn (.ref b) (.ref a)) Q E s := by
  obtain ⟨z, hd, xs, rel, dd⟩ := dn_rd I.hok d
  refine wpAny_notIn_heap (show A.units + 1 + 5 < cLine by omega) (nkey_of I.hok nk) hd dd ?_
  have q := (rel.val k).isSome_eq
  rw [Option.isSome_map] at q
  rw [← q]
  exact h _ (I.tok _)
theorem dn_setItem {Q : Unit → Shared → Prop} (hu : A.units + 10 < cLine) (I : Inv X pins σ H s) (d : DN X.prog X.w H a kvs) (nk : NKey H k b) (rv : RelV v r) (hl : kvs.length < sizeLine)
    (h : ∀ φ s', Inv X pins σ (upd H a (.ext φ)) s' → DN X.prog X.w (upd H a (.ext φ)) a (putK kvs k v) → Q () s') :
    wpAny (model X.prog X.w) A (setItem (.ref a) (.ref b) r) Q E s := by
  obtain ⟨z, hd, xs, rel, dd⟩ := dn_rd I.hok d
  have hz : xs.length ≤ sizeLine := by rw [← Paired.length rel]; exact z
  have hl' : (putK kvs k v).length ≤ sizeLine := by have := length_putK kvs k v; omega
  refine wpAny_setItem_heap (hsz := hz) (show A.units + 1 + 5 < cLine by omega) (nkey_of I.hok nk) dd fun h' dd' hs => ?_
  obtain ⟨φ, I', d'⟩ := dn_write (t' := s.toks + (nkKind X.prog X.w).draws k) I d hs dd' (rel.put k nk rv) hl'
  exact h φ _ I' d'
end
inductive J_tNGet (P : Program) (w : World) (Q : VK) (x : V) (y : V) (H2 : Hp) : Prop
  | mk : ∀ a b kvs k v, (x = .ref a) → (y = .ref b) → (DN P w H2 a kvs) → (NKey H2 k b) → (valV kvs k = some v) → (Q v H2) → J_tNGet P w Q x y H2
noncomputable def tNGet (P : Program) (w : World) (td ty : TE) : TE := fun σ H Q => td σ H fun x H1 => ty σ H1 fun y H2 => J_tNGet P w Q x y H2
inductive J_tNNotIn (P : Program) (w : World) (Q : VK) (y : V) (x : V) (H2 : Hp) : Prop
  | mk : ∀ a b kvs k, (x = .ref a) → (y = .ref b) → (DN P w H2 a kvs) → (NKey H2 k b) → (Q (.bl (!(valV kvs k).isSome)) H2) → J_tNNotIn P w Q y x H2
noncomputable def tNNotIn (P : Program) (w : World) (ty td : TE) : TE := fun σ H Q => ty σ H fun y H1 => td σ H1 fun x H2 => J_tNNotIn P w Q y x H2
inductive J_sNPut (P : Program) (w : World) (D : Ends) (σ : St) (v : V) (x : V) (y : V) (H3 : Hp) : Prop
  | mk : ∀ a b kvs k, (x = .ref a) → (y = .ref b) → (DN P w H3 a kvs) → (NKey H3 k b) → (kvs.length < sizeLine) → (∀ φ, DN P w (upd H3 a (.ext φ)) a (putK kvs k v) → D.nx σ (upd H3 a (.ext φ))) → J_sNPut P w D σ v x y H3
noncomputable def sNPut (P : Program) (w : World) (td ty tv : TE) : TS := fun D σ H => tv σ H fun v H1 => td σ H1 fun x H2 => ty σ H2 fun y H3 => J_sNPut P w D σ v x y H3
section
variable {X : Cx} {o i e f value : Expr} {pos pos' apos cpos : Pos} {td ty tv : TE}
theorem dn_typeIs {pins : List (Addr × Obj)} {σ : St} {H : Hp} {s : Shared} {a : Addr} {kvs : List (NK × V)} (I : Inv X pins σ H s) (d : DN X.prog X.w H a kvs) : s.TypeIs (.ref a) "dict" := (isN_at I ⟨kvs, d⟩).1
theorem pe_nget (hu : X.A.units + 10 < cLine) (ho : PE X o td) (hi : PE X i ty) (hs : NoSl i) : PE X (.Subscript o i pos) (tNGet X.prog X.w td ty) := by
  intro pins s σ H Q I h
  refine subD_of PySem.F.slot_dict_getitem.lookup hs (thn (ho pins s σ H _ I h) fun u s1 ⟨x, H1, I1, rx, q1⟩ => thn (hi pins s1 σ H1 _ I1 q1) fun iv s2 ⟨y, H2, I2, ry, a, b, kvs, k, v, ex, ey, d, nk, l, q2⟩ => ?_)
  subst ex ey
  obtain rfl : u = Value.ref a := rx
  obtain rfl : iv = Value.ref b := ry
  exact ⟨dn_typeIs I2 d, dn_getItem hu I2 d nk l fun w' s3 I3 rw' => ⟨v, H2, I3, rw', q2⟩⟩
theorem pc_nnotin (hu : X.A.units + 10 < cLine) (hi : PE X i ty) (ho : PE X o td) : PC X .NotIn i o (tNNotIn X.prog X.w ty td) := by
  intro pins s σ H Q I h
  refine thn (hi pins s σ H _ I h) fun iv s1 ⟨y, H1, I1, ry, q1⟩ => thn (ho pins s1 σ H1 _ I1 q1) fun u s2 ⟨x, H2, I2, rx, a, b, kvs, k, ex, ey, d, nk, q2⟩ => ?_
  subst ex ey
  obtain rfl : u = Value.ref a := rx
  obtain rfl : iv = Value.ref b := ry
  exact dn_notIn hu I2 d nk fun s3 I3 => ⟨.bl (!(valV kvs k).isSome), H2, I3, rfl, q2⟩
theorem ps_nput (hu : X.A.units + 10 < cLine) (ho : PE X o td) (hi : PE X i ty) (hv : PE X value tv) (hs : swapsWith value (some (.Subscript o i pos')) pos.line X.env = pure false) :
    PS X (.Assign [.Subscript o i pos'] value pos) (sNPut X.prog X.w td ty tv) := by
  intro pins s σ H D I h
  refine wpAny_Assign_Subscript (thn (hv pins s σ H _ I h) fun r s1 ⟨v, H1, I1, rv, q1⟩ => thn (ho pins s1 σ H1 _ I1 q1) fun u s2 ⟨x, H2, I2, rx, q2⟩ => thn (hi pins s2 σ H2 _ I2 q2) fun iv s3 ⟨y, H3, I3, ry, a, b, kvs, k, ex, ey, d, nk, hl, q3⟩ => ?_) hs
  subst ex ey
  obtain rfl : u = Value.ref a := rx
  obtain rfl : iv = Value.ref b := ry
  exact dn_setItem hu I3 d nk rv hl fun φ s4 I4 d4 => ⟨σ, _, I4, q3 φ d4⟩
end
end L2
namespace L2
open PySem PySem.Spec PyProof.Rows

section
variable {X : Cx}
variable {o : Expr} {apos cpos : Pos} {td : TE}
end
section
variable {X : Cx} {tg l : Expr} {tl : TE}
end
end L2
namespace L2
open PySem PySem.Spec PyProof.Rows

section
variable {X : Cx} {pins : List (Addr × Obj)} {σ : St} {H : Hp} {s : Shared} {a : Addr} {kvs : List (Key × V)} {k : Key} {v : V} {u r : Value} {A : Around} {E : Value → Shared → Prop}
end
section
variable {X : Cx} {o e f : Expr} {apos cpos : Pos} {td ty tx : TE}
end
theorem boot_dict_ : bootBuiltins "dict" = some (.type "dict") := by decide +kernel
end L2
namespace PySem
section
variable {prog : Program} {w : World} {A : Around} {E : Value → Shared → Prop} {s : Shared}
end
section
variable {prog : Program} {w : World} {A : Around} {s : Shared} {R : Result → Shared → Prop} {I l : Addr} {items : Array Value}
end
section
variable {prog : Program} {w : World} {A : Around} {E : Value → Shared → Prop} {s : Shared} {I l : Addr} {items : Array Value}
end
end PySem
namespace L2
open PySem PySem.Spec PyProof.Rows
theorem vals_at {xs : List V} {us : List Value} (r : Vals xs us) : ∀ {j : Nat} {x : V} {u : Value}, xs[j]? = some x → us[j]? = some u → RelV x u := by
  induction r with
  | nil => intro j x u h; simp at h
  | cons h t ih =>
    intro j x u hx hu
    cases j with
    | zero => simp at hx hu; subst hx hu; exact h
    | succ j => exact ih (j := j) (by simpa using hx) (by simpa using hu)
theorem passNo {X : Cx} : Passes (CXE X.prog X.w) X E0 := fun pins σ H s e s' I h => by
  obtain ⟨_, _, _, _, _, _, _, _, _, _, _, _, _, _, q⟩ := h
  exact False.elim q
structure FunD (K : PySem.W.Frag) (x qual : Str) (st : Stmt) (f : Addr) (fd : FuncData) : Prop where
  ex : ∃ (oc : Value) (od : Option Addr) (dV kV doc pm : Value) (an : Option Addr) (cdv ct : Value) (osl : Array (Option Value)),
    fd = PySem.W.fnOf x qual (defArgs st) (defBody st) (defScope st) dV kV doc pm an cdv ct ∧ K.lookup f = some ⟨oc, od, .func fd, osl⟩ ∧ PySem.W.codeIn K cdv qual = true
structure HasMd (P : Program) (w : World) (K : PySem.W.Frag) (mg : Str → Option Value) (base : Heap) (k : Nat) (C : Addr) (m : Str) (ps : List Str) (dvs : List V) (sp : Sp) : Prop where
  ex : ∃ f fd ds, FnOk P w K mg base (CXE P w) k f fd ps sp ∧ Meth K C m f ∧ Binds K fd ps ds ∧ Vals dvs ds
theorem pe_mEd {X : Cx} {k k' : Nat} {m : Str} {C : Addr} {ps : List Str} {dvs : List V} {sp : Sp} {pos apos : Pos} {e o : Expr} {es : List Expr} {ta : TE} {t : TA} {E : XK} {pl : Sem Bool} (h : HasMd X.prog X.w X.K X.mg X.base k C m ps dvs sp) (c : Cls X.K C) (hr : Room k' X.A) (hk : k ≤ k') (hx : Passes (CXE X.prog X.w) X E) (he : PE X o ta) (ha : PA X (e :: es) t)
    (hst : starEach (e :: es) X.env = (false, eval e X.env) :: starEach es X.env := by rfl) (hpl : (backTo pos (starEach es X.env)).any (·.1) = false := by rfl)
    (ht : eval (.Call (.Attribute o m apos) (e :: es) [] pos) X.env = (do
      let ov ← eval o X.env
      standAt apos.atName
      let (f, first) ← holding [ov] (getMethod ov m pl)
      callWith pos f first (backTo pos (starEach (e :: es) X.env)) (backToKw pos (keywordEach [] X.env))) := by rfl) :
    PE X (.Call (.Attribute o m apos) (e :: es) [] pos) (tMeth C m sp dvs E ta t) := by
  obtain ⟨f, fd, ds, F, hm, hb, hv⟩ := h.ex
  exact pe_meth he c hm F (hr.mono hk) hb hv hx ha hst hpl ht
inductive J_rEqNil (x : V) (y : V) (H : Hp) (Q : VK) : Prop
  | mk : ∀ a b zs, (x = .ref a) → (y = .ref b) → (H a = some (.lst zs)) → (H b = some (.lst [])) → (Q (.bl zs.isEmpty) H) → J_rEqNil x y H Q
noncomputable def rEqNil : R2 := fun x y H Q => J_rEqNil x y H Q
theorem op_eqNil {X : Cx} (hu : X.A.units < cLine) : OpR X (compareOp .Eq) rEqNil := by
  intro pins s σ H x y v u Q I rx ry h
  obtain ⟨a, b, zs, rfl, rfl, ha, hb, q⟩ := h
  cases (show v = Value.ref a from rx)
  cases (show u = Value.ref b from ry)
  obtain ⟨_, us, c, r, e⟩ := (show ObjOk X.prog X.w H s.heap a (.lst zs) from I.hok a _ ha)
  obtain ⟨_, us', c', r', e'⟩ := (show ObjOk X.prog X.w H s.heap b (.lst []) from I.hok b _ hb)
  cases r'
  have p : s.heap.IsList a us.toArray := ⟨_, e, rfl, _, rfl⟩
  have p' : s.heap.IsList b (List.toArray ([] : List Value)) := ⟨_, e', rfl, _, rfl⟩
  have hl := r.length
  cases zs with
  | nil =>
    have hu' : us = [] := List.eq_nil_of_length_eq_zero hl.symm
    subst hu'
    refine SeqAt.eq_listAt (e := fun _ => true) p p' rfl hu (fun j h1 => absurd h1 (by simp)) ?_
    exact ⟨.bl true, H, I, rfl, q⟩
  | cons z zs =>
    refine SeqAt.eq_list_lengthsAt p p' (by simp only [List.size_toArray]; rw [← hl]; simp) hu ?_
    exact ⟨.bl false, H, I, rfl, q⟩
end L2
namespace Sw
open PySem L2
noncomputable def posF : List Tm → Tm → Option Nat
  | [], _ => none
  | u :: ts, t => if tmD u = tmD t then some 0 else (posF ts t).map (· + 1)
theorem pos_at : ∀ {ts : List Tm} {t : Tm} {i : Nat}, posF ts t = some i → ts[i]? = some t
  | [], _, _, h => by rw [posF] at h; cases h
  | u :: ts, t, i, h => by
    rw [posF] at h
    by_cases e : tmD u = tmD t
    · rw [if_pos e] at h; cases h; rw [tmD_inj e]; rfl
    · rw [if_neg e] at h
      cases q : posF ts t with
      | none => rw [q] at h; cases h
      | some j => rw [q] at h; cases h; simpa using pos_at q
theorem pos_none : ∀ {ts : List Tm} {t : Tm}, posF ts t = none ↔ t ∉ ts
  | [], t => by rw [posF]; simp
  | u :: ts, t => by
    rw [posF]
    by_cases e : tmD u = tmD t
    · rw [if_pos e, tmD_inj e]; simp
    · rw [if_neg e, Option.map_eq_none_iff, pos_none, List.mem_cons, not_or]
      exact ⟨fun h => ⟨fun z => e (by rw [z]), h⟩, fun h => h.2⟩
theorem pos_app : ∀ (ts : List Tm) (u t : Tm), posF (ts ++ [u]) t = match posF ts t with
    | some i => some i
    | none => if tmD u = tmD t then some ts.length else none
  | [], u, t => by rw [List.nil_append, posF, posF, posF]; rfl
  | x :: ts, u, t => by
    rw [List.cons_append, posF, posF, pos_app ts u t]
    by_cases e : tmD x = tmD t
    · rw [if_pos e, if_pos e]
    · rw [if_neg e, if_neg e]
      cases posF ts t with
      | some j => rfl
      | none =>
        by_cases e2 : tmD u = tmD t
        · simp [e2]
        · simp [e2]
theorem pos_first : ∀ {ts : List Tm} {t : Tm} {i : Nat}, posF ts t = some i → ∀ j, j < i → ts[j]? ≠ some t
  | [], _, _, h => by rw [posF] at h; cases h
  | u :: ts, t, i, h => by
    rw [posF] at h
    by_cases e : tmD u = tmD t
    · rw [if_pos e] at h; cases h; intro j hj; omega
    · rw [if_neg e] at h
      cases q : posF ts t with
      | none => rw [q] at h; cases h
      | some k =>
        rw [q] at h; cases h
        intro j hj
        cases j with
        | zero => simp; exact fun z => e (by rw [z])
        | succ j => simpa using pos_first q j (Nat.lt_of_succ_lt_succ hj)
theorem pos_is {ts : List Tm} {t : Tm} {i : Nat} (h : ts[i]? = some t) (hf : ∀ j, j < i → ts[j]? ≠ some t) : posF ts t = some i := by
  cases q : posF ts t with
  | none => exact absurd (List.mem_of_getElem? h) (pos_none.mp q)
  | some k =>
    have h1 := pos_first q
    have h2 := pos_at q
    rcases Nat.lt_trichotomy i k with z | z | z
    · exact absurd h (h1 i z)
    · rw [z]
    · exact absurd h2 (hf k z)
noncomputable def addF (ts : List Tm) (t : Tm) : List Tm × Nat := match posF ts t with
  | some i => (ts, i)
  | none => (ts ++ [t], ts.length)
theorem add_old {ts : List Tm} {t : Tm} {i : Nat} (h : posF ts t = some i) : addF ts t = (ts, i) := by unfold addF; rw [h]
theorem add_new {ts : List Tm} {t : Tm} (h : posF ts t = none) : addF ts t = (ts ++ [t], ts.length) := by unfold addF; rw [h]
theorem add_pre (ts : List Tm) (t : Tm) : ts <+: (addF ts t).1 := by
  cases h : posF ts t with
  | some i => rw [add_old h]; exact List.prefix_refl _
  | none => rw [add_new h]; exact List.prefix_append _ _
mutual
noncomputable def ptF (bf : Str → Nat) : List Tm → T → List Tm × Nat
  | ts, .any w => (ts, bf w)
  | ts, .num n => addF ts (.num n)
  | ts, .name w => addF ts (.name w)
  | ts, .of w as => addF (ptsF bf ts as).1 (.of w (ptsF bf ts as).2)
noncomputable def ptsF (bf : Str → Nat) : List Tm → List T → List Tm × List Nat
  | ts, [] => (ts, [])
  | ts, t :: as => ((ptsF bf (ptF bf ts t).1 as).1, (ptF bf ts t).2 :: (ptsF bf (ptF bf ts t).1 as).2)
end
theorem puts_snoc (bf : Str → Nat) : ∀ (as : List T) (ts : List Tm) (t : T), ptsF bf ts (as ++ [t]) = ((ptF bf (ptsF bf ts as).1 t).1, (ptsF bf ts as).2 ++ [(ptF bf (ptsF bf ts as).1 t).2])
  | [], ts, t => by rw [List.nil_append, ptsF, ptsF, ptsF]; rfl
  | a :: as, ts, t => by rw [List.cons_append, ptsF, ptsF, puts_snoc bf as]; rfl
theorem puts_len (bf : Str → Nat) : ∀ (as : List T) (ts : List Tm), (ptsF bf ts as).2.length = as.length
  | [], ts => by rw [ptsF]; rfl
  | a :: as, ts => by rw [ptsF]; simp [puts_len bf as]
mutual
theorem put_pre (bf : Str → Nat) : ∀ (t : T) (ts : List Tm), ts <+: (ptF bf ts t).1
  | .any w, ts => by rw [ptF]; exact List.prefix_refl _
  | .num n, ts => by rw [ptF]; exact add_pre _ _
  | .name n, ts => by rw [ptF]; exact add_pre _ _
  | .of w as, ts => by rw [ptF]; exact (puts_pre bf as ts).trans (add_pre _ _)
theorem puts_pre (bf : Str → Nat) : ∀ (as : List T) (ts : List Tm), ts <+: (ptsF bf ts as).1
  | [], ts => by rw [ptsF]; exact List.prefix_refl _
  | a :: as, ts => by rw [ptsF]; exact (put_pre bf a ts).trans (puts_pre bf as _)
end
theorem puts_app (bf : Str → Nat) : ∀ (as bs : List T) (ts : List Tm), (ptsF bf ts (as ++ bs)).1 = (ptsF bf (ptsF bf ts as).1 bs).1
  | [], bs, ts => by rw [List.nil_append, ptsF]
  | a :: as, bs, ts => by rw [List.cons_append, ptsF, ptsF]; exact puts_app bf as bs _
theorem puts_take (bf : Str → Nat) (as : List T) (ts : List Tm) (i : Nat) : (ptsF bf ts (as.take i)).1 <+: (ptsF bf ts as).1 := by
  conv => rhs; rw [← List.take_append_drop i as]
  rw [puts_app]
  exact puts_pre _ _ _
noncomputable def But2 (L M : Addr) (H H' : Hp) : Prop := ∀ c o, c ≠ L → c ≠ M → H c = some o → H' c = some o
theorem But2.refl (L M : Addr) (H : Hp) : But2 L M H H := fun _ _ _ _ h => h
theorem But2.trans {L M : Addr} {H H1 H2 : Hp} (a : But2 L M H H1) (b : But2 L M H1 H2) : But2 L M H H2 := fun c o n m h => b c o n m (a c o n m h)
theorem But2.same {L M : Addr} {H H1 H2 : Hp} (a : But2 L M H H1) (b : Same H1 H2) : But2 L M H H2 := fun c o n m h => b c o (a c o n m h)
theorem Same.but2 {L M : Addr} {H H1 : Hp} (b : Same H H1) : But2 L M H H1 := fun c o n m h => b c o h
noncomputable def BankAt (P : Program) (w : World) (CB : Addr) (H : Hp) (b dx L M : Addr) (room : Int) (ts : List Tm) : Prop :=
  H b = some (.ins CB dx [("room", .int room), ("terms", .ref L), ("places", .ref M)]) ∧ (∃ us, H L = some (.lst us) ∧ Tms H us ts) ∧
  ∃ kvs, DN P w H M kvs ∧ kvs.length = ts.length ∧ ∀ t, valV kvs (tmNK t) = (posF ts t).map nV
theorem BankAt.same {P : Program} {w : World} {CB : Addr} {H H' : Hp} {b dx L M : Addr} {room : Int} {ts : List Tm} (h : BankAt P w CB H b dx L M room ts) (sm : Same H H') : BankAt P w CB H' b dx L M room ts := by
  obtain ⟨h1, ⟨us, h2, h3⟩, kvs, h4, h5, h6⟩ := h
  exact ⟨sm _ _ h1, ⟨us, sm _ _ h2, tms_same sm h3⟩, kvs, h4.same sm, h5, h6⟩
theorem BankAt.ne {P : Program} {w : World} {CB : Addr} {H : Hp} {b dx L M : Addr} {room : Int} {ts : List Tm} (h : BankAt P w CB H b dx L M room ts) : L ≠ M ∧ b ≠ L ∧ b ≠ M := by
  obtain ⟨h1, ⟨us, h2, h3⟩, kvs, h4, h5, h6⟩ := h
  obtain ⟨φ, e⟩ := h4.ext
  exact ⟨ne_of h2 e (fun z => nomatch z), ne_of h1 h2 (fun z => nomatch z), ne_of h1 e (fun z => nomatch z)⟩
theorem BankAt.tup {P : Program} {w : World} {CB : Addr} {H H' : Hp} {b dx L M : Addr} {room : Int} {ts : List Tm} (h : BankAt P w CB H b dx L M room ts) (bt : But2 L M H H') : ∀ c ys, H c = some (.tup ys) → H' c = some (.tup ys) := by
  obtain ⟨h1, ⟨us, h2, h3⟩, kvs, h4, h5, h6⟩ := h
  obtain ⟨φ, e⟩ := h4.ext
  exact fun c ys z => bt c _ (ne_of z h2 (fun z => nomatch z)) (ne_of z e (fun z => nomatch z)) z
theorem BankAt.keep {P : Program} {w : World} {CB : Addr} {H H' : Hp} {b dx L M : Addr} {room : Int} {ts : List Tm} {R : Addr} {us : List V} (h : BankAt P w CB H b dx L M room ts) (hR : H R = some (.lst us)) (hn : R ≠ L) (bt : But R H H') : BankAt P w CB H' b dx L M room ts := by
  obtain ⟨h1, ⟨us, h2, h3⟩, kvs, h4, h5, h6⟩ := h
  have ht : ∀ c ys, H c = some (.tup ys) → H' c = some (.tup ys) := bt.tup hR
  obtain ⟨φ, e⟩ := h4.ext
  exact ⟨bt _ _ (ne_of h1 hR (fun z => nomatch z)) h1, ⟨us, bt _ _ (Ne.symm hn) h2, tms_keep ht h3⟩, kvs, h4.keep (fun φ' z => bt _ _ (ne_of z hR (fun z => nomatch z)) z) ht, h5, h6⟩
mutual
noncomputable def T.hol : T → List Str
  | .num _ => []
  | .name _ => []
  | .any w => [w]
  | .of _ ts => T.hols ts
noncomputable def T.hols : List T → List Str
  | [] => []
  | t :: ts => t.hol ++ T.hols ts
end
theorem hols_mem : ∀ {ts : List T} {t : T} {w : Str}, t ∈ ts → w ∈ t.hol → w ∈ T.hols ts
  | a :: ts, t, w, h, e => by
    rw [T.hols]
    rcases List.mem_cons.mp h with z | z
    · subst z; exact List.mem_append_left _ e
    · exact List.mem_append_right _ (hols_mem z e)
noncomputable def BOk (H : Hp) (bv : V) (bf : Str → Nat) (l : List Str) : Prop := ∀ w ∈ l, ∃ D kvs, bv = .ref D ∧ H D = some (.dK kvs) ∧ valV kvs (.inr w) = some (nV (bf w))
theorem BankAt.bok {P : Program} {w : World} {CB : Addr} {H H' : Hp} {b dx L M : Addr} {room : Int} {ts : List Tm} {bv : V} {bf : Str → Nat} {l : List Str} (h : BankAt P w CB H b dx L M room ts) (bt : But2 L M H H') (q : BOk H bv bf l) : BOk H' bv bf l := fun x hx => by
  obtain ⟨D, kvs, e, hD, hv⟩ := q x hx
  obtain ⟨h1, ⟨us, h2, h3⟩, kvs', h4, h5, h6⟩ := h
  obtain ⟨φ, e4⟩ := h4.ext
  exact ⟨D, kvs, e, bt _ _ (ne_of hD h2 (fun z => nomatch z)) (ne_of hD e4 (fun z => nomatch z)) hD, hv⟩
theorem tm_of {H : Hp} {x : Str} {as : List Nat} {a b : Addr} (h : H a = some (.tup [.str "of", .str x, .ref b])) (h2 : H b = some (.tup (as.map nV))) : IsTm H (.of x as) (.ref a) := ⟨a, b, rfl, h, h2⟩
mutual
noncomputable def T.Slim : T → Prop
  | .num _ => True
  | .name _ => True
  | .any _ => True
  | .of _ ts => ts.length ≤ 900 ∧ T.Slims ts
noncomputable def T.Slims : List T → Prop
  | [] => True
  | t :: ts => t.Slim ∧ T.Slims ts
end
theorem slims_all : ∀ {ts : List T}, T.Slims ts ↔ ∀ t ∈ ts, t.Slim
  | [] => by rw [T.Slims]; simp
  | t :: ts => by rw [T.Slims, slims_all]; simp
end Sw
namespace L2
open PySem PySem.Spec PyProof.Rows
end L2
namespace L2
open PySem PySem.Spec PyProof.Rows
end L2
namespace L2
open PySem PySem.Spec PyProof.Rows
section
variable {X : Cx}
inductive J_call_dictK (xs : List V) (H : Hp) (Q : VK) : Prop
  | mk : ∀ p kvs, (xs = [.ref p]) → (H p = some (.dK kvs)) → (∀ l, H l = none → Q (.ref l) (upd H l (.dK kvs))) → J_call_dictK xs H Q
theorem call_dictK : CallR X (.type "dict") (fun xs H Q => J_call_dictK xs H Q) := by
  intro pins s σ H xs us Q I r h
  obtain ⟨p, kvs, rfl, e, q⟩ := h
  obtain ⟨u, rfl, rx⟩ := vals1 r
  cases rx
  obtain ⟨z, y, vs, rel, dd⟩ := (show ObjOk X.prog X.w H s.heap p (.dK kvs) from I.hok p _ e)
  have hl := rel.length
  refine kt_call_dict y dd (by rw [← hl]; exact z) fun h' hm hs => ?_
  have kp : ∀ b o', s.heap.get? b = some o' → h'.get? b = some o' := fun b o' e' => by
    have hb : b ≠ s.heap.objs.size := fun z => absurd (Heap.lt_size e') (by rw [z]; exact Nat.lt_irrefl _)
    have h1 := Heap.get?_push_of_some { cls := .type "dict", data := .dict #[] } e'
    rw [hs.2 b hb]
    exact h1
  exact ⟨.ref s.heap.objs.size, _, I.laid (t' := s.toks) kp (Nat.le_refl _) (show ObjOk X.prog X.w _ h' _ (.dK kvs) from ⟨z, beq_eq_false_iff_ne.mpr (Ne.symm (Nat.ne_of_lt I.big)), vs, rel, hm⟩), rfl, q _ (I.hok.fresh (Nat.le_refl _))⟩
end
section
variable {P : Program} {w : World} {A : Around} {s : Shared}
open SeqAt MeetsSeq MeetsSeq2 MeetsSeq3 SeqRoads2
open AutoSeq1 (wpAny_loadPart')
theorem valV_mem {kvs : List (Key × V)} (hn : (kvs.map (·.1)).Nodup) : ∀ kv ∈ kvs, valV kvs kv.1 = some kv.2 := by
  induction kvs with
  | nil => intro kv h; cases h
  | cons p r ih =>
    intro kv h
    rw [List.map_cons, List.nodup_cons] at hn
    rcases List.mem_cons.mp h with rfl | h
    · exact valV_pos rfl
    · rw [valV_neg (fun e => hn.1 (by rw [e]; exact List.mem_map.mpr ⟨kv, h, rfl⟩))]
      exact ih hn.2 kv h
theorem hits_same {kvs : List (Key × V)} {kb : List (Key × Value)} (r : KV kvs kb) {sub : List (Key × V)} {kc : List (Key × Value)} (q : KV sub kc) (h : ∀ kv ∈ sub, valV kvs kv.1 = some kv.2 ∧ ∃ n, kv.2 = .int n) : PySem.W.KeqHits A s kb kc true := by
  unfold KV at q
  induction q with
  | nil => exact .nil
  | @cons p c ps cs e t ih =>
    obtain ⟨k, u⟩ := c
    obtain ⟨e1, e2⟩ := e
    obtain ⟨h1, n, hn⟩ := h p List.mem_cons_self
    have hv := r.val p.1
    rw [h1, hn] at hv
    rw [hn] at e2
    obtain ⟨tk, e2⟩ := e2
    cases hva : valueAt kb p.1 with
    | none => rw [hva] at hv; exact (show False from hv).elim
    | some y =>
      rw [hva] at hv
      obtain ⟨tk', hy⟩ := (show RelV (.int n) y from hv)
      have e1' : p.1 = k := e1
      have e2' : u = Value.int n tk := e2
      subst e2'
      subst hy
      rw [e1'] at hva
      have z := PySem.W.KeqHits.hit (A := A) (s := s) hva (EqAt.int_int n tk n tk') (ih fun kv hm => h kv (List.mem_cons_of_mem _ hm))
      rw [beq_self_eq_true, Bool.true_and] at z
      exact z
end
end L2
namespace L2
open PySem PySem.W PySem.Calls PyProof.Rows
end L2
namespace L2
open PySem PySem.Spec PyProof.Rows
section
variable {X : Cx} {k : Nat} {y : Str} {p pos : Pos} {e : Expr} {es : List Expr} {tv : TE} {t : TA}
end
end L2
namespace L2
open PySem PySem.Spec PyProof.Rows
section
variable {prog : Program} {w : World} {A : Around} {R : Result → Shared → Prop} {I : Addr} {fp wr : List Addr} {n : Nat} {P : Nat → Value → Prop} {St : Nat → Heap → Prop} {kw : List (Str × Value)} {G : Heap → Prop}
end
section
variable {X : Cx} {e : Expr} {te : TE} {p pos kp cp : Pos} {j : Nat}
end
end L2
namespace L2
open PySem PySem.Spec PyProof.Rows
section
variable {prog : Program} {w : World} {A : Around} {R : Result → Shared → Prop} {I : Addr} {fp wr : List Addr} {n : Nat} {P : Nat → Value → Prop} {St : Nat → Heap → Prop} {kw : List (Str × Value)} {G : Heap → Prop}
end
section
variable {X : Cx} {e : Expr} {te : TE} {p pos kp cp : Pos} {j : Nat} {d : Int}
end

end L2
namespace HT
open PySem PySem.Spec PyProof.Rows
section
variable {prog : Program} {w : World} {A : Around} {E : Value → Shared → Prop} {s : Shared}
end
end HT
namespace L2
open PySem PySem.Spec PyProof.Rows
section
variable {X : Cx}
end
noncomputable def tTryU (K : PySem.W.Frag) (CH : Addr) (tb : XK → TS) (th : TS) : TS := fun D σ H =>
  tb (fun cls _ H' => ∃ C, cls = .ref C ∧ PySem.W.exmOne K (.ref C) (.ref CH) = some true ∧ ∀ ea, H' ea = none → th D σ (upd H' ea (XO ea C))) D σ H
theorem ps_tryU {X : Cx} {body : List Stmt} {tb : XK → TS} {th : TS} {x : Str} {CH : Addr} {b₀ : Stmt} {suite : List Stmt} {np hpos pos : Pos} (hst : X.stack = X.env :: X.outer ∧ X.env.frame = some X.env.locals)
    (hg : Gl X x) (hm : X.mg x = some (.ref CH)) (hb : PSt X body tb)
    (hh : ∀ ea : Addr, PSs (X.uncalm (X.A.mark (some (.ref ea))) fun _ _ => False) (b₀ :: suite) th) (hd : (x == ("__debug__" : Str)) = false := by decide) :
    PS X (.Try body [.ExceptHandler (some (.Name x np)) none (b₀ :: suite) hpos] [] [] pos) (tTryU X.K CH tb th) := by
  intro pins s σ H D I h
  refine wpAny_Try_except (wpAny_mono (hb _ pins s σ H D _ ?W I h) (fun f s1 q => ?_) fun _ _ z => z)
  case W =>
    intro H0 s0 e s' I0 hx
    obtain ⟨ea, C, a0, B, H', rfl, fl, os, bare, hok, un, cov, _, _, C', hc, hex, hth⟩ := hx
    cases hc
    have hfr : X.A.frames = some (X.env :: X.outer) := by rw [I0.ok.frames, hst.1]
    have fl0 : Heap.FlyingW B (X.env :: X.outer) ea (.ref C) a0 s'.heap := by rw [← hst.1]; exact fl
    refine wpAny_looks_onW hfr hst.2 fl0 fun h₄ held₄ sm₄ => ?_
    refine wpAny_landsW held₄ fun h₅ fl₅ sm₅ => ?_
    obtain ⟨o5, vs5, g1, g2, g3, _⟩ := fl₅.first
    obtain ⟨I5, hea⟩ := caught_inv (h5 := h₅) I0 fl os bare hok un cov fl₅.1 (sm₄.trans sm₅) ⟨o5, vs5, g1, g2, g3⟩
    have J5 : Inv (X.uncalm (X.A.mark (some (.ref ea))) fun _ _ => False) pins σ (upd H' ea (XO ea C)) { s' with heap := h₅ } := I5.uncalm rfl
    refine wpAny_handleBy_cons (codeAny_handlers_test (ld_glob J5 hg hm ?_ hd)) (by intro q; cases q)
    have LT : PySem.W.Looks (model X.prog X.w) h₅ (typeOf (.ref ea)) (.ref C) := g2 ▸ (PySem.W.Looks.ld g1).andThen .now
    refine (PySem.W.exm_one (M := model X.prog X.w) I5.kIn LT hex).at ?_
    show codeAny _ _ _ _ _
    refine codeAny_handlers_suite ?_
    refine lands_againW fl₅ fun h₆ fl₆ sm₆ => ?_
    obtain ⟨o6, vs6, j1, j2, j3, _⟩ := fl₆.first
    obtain ⟨I6, _⟩ := caught_inv (h5 := h₆) I0 fl os bare hok un cov fl₆.1 ((sm₄.trans sm₅).trans sm₆) ⟨o6, vs6, j1, j2, j3⟩
    refine wpAny_mono (hh ea pins _ _ _ _ (I6.uncalm rfl) (hth ea hea)) (fun f s8 q8 => ?_) fun _ _ z => False.elim z
    have back : ∀ {σ' H''} {s9 : Shared}, Inv (X.uncalm (X.A.mark (some (.ref ea))) fun _ _ => False) pins σ' H'' s9 → Inv X pins σ' H'' s9 := fun J => J.recalm I0.ok.hd rfl
    cases f with
    | next =>
      obtain ⟨σ', H'', J, q⟩ := q8
      exact ⟨_, _, back J, q⟩
    | brk =>
      obtain ⟨σ', H'', J, q⟩ := q8
      exact ⟨_, _, back J, q⟩
    | cont =>
      obtain ⟨σ', H'', J, q⟩ := q8
      exact ⟨_, _, back J, q⟩
    | ret u =>
      obtain ⟨v, σ', H'', J, r, q⟩ := q8
      exact ⟨v, _, _, back J, r, q⟩
  cases f with
  | next => exact wpAny_execs_nil q
  | brk => exact q
  | cont => exact q
  | ret u => exact q
end L2
namespace L2
open PySem PySem.Spec PyProof.Rows

theorem entry_unchain : entryFor table "proto.unchain" = some Builtin.«proto.unchain» := entryFor_of_tree (by kernel_rfl)
section
variable {prog : Program} {w : World} {A : Around} {E : Value → Shared → Prop} {s : Shared}
theorem unchain_off {e ha : Addr} {Q : Value → Shared → Prop} (c : Ctx0 s.heap ha) (q : Q .none s) : wpAny (model prog w) A (runValue (.builtin "proto.unchain" ⟨[.ref e, .ref ha, .ref ha, .bool false], []⟩)) Q E s := by
  obtain ⟨o, vs, g, d, z⟩ := c
  refine wpAny_runValue (codeAny_builtin entry_unchain ?_)
  unfold Builtin.«proto.unchain»
  dsimp only
  refine wpAny_bind (wpAny_field g d z ?_)
  rw [if_pos (by rfl)]
  exact wpAny_pure (a := Fin.done (.ret .none)) q
theorem raiseNew_in {α : Type} {e ha : Addr} {oe : Obj} {vs : Array Value} {Q : α → Shared → Prop} (hh : A.handled = some (.ref ha)) (ne : e ≠ ha) (c : Ctx0 s.heap ha) (ge : s.heap.get? e = some oe) (gd : oe.data = .fields vs) (gz : 2 < vs.size)
    (q : E (.ref e) { s with heap := s.heap.update e (Obj.mapFields (·.setIfInBounds 2 (.ref ha))) }) : wpAny (model prog w) A (raiseNew (.ref e) : Sem α) Q E s := by
  unfold raiseNew
  refine wpAny_bind (wpAny_handled ?_)
  rw [hh]
  dsimp only
  have hn : (Value.ref ha != Value.ref e) = true := by simp [Ne.symm ne]
  rw [if_pos hn]
  refine wpAny_bind (wpAny_holding (unchain_off c ?_))
  refine wpAny_bind ?_
  show wpAny _ _ (setField (.ref e) 2 (.ref ha)) _ _ _
  exact wpAny_setField ge gd gz (wpAny_throw q)
end
section
variable {M : Model} {A : Around} {E : Value → Shared → Prop} {qn nm : Str} {N C : Addr} {bm bs : List Value} {hdct ab : Bool} {sn : List Str} {sub : List Value} {col : Option Bool} {dd : Option Addr} {k0 k1 k2 k3 k5 : Option Value} {newId : String}
theorem excFrom_made {h : Heap} {g : Array GenState} {d : Drawn} {tk : Nat} {os : OsState} {e : Addr} {ar : Array Value} {msg : String} {Q : Value → Shared → Prop} (hbase : bm.contains (.type "BaseException") = true)
    (gC : h.get? C = some (excClassObj nm qn C N bs bm hdct sn sub ab col dd k0 k1 k2 k3 k5 newId)) (ge : h.get? e = some { cls := .ref C, data := .fields ar }) (q : Q (.ref e) ⟨h, g, d, tk, os⟩) : wpAny M A (excFromValue (.ref e) msg) Q E ⟨h, g, d, tk, os⟩ := by
  have hcB : (Value.ref C :: bm).contains (.type "BaseException") = true := by rw [List.contains_cons, hbase, Bool.or_true]
  unfold excFromValue
  repeat (first | wp_step | with_reducible refine wpAny_loadPart_at ge ?_ | with_reducible refine wpAny_loadPart_at gC ?_ | (with_reducible refine wpAny_isSubtype_exc gC ?_; rw [hcB]))
  exact q
end
section
variable {prog : Program} {w : World} {A : Around} {E : Value → Shared → Prop} {s : Shared} {env : Env} {qn nm : Str} {N C : Addr} {bm bs : List Value} {hdct ab : Bool} {sn : List Str} {sub : List Value} {col : Option Bool} {dd : Option Addr} {k0 k1 k2 k3 k5 : Option Value} {newId : String}
theorem raise_caused {x c : Sem Value} {ha : Addr} {Q : Flow → Shared → Prop} (hbase : bm.contains (.type "BaseException") = true) (hh : A.handled = some (.ref ha)) (hc : ∀ (R : Value → Shared → Prop) (s' : Shared), R .none s' → wpAny (model prog w) A c R E s')
    (h : wpAny (model prog w) A x (fun v s1 => ∃ e t, v = .ref e ∧ e ≠ ha ∧ Ctx0 s1.heap ha ∧ s1.heap.get? C = some (excClassObj nm qn C N bs bm hdct sn sub ab col dd k0 k1 k2 k3 k5 newId) ∧ s1.heap.get? e = some { cls := .ref C, data := .fields #[.ref t, .none, .none, .none, .bool false, .none] } ∧
      ∀ h', (∀ b o, b ≠ e → s1.heap.get? b = some o → h'.get? b = some o) → h'.get? e = some { cls := .ref C, data := .fields #[.ref t, .none, .ref ha, .none, .bool true, .none] } → E (.ref e) { s1 with heap := h' }) E s) :
    wpAny (model prog w) A (raiseStmt env (some x) (some c)) Q E s := by
  unfold raiseStmt
  refine wpAny_bind (wpAny_mono h (fun v s1 h1 => ?_) fun _ _ z => z)
  obtain ⟨e, t, rfl, ne, c0, gC, ge, hE⟩ := h1
  obtain ⟨hp, g, d, tk, os⟩ := s1
  refine wpAny_bind (wpAny_holding (hc _ _ ?_))
  refine wpAny_bind (wpAny_pure ?_)
  try dsimp only
  refine wpAny_bind (wpAny_holding (excFrom_made hbase gC ge ?_))
  try dsimp only
  rw [if_pos (by rfl)]
  refine wpAny_bind (wpAny_pure ?_)
  have nC : e ≠ C := fun z => by rw [z, gC] at ge; have := congrArg Obj.data (Option.some.inj ge); cases this
  refine wpAny_bind (wpAny_setField ge rfl (by simp) ?_)
  have g1 := Heap.get?_update_self (Obj.mapFields (·.setIfInBounds 3 Value.none)) ge rfl
  have o1 : ∀ b, b ≠ e → (hp.update e (Obj.mapFields (·.setIfInBounds 3 Value.none))).get? b = hp.get? b := fun b n => Heap.get?_update_other _ _ (Ne.symm n)
  generalize hp.update e (Obj.mapFields (·.setIfInBounds 3 Value.none)) = h1 at g1 o1 ⊢
  refine wpAny_bind (wpAny_setField g1 rfl (by simp) ?_)
  have g2 := Heap.get?_update_self (Obj.mapFields (·.setIfInBounds 4 (Value.bool true))) g1 rfl
  have o2 : ∀ b, b ≠ e → (h1.update e (Obj.mapFields (·.setIfInBounds 4 (Value.bool true)))).get? b = hp.get? b := fun b n => (Heap.get?_update_other _ _ (Ne.symm n)).trans (o1 b n)
  try dsimp only
  generalize h1.update e (Obj.mapFields (·.setIfInBounds 4 (Value.bool true))) = h2 at g2 o2 ⊢
  have gC2 := (o2 C (Ne.symm nC)).trans gC
  have ge2 : h2.get? e = some { cls := .ref C, data := .fields #[.ref t, .none, .none, .none, .bool true, .none] } := g2
  have c2 : Ctx0 h2 ha := by
    obtain ⟨o, vs, a1, a2, a3⟩ := c0
    exact ⟨o, vs, (o2 ha (Ne.symm ne)).trans a1, a2, a3⟩
  repeat (first | with_reducible refine wpAny_loadPart_at ge2 ?_ | with_reducible refine wpAny_loadPart_at gC2 ?_ | wp_step)
  refine raiseNew_in hh ne c2 ge2 rfl (by simp) (hE _ (fun b o n q => ?_) ?_)
  · exact (Heap.get?_update_other _ _ (Ne.symm n)).trans ((o2 b n).trans q)
  · exact Heap.get?_update_self (Obj.mapFields (·.setIfInBounds 2 (Value.ref ha))) ge2 rfl
end
structure NewX (h h' : Heap) (e C : Addr) : Prop where
  keeps : ∀ b o, h.get? b = some o → h'.get? b = some o
  new : h.get? e = none
  there : ∃ oe vs a0, h'.get? e = some oe ∧ oe.cls = .ref C ∧ oe.data = .fields vs ∧ vs[1]? = some .none ∧ vs[0]? = some a0
section
variable {prog : Program} {w : World} {A : Around} {E : Value → Shared → Prop} {s : Shared} {env : Env} {qn nm : Str} {N C : Addr} {bm bs bmB : List Value} {hdct ab : Bool} {sn : List Str} {sub : List Value} {col : Option Bool} {dd : Option Addr} {k0 k1 k2 k3 k5 : Option Value} {B newId initId : String}
theorem raise_call_caused (F : ExcBaseFacts B newId initId bmB) {mN : Str → Option Value} {x : Str} {np cpos pos npos : Pos} {j : Nat} {args : List Expr} {Q : Flow → Shared → Prop} {ha : Addr} (hbase : bm.contains (.type "BaseException") = true) (hh : A.handled = some (.ref ha))
    (hpl : (backTo cpos (starEach args env)).any (·.1) = false) (hni : mN "__init__" = none)
    (h : wpAny (model prog w) A (eval (.Name x np) env) (fun f s1 => f = .ref C ∧ wpAny (model prog w) A (evalArgs (.ref C) true (backTo cpos (starEach args env)) []) (fun a s2 => a.kw = [] ∧ a.pos.length ≤ sizeLine ∧ s2.heap.get? C = some (excClassObj nm qn C N bs bm hdct sn sub ab col dd k0 k1 k2 k3 k5 newId) ∧ s2.heap.Ns N mN ∧ OwnTail s2.heap bmB bm ∧
      Ctx0 s2.heap ha ∧ ∀ h' e, NewX s2.heap h' e C → E (.ref e) { s2 with heap := h' }) E s1) E s) :
    wpAny (model prog w) A (exec (.Raise (some (.Call (.Name x np) args [] cpos)) (some (.Constant .none j npos)) pos) env) Q E s := by
  rw [arm_exec_Raise]
  refine wpAny_bind (wpAny_standAt ?_)
  refine raise_caused (C := C) (nm := nm) (qn := qn) (N := N) (bs := bs) (bm := bm) (hdct := hdct) (sn := sn) (sub := sub) (ab := ab) (col := col) (dd := dd) (k0 := k0) (k1 := k1) (k2 := k2) (k3 := k3) (k5 := k5) (newId := newId) (x := do let v ← eval (.Call (.Name x np) args [] cpos) env; standAt pos; pure v) (c := do let v ← eval (.Constant .none j npos) env; standAt pos; pure v) hbase hh
    (fun R s' r => wpAny_bind (Constant_none (wpAny_bind (wpAny_standAt (wpAny_pure r))))) (wpAny_bind (wpAny_mono (wpAny_Call_ofName (wpAny_mono h (fun f s1 h1 => ?_) fun _ _ z => z)) (fun v s3 h3 => wpAny_bind (wpAny_standAt (wpAny_pure h3))) fun _ _ z => z))
  obtain ⟨rfl, h1⟩ := h1
  unfold callWith
  refine wpAny_bind (wpAny_holding (wpAny_mono h1 (fun a s2 h2 => wpAny_bind (wpAny_standAt ?_)) fun _ _ z => z))
  obtain ⟨ap, ak⟩ := a
  obtain ⟨rfl, hl, gC, gN, T, c0, k⟩ := h2
  obtain ⟨hp, g, d, tk, os⟩ := s2
  simp only [hpl]
  refine wpAny_bind (wpAny_keeperOf_exc gC ?_)
  refine wpAny_bind (wpAny_call_exc_subT (hrest := hl) F T gC gN hni fun h' e m => wpAny_bind (wpAny_holding (wpAny_point (wpAny_pure ?_))))
  obtain ⟨t, gt, _, _⟩ := m.there
  obtain ⟨o, vs, a1, a2, a3⟩ := c0
  have ne : e ≠ ha := fun z => by rw [← z, m.new] at a1; cases a1
  refine ⟨e, t, rfl, ne, ⟨o, vs, m.keeps _ _ a1, a2, a3⟩, m.keeps _ _ gC, gt, fun h2 kp go => k h2 e ⟨fun b o q => kp b o (fun z => by rw [z, m.new] at q; cases q) (m.keeps b o q), m.new, _, _, _, go, rfl, rfl, rfl, rfl⟩⟩
end
section
variable {M : Model} {A : Around} {E : Value → Shared → Prop} {s : Shared}
theorem flight_at {base : Heap} {l : List Env} {e L : Addr} {cls a0 : Value} {Q : Unit → Shared → Prop} (hh : Heap.HeldW base l e cls a0 L s.heap)
    (k : ∀ h', Heap.HeldW base l e cls a0 L h' → s.heap.UpToSlots h' → Q () { s with heap := h' }) : wpAny M A (setFlight (.ref e) (some L)) Q E s := by
  obtain ⟨kb, be, ff, oe, vs, Tr, oT, ts, ge, gc, gd, g1, bT, nTe, gT, dT, g3⟩ := hh
  have z3 := (Array.getElem?_eq_some_iff.mp g3).1
  have ot : ∀ b, b ≠ Tr → (s.heap.update Tr (Obj.mapFields (·.setIfInBounds 3 ((some L).elim Value.none fun f => rawInt f)))).get? b = s.heap.get? b := fun b n => Heap.get?_update_other _ _ (Ne.symm n)
  have nr : ∀ b o, s.heap.get? b = some o → (∀ ws, o.data ≠ .fields ws) → b ≠ Tr := fun b o q nf z => by
    rw [z, gT] at q
    cases q
    exact nf ts dT
  unfold setFlight
  refine wpAny_bind (wpAny_field ge gd g1 ?_)
  rw [if_pos (show (Value.ref Tr != Value.none) = true by simp)]
  refine wpAny_setField gT dT z3 (k _ ⟨fun b o q => (ot b fun z => by rw [z, bT] at q; cases q).trans (kb b o q), be, ff.of_keeps fun b o q nf => ⟨o, (ot b (nr b o q nf)).trans q, rfl⟩, ?_⟩ fun b o q nf => ⟨o.slots, (ot b (nr b o q nf)).trans q⟩)
  exact ⟨oe, vs, Tr, _, _, (ot e (Ne.symm nTe)).trans ge, gc, gd, g1, bT, nTe, Heap.get?_update_self _ gT (Obj.isFreed_of_fields (Obj.data_mapFields dT _)), Obj.data_mapFields dT _, by simp [z3]⟩
theorem leave_held {base : Heap} {env : Env} {outer : List Env} {L e : Addr} {cls a0 : Value} {Q : Unit → Shared → Prop} (fL : env.frame = some L) (hh : Heap.HeldW base (env :: outer) e cls a0 L s.heap)
    (k : ∀ h', Heap.FlyingW base outer e cls a0 h' → s.heap.UpToSlots h' → Q () { s with heap := h' }) : wpAny M A (leaving env (.ref e)) Q E s := by
  unfold leaving
  refine wpAny_bind (wpAny_noteFrame_againW fL hh.2.2.2 ?_)
  obtain ⟨n1, n2, n3, n4⟩ := hh
  refine flight_off n1 n2 n3 n4 fun h2 f2 sl2 _ => ?_
  obtain ⟨m1, m2, ⟨_, _, m3⟩, m4⟩ := f2
  exact k h2 ⟨m1, m2, m3, m4⟩ sl2
theorem came_back {base : Heap} {env : Env} {l : List Env} {L e : Addr} {cls a0 : Value} (fL : env.frame = some L) (hh : Heap.HeldW base l e cls a0 L s.heap)
    (k : ∀ h', Heap.HeldW base l e cls a0 L h' → s.heap.UpToSlots h' → E (.ref e) { s with heap := h' }) : cameBackBy M A env E (.ref e) s := by
  obtain ⟨oe, vs, Tr, oT, ts, ge, gc, gd, g1, _⟩ := id hh.2.2.2
  unfold cameBackBy
  refine wpAny_bind (wpAny_field ge gd g1 ?_)
  rw [if_neg (show ¬ ((Value.ref Tr == Value.none) = true) by simp), fL]
  first
    | exact flight_at hh k
    | exact wpAny_bind (wpAny_pure (flight_at hh k))
end
end L2
namespace L2
open PySem PySem.Spec PyProof.Rows

noncomputable def XC (ea C : Addr) : HO := .ext fun h => ∃ o vs, h.get? ea = some o ∧ o.cls = .ref C ∧ o.data = .fields vs ∧ vs[2]? = some .none
noncomputable def XH (X : Cx) (ea : Addr) : Value → Shared → Prop := notedBy (model X.prog X.w) (X.A.mark (some (.ref ea))) X.env fun x s2 => cameBackBy (model X.prog X.w) X.A X.env X.xe x s2
noncomputable abbrev Cx.hdl (X : Cx) (ea : Addr) : Cx := X.uncalm (X.A.mark (some (.ref ea))) (XH X ea)
noncomputable def FliesN (X : Cx) (ea C : Addr) (E : XK) : Prop := ∀ (pins : List (Addr × Obj)) (σ : St) (H : Hp) (s : Shared) (h' : Heap) (e : Addr), Inv (X.hdl ea) pins σ H s → NewX s.heap h' e C → E (.ref C) (some ea) H → XH X ea (.ref e) { s with heap := h' }
section
variable {P : Program} {w : World} {K : PySem.W.Frag} {mg : Str → Option Value} {base : Heap} {N : List Str} {qual : Str} {scope : Scope} {f : Addr} {cdv : Value} {A : Around} {outer : List Env} {s0 : Shared} {H0 : Hp} {E : XK} {ea C : Addr}
theorem fliesN : FliesN (cxOf (CXE P w) P w K mg base N qual scope f cdv A outer s0 H0 E) ea C E := by
  intro pins σ H s h' e I nx q
  have fr : s.heap.FunFrames base (envOfC qual scope s0.heap.objs.size f cdv :: outer) := I.stack
  have sf : ∀ b ∈ frs (envOfC qual scope s0.heap.objs.size f cdv :: outer), H b = none := I.stkFree
  have hin : ∀ env ∈ (envOfC qual scope s0.heap.objs.size f cdv :: outer), ∀ b, env.frame = some b → b ∈ frs (envOfC qual scope s0.heap.objs.size f cdv :: outer) := fun env he b hb => List.mem_filterMap.mpr ⟨env, he, hb⟩
  have es : frs (envOfC qual scope s0.heap.objs.size f cdv :: outer) = s0.heap.objs.size :: frs outer := stack_frs rfl
  obtain ⟨oe, vs, a0, ge, gc, gd, g1, g0⟩ := nx.there
  have ff := (PySem.W.funFrames_hide fr hin).of_keeps (h' := h') fun b o z _ => ⟨o, nx.keeps b o z, rfl⟩
  have kb : (PySem.W.hideAll s.heap (frs (envOfC qual scope s0.heap.objs.size f cdv :: outer))).StaysIn h' := fun b o z => nx.keeps b o (PySem.W.of_hideAll _ z)
  have be : (PySem.W.hideAll s.heap (frs (envOfC qual scope s0.heap.objs.size f cdv :: outer))).get? e = none := by
    cases z : (PySem.W.hideAll s.heap (frs (envOfC qual scope s0.heap.objs.size f cdv :: outer))).get? e with
    | none => rfl
    | some o => have := PySem.W.of_hideAll _ z; rw [nx.new] at this; cases this
  show wpAny _ _ (noteFrame _ _) _ _ _
  refine note_new (s := { s with heap := h' }) (a0 := a0) I.ok.frames ff rfl ge kb be gd g1 g0 fun h1 hh sl1 _ => ?_
  rw [gc] at hh
  refine came_back (s := { s with heap := h1 }) rfl hh fun h2 hh2 sl2 => ?_
  show wpAny _ _ (leaving _ _) _ _ _
  refine leave_held (s := { s with heap := h2 }) rfl hh2 fun h3 x1 sl3 => ?_
  have x4 := (sl1.trans sl2).trans sl3
  have cov : ∀ b o, s.heap.get? b = some o → b ∉ s0.heap.objs.size :: frs outer → (PySem.W.hideAll s.heap (frs (envOfC qual scope s0.heap.objs.size f cdv :: outer))).get? b = some o := fun b o z hb => PySem.W.hideAll_get _ z (by rw [es]; exact hb)
  have Ib : Un (frs outer) [] H0 H s0.heap s.heap := I.base
  refine ⟨e, C, a0, _, H, rfl, x1, I.os, I.bare, HOk.part I.hok fun b u v z1 z2 => PySem.W.hideAll_get _ z2 fun hm => ?_, ?_, ?_, some ea, (fun z => nomatch z), q⟩
  · rw [sf b hm] at z1; cases z1
  · refine Un.fly (h := s.heap) (h1 := h') (L := s0.heap.objs.size) Ib (Un.kept nx.keeps) (Heap.get?_none_of_le (Nat.le_refl _)) (fun b o z hb => ⟨o, cov b o z hb⟩) (fun b o z => nx.keeps _ _ (PySem.W.of_hideAll _ z)) x1.1 x4 fun b hb => ?_
    obtain ⟨_, o, z, d⟩ := fr.mem (b := b) (by show b ∈ frs _; rw [es]; exact List.mem_cons_of_mem _ hb)
    exact ⟨o, nx.keeps _ _ z, d⟩
  · intro b o z hb
    obtain ⟨o1, z1⟩ := Ib.there b o z (by simp)
    refine ⟨o1, cov b o1 z1 fun hm => ?_⟩
    rcases List.mem_cons.mp hm with y | y
    · rw [y, Heap.get?_none_of_le (Nat.le_refl _)] at z; cases z
    · exact hb y
end
inductive J_tRaiseN (ea C : Addr) (E : XK) (vs : List V) (H1 : Hp) : Prop
  | mk (CC : Addr) (z0 : vs.length ≤ sizeLine) (z1 : H1 ea = some (XC ea CC)) (z2 : E (.ref C) (some ea) H1) : J_tRaiseN ea C E vs H1
noncomputable def tRaiseN (C : Addr) (E : XK) (t : TA) (ea : Addr) : TS := fun _ σ H => t σ H fun vs H1 => J_tRaiseN ea C E vs H1
theorem ps_raiseN {X : Cx} {ea C : Addr} {x : Str} {E : XK} {e₀ : Expr} {rest : List Expr} {t : TA} {np cpos pos npos : Pos} {j : Nat} (O : Exc X.K X.mg x C) (F : FliesN X ea C E) (ha : PA (X.hdl ea) (e₀ :: rest) t) (hg : Gl X x)
    (he : starEach (e₀ :: rest) X.env = (false, eval e₀ X.env) :: starEach rest X.env := by rfl) (hplain : (backTo cpos (starEach rest X.env)).any (·.1) = false := by rfl) (hd : (x == ("__debug__" : Str)) = false := by decide) :
    PS (X.hdl ea) (.Raise (some (.Call (.Name x np) (e₀ :: rest) [] cpos)) (some (.Constant .none j npos)) pos) (tRaiseN C E t ea) := by
  intro pins s σ H D I h
  obtain ⟨tl, N, nm, q, bs, hdct, sn, sub, ab, col, dd, k0, k1, k2, k3, k5, mN, hC, hN, hni, T⟩ := (O.own I.ok.mod.kin).obj
  refine raise_call_caused (C := C) (nm := nm) (qn := q) (N := N) (bs := bs) (bm := tl) (hdct := hdct) (sn := sn) (sub := sub) (ab := ab) (col := col) (dd := dd) (k0 := k0) (k1 := k1) (k2 := k2) (k3 := k3) (k5 := k5)
    PySem.F.excBase_ValueError (mN := mN) (ha := ea) (T.hasType PySem.F.excBase_ValueError.hasBase) rfl (by rw [he]; show (false || (backTo cpos (starEach rest X.env)).any (·.1)) = false; rw [hplain]; rfl) hni (ld_glob I hg O.glob ⟨rfl, ?_⟩ hd)
  have h₂ := ha cpos pins s σ H _ I h
  have he' : starEach (e₀ :: rest) (X.hdl ea).env = (false, eval e₀ (X.hdl ea).env) :: starEach rest (X.hdl ea).env := he
  rw [he'] at h₂ ⊢
  refine Calls.evalArgs_plain (wpAny_mono h₂ (fun vs s₂ ⟨xs, H1, I1, r, CC, hl, hx, hq⟩ => ?_) fun _ _ y => y)
  obtain ⟨⟨o, ws, a1, _, a3, a4⟩, _⟩ := (show ObjOk X.prog X.w H1 s₂.heap ea (XC ea CC) from I1.hok ea _ hx)
  exact ⟨rfl, by rw [← r.length]; exact hl, I1.bk _ _ hC, hN.keeps I1.bk, T.keeps I1.bk, ⟨o, ws, a1, a3, a4⟩, fun h' e hm => F pins σ H1 s₂ h' e I1 hm hq⟩
section
variable {X : Cx} {pins : List (Addr × Obj)} {σ : St} {H0 H' : Hp} {s0 s' : Shared} {ea C : Addr} {a0 : Value} {B h5 : Heap}
theorem caught_invC (I : Inv X pins σ H0 s0) (fl : Heap.FlyingW B X.stack ea (.ref C) a0 s'.heap) (os : s'.os = s0.os) (bare : AllBare s'.gens) (hok : HOk X.prog X.w H' B) (un : Un (frs X.stack) [] H0 H' s0.heap s'.heap)
    (cov : ∀ b o, s0.heap.get? b = some o → b ∉ frs X.stack → ∃ o', B.get? b = some o') (k5 : ∀ b o, B.get? b = some o → h5.get? b = some o) (sl : s'.heap.UpToSlots h5) (he : ∃ o vs, h5.get? ea = some o ∧ o.cls = .ref C ∧ o.data = .fields vs ∧ vs[2]? = some .none) :
    Inv X pins σ (upd H' ea (XC ea C)) { s' with heap := h5 } ∧ H' ea = none := by
  have hn : H' ea = none := hok.notThere fl.2.1
  have fm : ∀ b ∈ frs X.stack, ∃ o, s'.heap.get? b = some o ∧ ∀ vs, o.data ≠ .fields vs := fun b hb => (fl.2.2.1.mem hb).2
  obtain ⟨oe, vs, h1, h2, h3, h4⟩ := he
  have new : s0.heap.get? ea = none := by
    cases q : s0.heap.get? ea with
    | none => rfl
    | some o =>
      by_cases hb : ea ∈ frs X.stack
      · obtain ⟨ob, q3, d⟩ := fm ea hb
        obtain ⟨s4, q4⟩ := sl ea _ q3 d
        rw [h1] at q4
        cases q4
        exact absurd h3 (d vs)
      · obtain ⟨o', e⟩ := cov ea o q hb
        rw [fl.2.1] at e; cases e
  refine ⟨Inv.call' (s' := { s' with heap := h5 }) I os ((un.on cov fl.1 k5 sl fm).more new hn) ?_ bare (fun b z => absurd z (by simp)), hn⟩
  intro b u e
  have tup : ∀ c xs, H' c = some (.tup xs) → upd H' ea (XC ea C) c = some (.tup xs) := fun c xs z => by rw [upd_ne (ne_of_none z hn)]; exact z
  have own : ∀ c y, H' c = some (.own y) → upd H' ea (XC ea C) c = some (.own y) := fun c y z => by rw [upd_ne (ne_of_none z hn)]; exact z
  by_cases hb : b = ea
  · subst hb
    rw [upd_same] at e
    cases e
    exact ⟨⟨oe, vs, h1, h2, h3, h4⟩, ⟨oe, h1⟩, fun g1 g2 ⟨o, ws, z1, z2⟩ k => ⟨o, ws, k o z1, z2⟩⟩
  · rw [upd_ne hb] at e
    exact (hok b u e).stay (fun c v hc q => k5 _ _ q) (fun c z => own c b z) tup
end
noncomputable def tTryR (K : PySem.W.Frag) (CH : Addr) (tb : XK → TS) (th : Addr → TS) : TS := fun D σ H =>
  tb (fun cls m H' => m = none ∧ ∃ C, cls = .ref C ∧ PySem.W.exmOne K (.ref C) (.ref CH) = some true ∧ ∀ ea, H' ea = none → th ea D σ (upd H' ea (XC ea C))) D σ H
theorem ps_tryR {X : Cx} {body : List Stmt} {tb : XK → TS} {th : Addr → TS} {x : Str} {CH : Addr} {b₀ : Stmt} {suite : List Stmt} {np hpos pos : Pos} (hst : X.stack = X.env :: X.outer ∧ X.env.frame = some X.env.locals)
    (hg : Gl X x) (hm : X.mg x = some (.ref CH)) (hb : PSt X body tb) (hh : ∀ ea : Addr, PSs (X.hdl ea) (b₀ :: suite) (th ea)) (hd : (x == ("__debug__" : Str)) = false := by decide) :
    PS X (.Try body [.ExceptHandler (some (.Name x np)) none (b₀ :: suite) hpos] [] [] pos) (tTryR X.K CH tb th) := by
  intro pins s σ H D I h
  refine wpAny_Try_except (wpAny_mono (hb _ pins s σ H D _ ?W I h) (fun f s1 q => ?_) fun _ _ z => z)
  case W =>
    intro H0 s0 e s' I0 hx
    obtain ⟨ea, C, a0, B, H', rfl, fl, os, bare, hok, un, cov, m, hm0, em, C', hc, hex, hth⟩ := hx
    cases hc
    have c0 := hm0 em
    have hfr : X.A.frames = some (X.env :: X.outer) := by rw [I0.ok.frames, hst.1]
    have fl0 : Heap.FlyingW B (X.env :: X.outer) ea (.ref C) a0 s'.heap := by rw [← hst.1]; exact fl
    refine note_on hfr hst.2 fl0 fun h₄ held₄ sm₄ c4 => ?_
    obtain ⟨p1, p2, p3, p4⟩ := held₄
    refine flight_off (s := { s' with heap := h₄ }) p1 p2 p3 p4 fun h₅ fl₅ sm₅ c5 => ?_
    have c05 := c5 _ (c4 _ c0)
    obtain ⟨o5, vs5, g1, g2, g3, _⟩ := fl₅.first
    have two : ∀ {h : Heap} {o : Obj} {vs : Array Value}, h.get? ea = some o → o.cls = .ref C → o.data = .fields vs → Ctx0 h ea → ∃ o vs, h.get? ea = some o ∧ o.cls = .ref C ∧ o.data = .fields vs ∧ vs[2]? = some .none := fun {h o vs} q1 q2 q3 c => by
      obtain ⟨o', vs', r1, r2, r3⟩ := c
      rw [q1] at r1
      cases r1
      exact ⟨o, vs', q1, q2, r2, r3⟩
    obtain ⟨I5, hea⟩ := caught_invC (h5 := h₅) I0 fl os bare hok un cov fl₅.1 (sm₄.trans sm₅) (two g1 g2 g3 c05)
    have J5 : Inv (X.hdl ea) pins σ (upd H' ea (XC ea C)) { s' with heap := h₅ } := I5.uncalm rfl
    refine wpAny_handleBy_cons (codeAny_handlers_test (ld_glob J5 hg hm ?_ hd)) (by intro q; cases q)
    have LT : PySem.W.Looks (model X.prog X.w) h₅ (typeOf (.ref ea)) (.ref C) := g2 ▸ (PySem.W.Looks.ld g1).andThen .now
    refine (PySem.W.exm_one (M := model X.prog X.w) I5.kIn LT hex).at ?_
    show codeAny _ _ _ _ _
    refine codeAny_handlers_suite ?_
    refine flight_off (s := { s' with heap := h₅ }) fl₅.1 fl₅.2.1 fl₅.2.2.1 fl₅.2.2.2 fun h₆ fl₆ sm₆ c6 => ?_
    obtain ⟨o6, vs6, j1, j2, j3, _⟩ := fl₆.first
    obtain ⟨I6, _⟩ := caught_invC (h5 := h₆) I0 fl os bare hok un cov fl₆.1 ((sm₄.trans sm₅).trans sm₆) (two j1 j2 j3 (c6 _ c05))
    refine wpAny_mono (hh ea pins _ _ _ _ (I6.uncalm rfl) (hth ea hea)) (fun f s8 q8 => ?_) fun _ _ z => z
    have back : ∀ {σ' H''} {s9 : Shared}, Inv (X.hdl ea) pins σ' H'' s9 → Inv X pins σ' H'' s9 := fun J => J.recalm I0.ok.hd rfl
    cases f with
    | next =>
      obtain ⟨σ', H'', J, q⟩ := q8
      exact ⟨_, _, back J, q⟩
    | brk =>
      obtain ⟨σ', H'', J, q⟩ := q8
      exact ⟨_, _, back J, q⟩
    | cont =>
      obtain ⟨σ', H'', J, q⟩ := q8
      exact ⟨_, _, back J, q⟩
    | ret u =>
      obtain ⟨v, σ', H'', J, r, q⟩ := q8
      exact ⟨v, _, _, back J, r, q⟩
  cases f with
  | next => exact wpAny_execs_nil q
  | brk => exact q
  | cont => exact q
  | ret u => exact q
section
variable {X : Cx} {k k' : Nat} {m : Str} {C : Addr} {ps : List Str} {dvs : List V} {sp : Sp} {pos apos : Pos} {e o : Expr} {es : List Expr} {ta : TE} {t : TA} {pl : Sem Bool}
theorem pet_meth {f : Addr} {fd : FuncData} {ds : List Value} (he : PE X.nox o ta) (c : Cls X.K C) (hm : Meth X.K C m f) (F : FnOk X.prog X.w X.K X.mg X.base (CXE X.prog X.w) k f fd ps sp) (hr : Room k X.A) (hb : Binds X.K fd ps ds) (hd : Vals dvs ds) (ha : PA X.nox (e :: es) t)
    (hst : starEach (e :: es) X.env = (false, eval e X.env) :: starEach es X.env := by rfl) (hpl : (backTo pos (starEach es X.env)).any (·.1) = false := by rfl)
    (ht : eval (.Call (.Attribute o m apos) (e :: es) [] pos) X.env = (do
      let ov ← eval o X.env
      standAt apos.atName
      let (f, first) ← holding [ov] (getMethod ov m pl)
      callWith pos f first (backTo pos (starEach (e :: es) X.env)) (backToKw pos (keywordEach [] X.env))) := by rfl) :
    PEt X (.Call (.Attribute o m apos) (e :: es) [] pos) (fun E => tMeth C m sp dvs E ta t) := by
  intro E pins s σ H Q xe W I h
  refine PySem.W.methodCall_KW (pl := pl) (wpAny_mono (he pins s σ H _ (I.wish _) h) (fun u s1 ⟨x, H1, I1, rx, a, dx, fs, ex, ea, l, q⟩ => ?_) fun _ _ z => False.elim z) ht
  subst ex
  have I1 := I1.unwish
  obtain rfl : u = Value.ref a := rx
  refine getmeth_ok I1 ea c hm l ?_
  refine PySem.W.callWith_K (first := [.ref a]) (h₀ := X.base) I.ok.mod.kin hm.kp (wpAny_mono (ha pos pins s1 σ H1 _ (I1.wish _) q) (fun us s2 ⟨vs, H2, I2, r, q2⟩ => ⟨I2.unwish.kIn, ?_⟩) fun _ _ z => False.elim z) hst hpl
  exact run_fnX (us := .ref a :: us) (vs := .ref a :: vs) F hr hb hd I2.unwish (fun e s' hq => W H2 s2 e s' I2.unwish hq) (.cons rfl r) q2
theorem pet_mE (h : HasM X.prog X.w X.K X.mg X.base k C m ps sp) (c : Cls X.K C) (hr : Room k' X.A) (hk : k ≤ k') (he : PE X.nox o ta) (ha : PA X.nox (e :: es) t)
    (hst : starEach (e :: es) X.env = (false, eval e X.env) :: starEach es X.env := by rfl) (hpl : (backTo pos (starEach es X.env)).any (·.1) = false := by rfl)
    (ht : eval (.Call (.Attribute o m apos) (e :: es) [] pos) X.env = (do
      let ov ← eval o X.env
      standAt apos.atName
      let (f, first) ← holding [ov] (getMethod ov m pl)
      callWith pos f first (backTo pos (starEach (e :: es) X.env)) (backToKw pos (keywordEach [] X.env))) := by rfl) :
    PEt X (.Call (.Attribute o m apos) (e :: es) [] pos) (fun E => tMeth C m sp [] E ta t) := by
  obtain ⟨f, fd, F, hm, hb⟩ := h.ex
  exact pet_meth he c hm F (hr.mono hk) hb .nil ha hst hpl ht
theorem pst_ret {te : XK → TE} {rpos : Pos} (he : PEt X e te) : PSt X [.Return (some e) rpos] (fun E => tRet (te E)) := by
  intro E pins s σ H D xe W I h
  exact wpAny_execs_cons (wpAny_Return_some (thn (he E pins s σ H _ xe W I h) fun v s1 ⟨x, H1, I1, r1, q1⟩ => ⟨x, σ, H1, I1, r1, q1⟩))
end
structure HasMN (P : Program) (w : World) (K : PySem.W.Frag) (mg : Str → Option Value) (base : Heap) (k : Nat) (C : Addr) (m : Str) (ps : List Str) (sp : Sp) : Prop where
  ex : ∃ f fd, FnN P w K mg base k f fd ps sp ∧ Meth K C m f ∧ Binds K fd ps []
theorem pe_mN {X : Cx} {k k' : Nat} {m : Str} {C : Addr} {ps : List Str} {sp : Sp} {pos apos : Pos} {e o : Expr} {es : List Expr} {ta : TE} {t : TA} {pl : Sem Bool} (h : HasMN X.prog X.w X.K X.mg X.base k C m ps sp) (c : Cls X.K C) (hr : RoomN k' X.A) (hk : k ≤ k') (he : PE X o ta) (ha : PA X (e :: es) t)
    (hst : starEach (e :: es) X.env = (false, eval e X.env) :: starEach es X.env := by rfl) (hpl : (backTo pos (starEach es X.env)).any (·.1) = false := by rfl)
    (ht : eval (.Call (.Attribute o m apos) (e :: es) [] pos) X.env = (do
      let ov ← eval o X.env
      standAt apos.atName
      let (f, first) ← holding [ov] (getMethod ov m pl)
      callWith pos f first (backTo pos (starEach (e :: es) X.env)) (backToKw pos (keywordEach [] X.env))) := by rfl) :
    PE X (.Call (.Attribute o m apos) (e :: es) [] pos) (tMeth C m sp [] E0 ta t) := by
  obtain ⟨f, fd, F, hm, hb⟩ := h.ex
  intro pins s σ H Q I h
  refine PySem.W.methodCall_KW (pl := pl) (thn (he pins s σ H _ I h) fun u s1 ⟨x, H1, I1, rx, a, dx, fs, ex, ea, l, q⟩ => ?_) ht
  subst ex
  obtain rfl : u = Value.ref a := rx
  refine getmeth_ok I1 ea c hm l ?_
  refine PySem.W.callWith_K (first := [.ref a]) (h₀ := X.base) I.ok.mod.kin hm.kp (thn (ha pos pins s1 σ H1 _ I1 q) fun us s2 ⟨vs, H2, I2, r, q2⟩ => ⟨I2.kIn, ?_⟩) hst hpl
  have q3 : sp (.ref a :: (vs ++ [])) H2 Q E0 := q2
  rw [List.append_nil] at q3
  have r3 : Vals (.ref a :: vs) (.ref a :: us) := .cons rfl r
  have hl : (Value.ref a :: us).length = ps.length := by rw [← r3.length]; exact F.len _ _ _ _ q3
  have hb' := hb s2 (.ref a :: us) I2.kIn (by rw [List.append_nil]; exact hl)
  rw [List.append_nil] at hb'
  refine wpAny_call (codeAny_mono (F.run X.A X.stack s2 H2 ⟨.ref a :: us, []⟩ (.ref a :: us) (.ref a :: vs) Q (hr.mono hk) I2.env0 hb' r3 q3) fun r s' hq => ?_)
  cases r with
  | error e => exact False.elim hq
  | ok fl =>
    cases fl with
    | ret u => exact I2.after hq
    | next => exact False.elim hq
    | brk => exact False.elim hq
    | cont => exact False.elim hq
theorem un10N {k : Nat} {A : Around} (r : RoomN k A) : A.units + 10 < cLine := by have := r.un; omega
theorem DefM.hasN {P : Program} {w : World} {K : PySem.W.Frag} {mg : Str → Option Value} {base : Heap} {m qual : Str} {C : Addr} {st : Stmt} {N ps : List Str} {k : Nat} {sp : Sp} (D : DefM K C m qual st ps) (S : FnScope N ps (defScope st)) (len : ∀ vs H Q E, sp vs H Q E → vs.length = ps.length)
    (hbody : ∀ (f : Addr) (cdv : Value) (A : Around) (outer : List Env) (s : Shared) (H : Hp) (vs : List V) (Q : VK), RoomN k (A.deeper (envOfC qual (defScope st) s.heap.objs.size f cdv)) → sp vs H Q E0 →
      ∃ t, PSs ((cxOf CX0 P w K mg base N qual (defScope st) f cdv { A with handled := none } outer s H E0).uncalm (A.deeper (envOfC qual (defScope st) s.heap.objs.size f cdv)) fun _ _ => False) (defBody st) t ∧ t { nx := fun _ H' => Q .non H', rt := Q } (start N vs) H) : HasMN P w K mg base (k + 1) C m ps sp := by
  obtain ⟨f, fd, F, hm, hb⟩ := D.ex
  exact ⟨f, fd, fn_N F S len (hbody f), hm, hb⟩
end L2
namespace L2
open PySem PySem.Spec PyProof.Rows

theorem erase_key {α β : Type} [DecidableEq α] {k : α} : ∀ {xs : List (α × β)} {j : Nat} {p : β}, (xs.map (·.1)).Nodup → xs[j]? = some (k, p) → xs.eraseIdx j = xs.filter fun x => !decide (x.1 = k)
  | [], j, p, _, h => by simp at h
  | x :: xs, 0, p, hn, h => by
    rw [List.getElem?_cons_zero] at h
    cases h
    rw [List.eraseIdx_cons_zero, List.filter_cons, if_neg (by simp)]
    rw [List.map_cons, List.nodup_cons] at hn
    refine (List.filter_eq_self.mpr fun y hy => ?_).symm
    rw [decide_eq_false (fun z => hn.1 (by rw [← z]; exact List.mem_map.mpr ⟨y, hy, rfl⟩))]; rfl
  | x :: xs, j + 1, p, hn, h => by
    rw [List.getElem?_cons_succ] at h
    rw [List.map_cons, List.nodup_cons] at hn
    have hx : ¬ x.1 = k := fun z => hn.1 (by rw [z]; exact List.mem_map.mpr ⟨_, List.mem_of_getElem? h, rfl⟩)
    rw [List.eraseIdx_cons_succ, List.filter_cons, if_pos (by rw [decide_eq_false hx]; rfl), erase_key hn.2 h]
theorem erase_map {α β : Type} (f : α → β) : ∀ (l : List α) (j : Nat), (l.map f).eraseIdx j = (l.eraseIdx j).map f
  | [], _ => rfl
  | _ :: _, 0 => rfl
  | x :: l, j + 1 => by rw [List.map_cons, List.eraseIdx_cons_succ, List.eraseIdx_cons_succ, List.map_cons, erase_map f l j]
noncomputable def dropN (kvs : List (NK × V)) (k : NK) : List (NK × V) := kvs.filter fun x => !decide (x.1 = k)
theorem valV_dropN (kvs : List (NK × V)) (k j : NK) : valV (dropN kvs k) j = if j = k then none else valV kvs j := by
  unfold dropN
  induction kvs with
  | nil => rw [List.filter_nil, valV_nil]; split <;> rfl
  | cons p r ih =>
    rw [List.filter_cons]
    by_cases e : p.1 = k
    · rw [if_neg (by simp [e]), ih]
      by_cases z : j = k
      · rw [if_pos z, if_pos z]
      · rw [if_neg z, if_neg z, valV_neg (fun q => z (q.symm.trans e))]
    · rw [if_pos (by rw [decide_eq_false e]; rfl)]
      by_cases z : p.1 = j
      · rw [valV_pos z, if_neg (fun q => e (z.trans q)), valV_pos z]
      · rw [valV_neg z, ih, valV_neg z]
theorem dropN_le (kvs : List (NK × V)) (k : NK) : (dropN kvs k).length ≤ kvs.length := List.length_filter_le ..
theorem KN.drop {H : Hp} (k : NK) {kvs : List (NK × V)} {xs : List (NK × Addr × Value)} (r : KN H kvs xs) : KN H (dropN kvs k) (xs.filter fun x => !decide (x.1 = k)) := by
  unfold dropN
  induction r with
  | nil => exact .nil
  | @cons p q ps qs h t ih =>
    rw [List.filter_cons, List.filter_cons]
    by_cases e : p.1 = k
    · rw [if_neg (by simp [e]), if_neg (by simp [← h.1, e])]; exact ih
    · rw [if_pos (by rw [decide_eq_false e]; rfl), if_pos (by rw [decide_eq_false (fun z => e (h.1.trans z))]; rfl)]; exact .cons h ih
section
variable {prog : Program} {w : World} {K : Type} [DecidableEq K] {knd : HeapKind prog w K} {A : Around} {E : Value → Shared → Prop} {s : Shared} {d a : Addr} {k : K} {xs : List (K × Addr × Value)}
theorem takeOut_heap {p : Addr × Value} {Q : Option DictEntry → Shared → Prop} (hu : knd.room A) (hk : knd.is s.heap k a) (dd : s.heap.DictOfH knd d xs) (hz : xs.length ≤ sizeLine) (hp : atKey xs k = some p)
    (q : ∀ en h', en.val = p.2 → h'.DictOfH knd d (xs.filter fun x => !decide (x.1 = k)) → Heap.SameBut d s.heap h' → Q (some en) { s with heap := h', toks := s.toks + knd.draws k }) :
    wpAny (model prog w) A (Builtin.Dict.takeOut d (.ref a)) Q E s := by
  obtain ⟨o, es, ep, go, ge, gd, gs, gi, gn⟩ := dd
  unfold Builtin.Dict.takeOut
  try with_reducible refine wpAny_holding ?_
  refine wpAny_bind (knd.pyHash hu hk ?_)
  refine wpAny_bind (wpAny_dictFind_heap (s := { s with toks := s.toks + knd.draws k }) hu hk go gd gs gi gn ?_ ?_)
  · intro no
    rw [atKey_none_of_get no] at hp
    cases hp
  · intro j p' hj
    have e := atKey_of_get gn hj
    rw [hp] at e
    cases e
    refine wpAny_bind (wpAny_dictEntries (s := { s with toks := s.toks + knd.draws k }) go gd ?_)
    rw [entry_at gs j, hj]
    refine wpAny_bind (wpAny_updateDictKeys (hz := by have := size_of_entries gs; omega) (s := { s with toks := s.toks + knd.draws k }) go gd (wpAny_pure (q _ _ rfl ⟨_, _, ep + 1, Heap.get?_update_self _ go (Obj.isFreed_of_dict (Obj.data_mapDictKeys gd _)), ge.mapDictKeys _, Obj.data_mapDictKeys gd _, ?_, ?_, ?_⟩ (Heap.SameBut.update ..))))
    · rw [← erase_key gn hj]
      have : (es.eraseIdxIfInBounds j).toList = es.toList.eraseIdx j := by obtain ⟨l⟩ := es; simp
      rw [this, gs]; exact erase_map _ _ _
    · intro x hx
      exact knd.keeps (gi x (List.mem_filter.mp hx).1) go gd (Heap.SameBut.update ..)
    · exact (gn.sublist (List.Sublist.map _ List.filter_sublist))
end
section
variable {prog : Program} {w : World} {K : Type} [DecidableEq K] (knd : HeapKind prog w K) (d a : Addr)
theorem meetsH_dict_pop : MeetsIn prog w (Builtin.«dict.pop» ⟨[.ref d, .ref a], []⟩) (fun A R s => knd.room A.in1 ∧ ∃ k xs p, knd.is s.heap k a ∧ s.heap.DictOfH knd d xs ∧ xs.length ≤ sizeLine ∧ atKey xs k = some p ∧
      (∀ h', h'.DictOfH knd d (xs.filter fun x => !decide (x.1 = k)) → Heap.SameBut d s.heap h' → R (.ok (.ret p.2)) { s with heap := h', toks := s.toks + knd.draws k })) :=
  .of_wp fun A R s ⟨hu, k, xs, p, hk, dd, hz, hp, q⟩ => by
    unfold Builtin.«dict.pop»
    refine wpAny_bind ?_
    unfold Builtin.Dict.keyAndDefault
    refine wpAny_bind (wpAny_notOrdered_dict dd.typeIs ?_)
    show wpAny _ _ (pure (d, Value.ref a, none)) _ _ s
    refine wpAny_pure ?_
    obtain ⟨o, es, ep, go, ge, gd, gs, gi, gn⟩ := id dd
    have hne : es.isEmpty = false := by
      have e1 := size_of_entries gs
      cases xs with
      | nil => cases hp
      | cons x r => rw [Array.isEmpty_eq_false_iff]; intro z; rw [z] at e1; cases e1
    have hkp : (keyPart (Value.ref a)).isSome = false := rfl
    simp only [hkp, Bool.false_eq_true, if_false]
    refine wpAny_bind (wpAny_dictEntries go gd (wpAny_bind (wpAny_pure ?_)))
    rw [hne]
    simp only [Bool.false_eq_true, if_false]
    refine wpAny_bind (takeOut_heap hu hk dd hz hp fun en h' ev d' sb => ?_)
    simp only [Option.isNone_some, Bool.false_eq_true, if_false]
    exact wpAny_bind (wpAny_letGo (wpAny_pure ⟨en.val, rfl, by rw [ev]; exact q h' d' sb⟩))
end
section
variable {X : Cx} {pins : List (Addr × Obj)} {σ : St} {H : Hp} {s : Shared} {a b : Addr} {kvs : List (NK × V)} {k : NK} {v : V} {A : Around} {E : Value → Shared → Prop}
theorem dn_pop {Q : Value → Shared → Prop} (hu : A.units + 10 < cLine) (I : Inv X pins σ H s) (d : DN X.prog X.w H a kvs) (nk : NKey H k b) (hv : valV kvs k = some v)
    (q : ∀ w' φ s', RelV v w' → Inv X pins σ (upd H a (.ext φ)) s' → DN X.prog X.w (upd H a (.ext φ)) a (dropN kvs k) → Q w' s') : wpAny (model X.prog X.w) A (call (.builtin "dict.pop") [.ref a, .ref b]) Q E s := by
  obtain ⟨z, hd, xs, rel, dd⟩ := dn_rd I.hok d
  have hz : xs.length ≤ sizeLine := by rw [← Paired.length rel]; exact z
  have ro := rel.val k
  rw [hv] at ro
  cases e : atKey xs k with
  | none => rw [e] at ro; exact ro.elim
  | some p =>
    rw [e] at ro
    refine call_meetsIn PySem.F.slot_dict_pop dd.typeIs PySem.F.entry_dict_pop (PySem.F.args_dict_pop_2 _ _) (meetsH_dict_pop (nkKind X.prog X.w) a b)
      ⟨(show A.units + 1 + 5 < cLine by omega), k, xs, p, nkey_of I.hok nk, dd, hz, e, fun h' dd' hs => ?_⟩
    obtain ⟨φ, I', d'⟩ := dn_write (t' := s.toks + (nkKind X.prog X.w).draws k) I d hs dd' (rel.drop k) (Nat.le_trans (dropN_le kvs k) z)
    exact q _ φ _ ro I' d'
end
inductive J_tPopN (P : Program) (w : World) (Q : VK) (a : Addr) (y : V) (H2 : Hp) : Prop
  | mk (kvs : List (NK × V)) (k : NK) (b : Addr) (v : V) (z0 : y = .ref b) (z1 : DN P w H2 a kvs) (z2 : NKey H2 k b) (z3 : valV kvs k = some v) (z4 : ∀ φ, DN P w (upd H2 a (.ext φ)) a (dropN kvs k) → Q v (upd H2 a (.ext φ))) : J_tPopN P w Q a y H2
inductive J_tPopD (P : Program) (w : World) (ty : TE) (σ : St) (Q : VK) (x : V) (H1 : Hp) : Prop
  | mk (a : Addr) (z0 : x = .ref a) (z1 : ∃ kvs, DN P w H1 a kvs) (z2 : ty σ H1 fun y H2 => J_tPopN P w Q a y H2) : J_tPopD P w ty σ Q x H1
noncomputable def tPopN (P : Program) (w : World) (td ty : TE) : TE := fun σ H Q => td σ H fun x H1 => J_tPopD P w ty σ Q x H1
section
variable {X : Cx} {o e : Expr} {apos cpos : Pos} {td ty : TE}
theorem pe_popN (hu : X.A.units + 10 < cLine) (ho : PE X o td) (he : PE X e ty) (m : M1 X o "pop" apos e cpos) : PE X (.Call (.Attribute o "pop" apos) [e] [] cpos) (tPopN X.prog X.w td ty) := by
  intro pins s σ H Q I h
  refine wpAny_Call_method m.base m.few m.line PySem.F.plainAttrs_dict PySem.F.slot_dict_pop PySem.F.type_dict_pop (thn (ho pins s σ H _ I h) fun u s1 ⟨x, H1, I1, rx, a, ex, d, q1⟩ => ?_)
  subst ex
  obtain rfl : u = Value.ref a := rx
  obtain ⟨t1, t2, _⟩ := isN_at I1 d
  refine ⟨t1, t2, ?_⟩
  rw [m.trees]
  refine Calls.callWith_builtin rfl (Calls.evalArgs_plain (Calls.spliced_cons (thn (he pins s1 σ H1 _ I1 q1) fun iv s2 ⟨y, H2, I2, ry, kvs, k, b, v, ey, d2, nk, hv, q2⟩ => Calls.spliced_nil ?_)))
  subst ey
  obtain rfl : iv = Value.ref b := ry
  exact dn_pop hu I2 d2 nk hv fun w' φ s4 r4 I4 d4 => ⟨v, _, I4, r4, q2 φ d4⟩
end
end L2
namespace L2
open PySem PySem.Spec PyProof.Rows
end L2
namespace L2
open PySem PySem.Spec PyProof.Rows
theorem tuple_indexAt (l : Addr) (items : Array Value) (n : Nat) (dd : Option Addr) (sl : Array (Option Value)) (x : Value) (e : Value → Bool) (j : Nat) (hj : j < items.size) (hit : e items[j] = true) (hno : ∀ m (hm : m < items.size), m < j → e items[m] = false) :
    Meets (Builtin.«tuple.index» ⟨[.ref l, x], []⟩) (fun A R s => s.heap.get? l = some { cls := .type "tuple", dict := dd, data := .seq items n, slots := sl } ∧ (∀ y, y ∈ items → SeqAt.EqAt A.in1 s y x (e y)) ∧ R (.ok (.ret (.int j s.toks))) { s with toks := s.toks + 1 }) := by
  intro prog w A R s h
  obtain ⟨hp, g, d, tk, os⟩ := s
  obtain ⟨hl, he, h⟩ := h
  unfold Builtin.«tuple.index»
  simp only [Std.Legacy.Range.forIn_eq_forIn_range', Std.Legacy.Range.size, Nat.sub_zero, Nat.add_sub_cancel, Nat.div_one]
  wp_walk using wpAny_loadPart' hl
  have e0 : min items.size items.size - 0 = items.size := by simp
  refine (show wpAny _ _ (forIn (List.range' 0 (min items.size items.size - 0)) ((none, ()) : Option Fin × Unit) fun (i : Nat) (__s : Option Fin × Unit) => match items[i]? with
    | some y => do
      let b ← eqBool y x
      if b = true then do
        let r ← retInt ((i : Nat) : Int)
        pure (ForInStep.done (some r, ()))
      else pure (ForInStep.yield (none, ()))
    | _ => pure (ForInStep.yield (none, ()))) _ _ _ from ?_)
  rw [e0]
  refine wpAny_forIn_list _ (fun rest q s' => s' = ⟨hp, g, d, tk, os⟩ ∧ q = (none, ()) ∧ ∃ i, rest = List.range' i (items.size - i) ∧ i ≤ j) _ ?_ ?_ _ _ ⟨rfl, rfl, 0, by simp, Nat.zero_le _⟩
  · rintro y rest q s' ⟨rfl, rfl, i, hr, hi⟩
    have hlt : i < items.size := by omega
    obtain ⟨rfl, hrest⟩ : y = i ∧ rest = List.range' (i + 1) (items.size - (i + 1)) := by
      have e : items.size - i = (items.size - (i + 1)) + 1 := by omega
      rw [e, List.range'_succ] at hr
      injection hr with h1 h2
      exact ⟨h1, h2⟩
    rw [Array.getElem?_eq_getElem hlt]
    refine wpAny_bind (he _ (Array.getElem_mem hlt) prog w _ _ ?_)
    by_cases hij : y = j
    · subst hij
      rw [hit, if_pos rfl]
      wp_walk
      exact h
    · rw [hno y hlt (by omega), if_neg (by decide)]
      exact wpAny_pure ⟨rfl, rfl, y + 1, hrest, by omega⟩
  · rintro q s' ⟨rfl, rfl, i, hr, hi⟩
    have e : items.size - i = (items.size - (i + 1)) + 1 := by omega
    rw [e, List.range'_succ] at hr
    cases hr
section
variable {X : Cx}
inductive J_tindexI (K : PySem.W.Frag) (x : V) (xs : List V) (H : Hp) (Q : VK) : Prop
  | mk (l : Addr) (ws : List Int) (w : Int) (j : Nat) (e1 : x = .ref l) (e2 : xs = [.int w]) (hS : SqT K H l (ws.map V.int)) (hj : ws[j]? = some w) (hno : ∀ i, i < j → ws[i]? ≠ some w) (q : Q (.int j) H) : J_tindexI K x xs H Q
theorem mt_tindexI : MtR X "tuple.index" (fun x xs H Q => J_tindexI X.K x xs H Q) := by
  intro pins s σ H x xs v us Q I rx rv h
  obtain ⟨l, ws, w, j, rfl, rfl, hS, hj, hno, q⟩ := h
  cases rx
  obtain ⟨u, rfl, ru⟩ := rv.one
  obtain ⟨its, r, pl, hz⟩ := I.tuple hS
  obtain ⟨o, e, hc, n, hd⟩ := id pl
  have fs : (ws.map V.int).all flatV = true := by
    rw [List.all_eq_true]
    intro y hy
    obtain ⟨z, _, rfl⟩ := List.mem_map.mp hy
    rfl
  have hl := r.length
  rw [List.length_map] at hl
  have hjl : j < ws.length := (List.getElem?_eq_some_iff.mp hj).1
  obtain ⟨oc, od, oda, osl⟩ := o
  cases hc; cases hd
  have at_ : ∀ (i : Nat) (hi : i < its.length), eqU (.int w) its[i] = decide (ws[i]? = some w) := by
    intro i hi
    have hiw : i < ws.length := by omega
    have hr : RelV (V.int ws[i]) its[i] := vals_at r (by rw [List.getElem?_map, List.getElem?_eq_getElem hiw]; rfl) (List.getElem?_eq_getElem hi)
    rw [eqU_of hr rfl, List.getElem?_eq_getElem hiw]
    show (ws[i] == w) = _
    rw [Bool.eq_iff_iff, beq_iff_eq, decide_eq_true_iff]
    exact ⟨fun z => by rw [z], fun z => Option.some.inj z⟩
  refine call_meets F.slot_tuple_index ⟨_, e, rfl⟩ F.entry_tuple_index (F.args_tuple_index_2 _ _) (tuple_indexAt l its.toArray n od osl u (eqU (.int w)) j (by simpa using (by omega : j < its.length)) ?_ ?_) ⟨e, fun y hy => mem_eqAt ru rfl r fs y (by simpa using hy), ?_⟩
  · rw [List.getElem_toArray, at_ j (by omega)]; exact decide_eq_true hj
  · intro i hi hlt
    rw [List.getElem_toArray, at_ i (by simpa using hi)]; exact decide_eq_false (hno i hlt)
  · exact ⟨.int j, H, I.tok _, ⟨_, rfl⟩, q⟩
inductive J_neK (x y : V) (H : Hp) (Q : VK) : Prop
  | mk (a b : Addr) (kvs : List (Key × V)) (e1 : x = .ref a) (e2 : y = .ref b) (ha : H a = some (.dK kvs)) (hb : H b = some (.dK kvs)) (hi : ∀ kv ∈ kvs, ∃ n, kv.2 = .int n) (q : Q (.bl false) H) : J_neK x y H Q
noncomputable def rNeK : R2 := fun x y H Q => J_neK x y H Q
theorem op_neK (hu : X.A.units < cLine) : OpR X (compareOp .NotEq) rNeK := by
  intro pins s σ H x y v u Q I rx ry h
  obtain ⟨a, b, kvs, rfl, rfl, ha, hb, hi, q⟩ := h
  cases rx
  cases ry
  obtain ⟨z, y, vs, rel, dd⟩ := (show ObjOk X.prog X.w H s.heap a (.dK kvs) from I.hok a _ ha)
  obtain ⟨z', y', vs', rel', dd'⟩ := (show ObjOk X.prog X.w H s.heap b (.dK kvs) from I.hok b _ hb)
  have hn : (vs.map (·.1)).Nodup := let ⟨_, _, _, _, _, _, _, _, hn⟩ := dd; hn
  rw [← rel.keys] at hn
  refine PySem.W.keq_ne y y' dd dd' hu (fun _ => hits_same rel' rel fun kv hm => ⟨valV_mem hn kv hm, hi kv hm⟩) ?_
  have e : vs.length = vs'.length := by rw [← rel.length, ← rel'.length]
  rw [e, beq_self_eq_true]
  exact ⟨.bl false, H, I, rfl, q⟩
theorem pst_expr {e : Expr} {te : XK → TE} {pos : Pos} (he : PEt X e te) (hs : swapsWith e none pos.line X.env = pure false := by rfl) : PSt X [.Expr e pos] (fun E => tDrop (te E)) := by
  intro E pins s σ H D xe W I h
  exact wpAny_execs_cons (wpAny_Expr_any (thn (he E pins s σ H _ xe W I h) fun v s1 ⟨x, H1, I1, r1, q1⟩ => wpAny_execs_nil ⟨σ, H1, I1, q1⟩) I.quiet hs)
end
noncomputable def g21 {α : Type} : List α → List α → List α
  | [a, b], [c] => [a, b, c]
  | _, _ => []
theorem g21_rel {vs : List V} {us : List Value} {zs : List V} {ws : List Value} (r : Vals vs us) (q : Vals zs ws) : Vals (g21 vs zs) (g21 us ws) := by
  cases r with
  | nil => exact .nil
  | cons r1 r =>
    cases r with
    | nil => exact .nil
    | cons r2 r =>
      cases r with
      | cons _ _ => exact .nil
      | nil =>
        cases q with
        | nil => exact .nil
        | cons q1 q =>
          cases q with
          | nil => exact .cons r1 (.cons r2 (.cons q1 .nil))
          | cons _ _ => exact .nil
theorem g21_len {α : Type} {us ws : List α} (h : (g21 us ws).length = 3) : ∃ a b c, us = [a, b] ∧ ws = [c] := by
  unfold g21 at h
  split at h
  · exact ⟨_, _, _, rfl, rfl⟩
  · cases h
noncomputable def BindsK (K : PySem.W.Frag) (fd : FuncData) (ps ks : List Str) : Prop := KBinds K fd ps ks g21 g21
inductive J_tApp (Q : List V → Hp → Prop) (vs zs : List V) (H : Hp) : Prop
  | mk (v z : V) (e1 : vs = [v]) (e2 : zs = [z]) (q : Q [v, z] H) : J_tApp Q vs zs H
noncomputable def tApp (t tk : TA) : TA := fun σ H Q => t σ H fun vs H1 => tk σ H1 fun zs H2 => J_tApp Q vs zs H2
structure DefM3 (K : PySem.W.Frag) (C : Addr) (m qual : Str) (st : Stmt) (ps : List Str) (dvs : List V) (ks : List Str) : Prop where
  ex : ∃ f fd ds, FunD K m qual st f fd ∧ Meth K C m f ∧ Binds K fd ps ds ∧ Vals dvs ds ∧ Binds K fd ps [] ∧ BindsK K fd ps ks
structure HasM3 (P : Program) (w : World) (K : PySem.W.Frag) (mg : Str → Option Value) (base : Heap) (k : Nat) (C : Addr) (m : Str) (ps : List Str) (dvs : List V) (ks : List Str) (sp : Sp) : Prop where
  ex : ∃ f fd ds, FnOk P w K mg base (CXE P w) k f fd ps sp ∧ Meth K C m f ∧ Binds K fd ps ds ∧ Vals dvs ds ∧ Binds K fd ps [] ∧ BindsK K fd ps ks
theorem DefM3.has {P : Program} {w : World} {K : PySem.W.Frag} {mg : Str → Option Value} {base : Heap} {m qual : Str} {C : Addr} {st : Stmt} {N ps ks : List Str} {k : Nat} {sp : Sp} {dvs : List V} (D : DefM3 K C m qual st ps dvs ks) (S : FnScope N ps (defScope st)) (len : ∀ vs H Q E, sp vs H Q E → vs.length = ps.length)
    (hbody : ∀ (f : Addr) (cdv : Value) (A : Around) (outer : List Env) (s : Shared) (H : Hp) (vs : List V) (Q : VK) (E : XK), Room k (A.deeper (envOfC qual (defScope st) s.heap.objs.size f cdv)) → sp vs H Q E →
      ∃ t, PSs (cxOf (CXE P w) P w K mg base N qual (defScope st) f cdv A outer s H E) (defBody st) t ∧ t { nx := fun _ H' => Q .non H', rt := Q } (start N vs) H) : HasM3 P w K mg base (k + 1) C m ps dvs ks sp := by
  obtain ⟨f, fd, ds, F, hm, hb, hv, hb', hk⟩ := D.ex
  obtain ⟨oc, od, dV, kV, doc, pm, an, cdv, ct, osl, rfl, lk, hcd⟩ := F.ex
  exact ⟨f, _, ds, fn_of lk hcd S len fun A outer s H vs Q E hr hsp => hbody f cdv A outer s H vs Q E hr hsp, hm, hb, hv, hb', hk⟩
theorem HasM3.d {P : Program} {w : World} {K : PySem.W.Frag} {mg : Str → Option Value} {base : Heap} {m : Str} {C : Addr} {ps ks : List Str} {k : Nat} {sp : Sp} {dvs : List V} (h : HasM3 P w K mg base k C m ps dvs ks sp) : HasMd P w K mg base k C m ps dvs sp :=
  let ⟨f, fd, ds, F, hm, hb, hv, _, _⟩ := h.ex; ⟨f, fd, ds, F, hm, hb, hv⟩
theorem HasM3.a {P : Program} {w : World} {K : PySem.W.Frag} {mg : Str → Option Value} {base : Heap} {m : Str} {C : Addr} {ps ks : List Str} {k : Nat} {sp : Sp} {dvs : List V} (h : HasM3 P w K mg base k C m ps dvs ks sp) : HasM P w K mg base k C m ps sp :=
  let ⟨f, fd, _, F, hm, _, _, hb, _⟩ := h.ex; ⟨f, fd, F, hm, hb⟩
theorem pe_mKw {X : Cx} {k k' : Nat} {m : Str} {C : Addr} {ps ks : List Str} {dvs : List V} {sp : Sp} {pos apos : Pos} {e o : Expr} {es : List Expr} {kws : List Keyword} {ta : TE} {t tk : TA} {E : XK} {pl : Sem Bool} (h : HasM3 X.prog X.w X.K X.mg X.base k C m ps dvs ks sp) (c : Cls X.K C) (hr : Room k' X.A) (hk : k ≤ k') (hx : Passes (CXE X.prog X.w) X E) (he : PE X o ta) (ha : PA X (e :: es) t) (hkw : PK X kws tk)
    (hall : (backToKw pos (keywordEach kws X.env)).all (·.1.isSome) = true := by rfl) (hks : (backToKw pos (keywordEach kws X.env)).filterMap (·.1) = ks := by rfl)
    (hst : starEach (e :: es) X.env = (false, eval e X.env) :: starEach es X.env := by rfl) (hpl : ((backTo pos (starEach (e :: es) X.env)).any (·.1) || (backToKw pos (keywordEach kws X.env)).any (·.1.isNone)) = false := by rfl)
    (ht : eval (.Call (.Attribute o m apos) (e :: es) kws pos) X.env = (do
      let ov ← eval o X.env
      standAt apos.atName
      let (f, first) ← holding [ov] (getMethod ov m pl)
      callWith pos f first (backTo pos (starEach (e :: es) X.env)) (backToKw pos (keywordEach kws X.env))) := by rfl) :
    PE X (.Call (.Attribute o m apos) (e :: es) kws pos) (tMeth C m sp [] E ta (tApp t tk)) := by
  obtain ⟨f, fd, ds, F, hm, _, _, _, hb⟩ := h.ex
  intro pins s σ H Q I h
  refine PySem.W.methodCall_KW (pl := pl) (thn (he pins s σ H _ I h) fun u s1 ⟨x, H1, I1, rx, a, dx, fs, ex, ea, l, q⟩ => ?_) ht
  subst ex
  obtain rfl : u = Value.ref a := rx
  refine getmeth_ok I1 ea c hm l ?_
  refine PySem.W.callWith_KW (first := [.ref a]) (h₀ := X.base) I.ok.mod.kin hm.kp hall (thn (ha pos pins s1 σ H1 _ I1 q) fun us s2 ⟨vs, H2, I2, r, q2⟩ => ?_) hpl hst
  refine thn (hkw pos pins s2 σ H2 _ I2 q2) fun ws s3 ⟨zs, H3, I3, rz, q3⟩ => ⟨I3.kIn, ?_⟩
  rw [hks]
  obtain ⟨v, z, rfl, rfl, q3⟩ := q3
  exact run_fnk (us := .ref a :: us) (vs := [.ref a, v]) F (hr.mono hk) hb hx I3 (.cons rfl r) rz q3
end L2
namespace Sw
open PySem L2
theorem abc_inj : ∀ i, i < 26 → ∀ j, j < 26 → abc.cps.toList.getD i 97 = abc.cps.toList.getD j 97 → i = j := by decide +kernel
theorem word_inj {s : Int} {j k : Nat} (hj : j < 26) (hk : k < 26) (h : wordF s j = wordF s k) : j = k := by
  unfold wordF at h
  have h1 := congrArg (fun z : Str => z.cps.toList) h
  have e : ∀ x y : Str, (x ++ y).cps.toList = x.cps.toList ++ y.cps.toList := fun x y => by show (x.cps ++ y.cps).toList = _; rw [Array.toList_append]
  simp only [e, List.append_assoc] at h1
  have h2 := List.append_cancel_left h1
  have h3 : abc.cps.toList.getD ((s / 1664 + j) % 26).toNat 97 = abc.cps.toList.getD ((s / 1664 + k) % 26).toNat 97 := by
    have := congrArg (fun l : List Nat => l.head?) h2
    simpa [letF] using this
  have b1 := Int.emod_lt_of_pos (s / 1664 + j) (by decide : (0 : Int) < 26)
  have b2 := Int.emod_nonneg (s / 1664 + j) (by decide : (26 : Int) ≠ 0)
  have b3 := Int.emod_lt_of_pos (s / 1664 + k) (by decide : (0 : Int) < 26)
  have b4 := Int.emod_nonneg (s / 1664 + k) (by decide : (26 : Int) ≠ 0)
  have h4 := abc_inj _ (by omega) _ (by omega) h3
  omega
noncomputable def numK (rows : List Tm) (as : List Nat) (k : Nat) : Nat := if k < 9 then as.getD (k - 5) 0 else match rows[as.getD ((k - 9) / 4) 0]? with
  | some (.of _ bs) => bs.getD ((k - 9) % 4) 0
  | _ => 0
open Classical in
noncomputable def bindB (s : Int) (rows : List Tm) (as : List Nat) (w : Str) : Nat := if h : ∃ k : Nat, k < 26 ∧ wordF s k = w then numK rows as h.choose else 0
theorem bind_word (s : Int) (rows : List Tm) (as : List Nat) {k : Nat} (hk : k < 26) : bindB s rows as (wordF s k) = numK rows as k := by
  have h : ∃ k' : Nat, k' < 26 ∧ wordF s k' = wordF s k := ⟨k, hk, rfl⟩
  unfold bindB
  rw [dif_pos h]
  congr 1
  exact word_inj h.choose_spec.1 hk h.choose_spec.2
theorem bind_shallow {s : Int} {rows : List Tm} {as : List Nat} {f n : Nat} (hf : f < 4) (hn : as[f]? = some n) : bindB s rows as (wordF s ((5 : Int) + (f : Int))) = n := by
  have e : (5 : Int) + (f : Int) = ((5 + f : Nat) : Int) := by push_cast; rfl
  rw [e, bind_word s rows as (by omega)]
  unfold numK
  rw [if_pos (by omega), Nat.add_sub_cancel_left, List.getD_eq_getElem?_getD, hn]
  rfl
theorem bind_deep {s : Int} {rows : List Tm} {as bs : List Nat} {f n i b : Nat} {y : Str} (hf : f < 4) (hi : i < 4) (hn : as[f]? = some n) (hr : rows[n]? = some (.of y bs)) (hb : bs[i]? = some b) :
    bindB s rows as (wordF s ((9 : Int) + (4 : Int) * (f : Int) + (i : Int))) = b := by
  have e : (9 : Int) + (4 : Int) * (f : Int) + (i : Int) = ((9 + 4 * f + i : Nat) : Int) := by push_cast; rfl
  rw [e, bind_word s rows as (by omega)]
  unfold numK
  rw [if_neg (by omega), show (9 + 4 * f + i - 9) / 4 = f by omega, show (9 + 4 * f + i - 9) % 4 = i by omega, List.getD_eq_getElem?_getD, hn]
  show (match rows[n]? with
    | some (.of _ bs) => bs.getD i 0
    | _ => 0) = b
  rw [hr]
  show bs.getD i 0 = b
  rw [List.getD_eq_getElem?_getD, hb]; rfl
structure ArmOk (bf : Str → Nat) (rows : List Tm) (n : Nat) (p : T) (hs : List Str) : Prop where
  put : ∀ m, n < m → ptF bf (rows.take m) p = (rows.take m, n)
  slim : p.Slim
  deep : p.depth ≤ 2
  hol : ∀ w ∈ p.hol, w ∈ hs
theorem ArmOk.mono {bf : Str → Nat} {rows : List Tm} {n : Nat} {p : T} {hs hs' : List Str} (h : ArmOk bf rows n p hs) (hh : ∀ w ∈ hs, w ∈ hs') : ArmOk bf rows n p hs' := ⟨h.put, h.slim, h.deep, fun w hw => hh w (h.hol w hw)⟩
theorem add_here {rows : List Tm} {n m : Nat} {t : Tm} (hnd : rows.Nodup) (ht : rows[n]? = some t) (hm : n < m) : addF (rows.take m) t = (rows.take m, n) := by
  refine add_old (pos_is (by rw [List.getElem?_take_of_lt hm]; exact ht) fun j hj e => ?_)
  rw [List.getElem?_take_of_lt (by omega)] at e
  obtain ⟨l1, e1⟩ := List.getElem?_eq_some_iff.mp e
  obtain ⟨l2, e2⟩ := List.getElem?_eq_some_iff.mp ht
  have := (List.getElem_inj hnd).mp (e1.trans e2.symm)
  omega
theorem arm_any {bf : Str → Nat} {rows : List Tm} {n : Nat} {w : Str} {hs : List Str} (h : bf w = n) (hw : w ∈ hs) : ArmOk bf rows n (.any w) hs :=
  ⟨fun m _ => by rw [ptF, h], trivial, by rw [T.depth]; decide, fun x hx => by rw [T.hol] at hx; rw [List.mem_singleton.mp hx]; exact hw⟩
theorem arm_num {bf : Str → Nat} {rows : List Tm} {n : Nat} {k : Int} {hs : List Str} (hnd : rows.Nodup) (h : rows[n]? = some (.num k)) : ArmOk bf rows n (.num k) hs :=
  ⟨fun m hm => by rw [ptF]; exact add_here hnd h hm, trivial, by rw [T.depth]; decide, fun x hx => by rw [T.hol] at hx; cases hx⟩
theorem arm_name {bf : Str → Nat} {rows : List Tm} {n : Nat} {k : Str} {hs : List Str} (hnd : rows.Nodup) (h : rows[n]? = some (.name k)) : ArmOk bf rows n (.name k) hs :=
  ⟨fun m hm => by rw [ptF]; exact add_here hnd h hm, trivial, by rw [T.depth]; decide, fun x hx => by rw [T.hol] at hx; cases hx⟩
theorem puts_anys {bf : Str → Nat} {ts : List Tm} : ∀ (ws : List Str), ptsF bf ts (ws.map T.any) = (ts, ws.map bf)
  | [] => by rw [List.map_nil, ptsF]; rfl
  | w :: ws => by rw [List.map_cons, ptsF, ptF, puts_anys ws]; rfl
theorem hols_anys : ∀ (ws : List Str), T.hols (ws.map T.any) = ws
  | [] => by rw [List.map_nil, T.hols]
  | w :: ws => by rw [List.map_cons, T.hols, T.hol, hols_anys ws]; rfl
theorem deepest_all {n : Nat} : ∀ {ts : List T}, (∀ t ∈ ts, t.depth ≤ n) → T.deepest ts ≤ n
  | [], _ => by rw [T.deepest]; exact Nat.zero_le _
  | t :: ts, h => by
    rw [T.deepest]
    exact Nat.max_le.mpr ⟨h t List.mem_cons_self, deepest_all fun u hu => h u (List.mem_cons_of_mem _ hu)⟩
theorem arm_of {bf : Str → Nat} {rows : List Tm} {n : Nat} {y : Str} {bs : List Nat} {ws : List Str} {hs : List Str} (hnd : rows.Nodup) (h : rows[n]? = some (.of y bs)) (hb : ws.map bf = bs) (hl : bs.length ≤ 4) (hh : ∀ w ∈ ws, w ∈ hs) :
    ArmOk bf rows n (.of y (ws.map T.any)) hs := by
  refine ⟨fun m hm => ?_, ?_, ?_, fun x hx => ?_⟩
  · rw [ptF, puts_anys, hb]; exact add_here hnd h hm
  · rw [T.Slim]
    refine ⟨?_, slims_all.mpr fun t ht => ?_⟩
    · have := congrArg List.length hb
      rw [List.length_map] at this ⊢
      omega
    · obtain ⟨w, _, rfl⟩ := List.mem_map.mp ht
      trivial
  · rw [T.depth]
    have := deepest_all (n := 1) (ts := ws.map T.any) fun t ht => by
      obtain ⟨w, _, rfl⟩ := List.mem_map.mp ht
      rw [T.depth]; exact Nat.le_refl _
    omega
  · rw [T.hol, hols_anys] at hx
    exact hh x hx
structure PatOk (bf : Str → Nat) (rows : List Tm) (k : Nat) (t : Tm) (p : T) (hs : List Str) : Prop where
  put : ∀ m, k ≤ m → ptF bf (rows.take m) p = addF (rows.take m) t
  slim : p.Slim
  deep : p.depth ≤ 3
  hol : ∀ w ∈ p.hol, w ∈ hs
theorem pat_num {bf : Str → Nat} {rows : List Tm} {k : Nat} {z : Int} {hs : List Str} : PatOk bf rows k (.num z) (.num z) hs :=
  ⟨fun m _ => by rw [ptF], trivial, by rw [T.depth]; decide, fun x hx => by rw [T.hol] at hx; cases hx⟩
theorem pat_name {bf : Str → Nat} {rows : List Tm} {k : Nat} {z : Str} {hs : List Str} : PatOk bf rows k (.name z) (.name z) hs :=
  ⟨fun m _ => by rw [ptF], trivial, by rw [T.depth]; decide, fun x hx => by rw [T.hol] at hx; cases hx⟩
theorem puts_arms {bf : Str → Nat} {rows : List Tm} {m : Nat} {hs : List Str} : ∀ {as : List Nat} {ps : List T}, Paired (fun n p => ArmOk bf rows n p hs) as ps → (∀ a ∈ as, a < m) → ptsF bf (rows.take m) ps = (rows.take m, as)
  | _, _, .nil, _ => by rw [ptsF]
  | _, _, .cons h t, ha => by
    rw [ptsF, h.put m (ha _ List.mem_cons_self)]
    show ((ptsF bf (rows.take m) _).1, _ :: (ptsF bf (rows.take m) _).2) = _
    rw [puts_arms t fun a z => ha a (List.mem_cons_of_mem _ z)]
theorem paired_all {α β : Type} {R : α → β → Prop} {Z : β → Prop} (h : ∀ a b, R a b → Z b) : ∀ {xs : List α} {ys : List β}, Paired R xs ys → ∀ y ∈ ys, Z y
  | _, _, .nil, y, hy => by cases hy
  | _, _, .cons r t, y, hy => by
    rcases List.mem_cons.mp hy with rfl | z
    · exact h _ _ r
    · exact paired_all h t y z
theorem hols_all {ts : List T} {w : Str} (h : w ∈ T.hols ts) : ∃ t ∈ ts, w ∈ t.hol := by
  induction ts with
  | nil => rw [T.hols] at h; cases h
  | cons t ts ih =>
    rw [T.hols] at h
    rcases List.mem_append.mp h with z | z
    · exact ⟨t, List.mem_cons_self, z⟩
    · obtain ⟨u, hu, e⟩ := ih z
      exact ⟨u, List.mem_cons_of_mem _ hu, e⟩
theorem pat_of {bf : Str → Nat} {rows : List Tm} {k : Nat} {x : Str} {as : List Nat} {ps : List T} {hs : List Str} (ha : ∀ a ∈ as, a < k) (hl : as.length ≤ 4) (h : Paired (fun n p => ArmOk bf rows n p hs) as ps) : PatOk bf rows k (.of x as) (.of x ps) hs := by
  refine ⟨fun m hm => ?_, ?_, ?_, fun w hw => ?_⟩
  · rw [ptF, puts_arms h fun a z => Nat.lt_of_lt_of_le (ha a z) hm]
  · rw [T.Slim]
    have := Paired.length h
    exact ⟨by omega, slims_all.mpr (paired_all (fun _ _ z => z.slim) h)⟩
  · rw [T.depth]
    have := deepest_all (n := 2) (paired_all (Z := fun t => t.depth ≤ 2) (fun _ _ z => z.deep) h)
    omega
  · rw [T.hol] at hw
    obtain ⟨t, ht, e⟩ := hols_all hw
    exact paired_all (Z := fun t => ∀ w ∈ t.hol, w ∈ hs) (fun _ _ z => z.hol) h t ht w e
theorem pat_new {rows : List Tm} {k : Nat} {t : Tm} (hnd : rows.Nodup) (h : rows[k]? = some t) : addF (rows.take k) t = (rows.take (k + 1), k) := by
  obtain ⟨l, e⟩ := List.getElem?_eq_some_iff.mp h
  rw [add_new (pos_none.mpr fun z => ?_), List.take_succ, h, List.length_take, Nat.min_eq_left (by omega)]
  · rfl
  · obtain ⟨j, hj⟩ := List.getElem?_of_mem z
    have lj := (List.getElem?_eq_some_iff.mp hj).1
    rw [List.length_take] at lj
    rw [List.getElem?_take_of_lt (by omega)] at hj
    obtain ⟨l2, e2⟩ := List.getElem?_eq_some_iff.mp hj
    have := (List.getElem_inj hnd).mp (e2.trans e.symm)
    omega
noncomputable def NmW (s : Int) (t : Tm) : Prop := ∀ x, t = .name x → ∃ k : Nat, k < 25 ∧ x = wordF s k
theorem draw_bound {c f m : Int} (hm : 0 < m) : 0 ≤ drawF c f m ∧ drawF c f m < m := by
  unfold drawF
  exact ⟨Int.emod_nonneg _ (by omega), Int.emod_lt_of_pos _ hm⟩
theorem termF_N (s c : Int) (many : Nat) : NmW s (termF s c many) := by
  intro x e
  unfold termF at e
  split at e
  · unfold leafF at e
    split at e
    · cases e
    · split at e
      · cases e
      · obtain ⟨b1, b2⟩ := draw_bound (c := c) (f := 40692) (m := 4) (by decide)
        cases e
        exact ⟨(drawF c 40692 4).toNat, by omega, by rw [Int.toNat_of_nonneg b1]⟩
  · cases e
theorem fold_N (s : Int) : ∀ (cs : List V) {ts : List Tm}, (∀ t ∈ ts, NmW s t) → ∀ t ∈ cs.foldl (stepF s) ts, NmW s t
  | [], _, h => h
  | c :: cs, ts, h => fold_N s cs (ts := stepF s ts c) (fun t ht => by
      unfold stepF at ht
      split at ht
      · exact h t ht
      · rcases List.mem_append.mp ht with z | z
        · exact h t z
        · rw [List.mem_singleton.mp z]; exact termF_N _ _ _)
theorem terms_N (s : Int) (cs : List V) : ∀ t ∈ termsF s cs, NmW s t := fold_N s cs (fun t h => by cases h)
theorem name_new {s : Int} {ts : List Tm} (h : ∀ t ∈ ts, NmW s t) : posF ts (.name (wordF s 25)) = none := pos_none.mpr fun z => by
  obtain ⟨k, hk, e⟩ := h _ z _ rfl
  have := word_inj (s := s) (j := 25) (k := k) (by decide) (by omega) e
  omega
theorem lack_put {ts : List Tm} {nm w4 hole : Str} {m : Nat} (hl : ts.length = m) (hn : posF ts (.name nm) = none) (ha : Arms ts) :
    ptF (fun _ => m - 1) ts (.of w4 [.any hole, .name nm]) = (ts ++ [.name nm] ++ [.of w4 [m - 1, m]], m + 1) := by
  rw [ptF, ptsF, ptsF, ptsF, ptF, ptF, add_new hn, hl]
  rw [add_new (pos_none.mpr fun z => ?_)]
  · rw [List.length_append, hl]; rfl
  · rcases List.mem_append.mp z with z | z
    · obtain ⟨i, hi⟩ := List.getElem?_of_mem z
      have h1 := ha i _ _ hi m (by simp)
      have h2 := (List.getElem?_eq_some_iff.mp hi).1
      omega
    · cases List.mem_singleton.mp z
end Sw
namespace K12
open PySem L2 Sw
noncomputable def top (i : Nat) : Stmt := PySem.Challenge.pw_samewise_k12_holes_put.main.body.getD i (.Pass ⟨0, 0, 0, 0⟩)
noncomputable abbrev s_init : Stmt := inClass (top 5) 0
theorem sc_init : FnScope ["self", "room"] ["self", "room"] (defScope s_init) := ⟨rfl, rfl, rfl, by decide +kernel, rfl, by decide +kernel, by decide +kernel⟩
noncomputable abbrev s_put : Stmt := inClass (top 5) 1
theorem sc_put : FnScope ["self", "pattern", "binds", "many"] ["self", "pattern", "binds"] (defScope s_put) := ⟨rfl, rfl, rfl, by decide +kernel, rfl, by decide +kernel, by decide +kernel⟩
noncomputable abbrev s_put_part : Stmt := inClass (top 5) 2
theorem sc_put_part : FnScope ["self", "pattern", "binds", "numbers", "arm"] ["self", "pattern", "binds"] (defScope s_put_part) := ⟨rfl, rfl, rfl, by decide +kernel, rfl, by decide +kernel, by decide +kernel⟩
noncomputable abbrev s_put_term : Stmt := inClass (top 5) 3
theorem sc_put_term : FnScope ["self", "term"] ["self", "term"] (defScope s_put_term) := ⟨rfl, rfl, rfl, by decide +kernel, rfl, by decide +kernel, by decide +kernel⟩
noncomputable abbrev s_cut : Stmt := inClass (top 5) 5
theorem sc_cut : FnScope ["self", "many"] ["self", "many"] (defScope s_cut) := ⟨rfl, rfl, rfl, by decide +kernel, rfl, by decide +kernel, by decide +kernel⟩
noncomputable abbrev s_at : Stmt := top 7
theorem sc_at : FnScope ["_law_script", "_law_k"] ["_law_script", "_law_k"] (defScope s_at) := ⟨rfl, rfl, rfl, by decide +kernel, rfl, by decide +kernel, by decide +kernel⟩
noncomputable abbrev s_draw : Stmt := top 8
theorem sc_draw : FnScope ["_law_cell", "_law_factor", "_law_many"] ["_law_cell", "_law_factor", "_law_many"] (defScope s_draw) := ⟨rfl, rfl, rfl, by decide +kernel, rfl, by decide +kernel, by decide +kernel⟩
noncomputable abbrev s_word : Stmt := top 9
theorem sc_word : FnScope ["_law_script", "_law_which", "_law_letters", "_law_seed", "_law_size", "_law_place", "_law_rest", "_law_told"] ["_law_script", "_law_which"] (defScope s_word) := ⟨rfl, rfl, rfl, by decide +kernel, rfl, by decide +kernel, by decide +kernel⟩
noncomputable abbrev s_leaf : Stmt := top 10
theorem sc_leaf : FnScope ["_law_script", "_law_cell", "_law_pick"] ["_law_script", "_law_cell"] (defScope s_leaf) := ⟨rfl, rfl, rfl, by decide +kernel, rfl, by decide +kernel, by decide +kernel⟩
noncomputable abbrev s_term : Stmt := top 11
theorem sc_term : FnScope ["_law_script", "_law_cell", "_law_many", "_law_size", "_law_arms"] ["_law_script", "_law_cell", "_law_many"] (defScope s_term) := ⟨rfl, rfl, rfl, by decide +kernel, rfl, by decide +kernel, by decide +kernel⟩
noncomputable abbrev s_terms : Stmt := top 12
theorem sc_terms : FnScope ["_law_script", "_law_rows", "_law_cell", "_law_term_here"] ["_law_script"] (defScope s_terms) := ⟨rfl, rfl, rfl, by decide +kernel, rfl, by decide +kernel, by decide +kernel⟩
noncomputable abbrev s_whole : Stmt := top 13
theorem sc_whole : FnScope ["_law_found"] ["_law_found"] (defScope s_whole) := ⟨rfl, rfl, rfl, by decide +kernel, rfl, by decide +kernel, by decide +kernel⟩
noncomputable abbrev s_arm : Stmt := top 14
theorem sc_arm : FnScope ["_law_script", "_law_rows", "_law_number", "_law_j", "_law_deeper", "_law_given", "_law_word_here", "_law_arms", "_law_i"] ["_law_script", "_law_rows", "_law_number", "_law_j", "_law_deeper", "_law_given"] (defScope s_arm) := ⟨rfl, rfl, rfl, by decide +kernel, rfl, by decide +kernel, by decide +kernel⟩
noncomputable abbrev s_pattern : Stmt := top 15
theorem sc_pattern : FnScope ["_law_script", "_law_rows", "_law_term_here", "_law_given", "_law_arms", "_law_j", "_law_deeper", "_law_first"] ["_law_script", "_law_rows", "_law_term_here", "_law_given"] (defScope s_pattern) := ⟨rfl, rfl, rfl, by decide +kernel, rfl, by decide +kernel, by decide +kernel⟩
noncomputable abbrev s_filled : Stmt := top 16
theorem sc_filled : FnScope ["_law_script", "_law_rows", "_law_room", "_law_many", "_law_bank", "_law_k", "_law_given", "_law_pattern_here"] ["_law_script", "_law_rows", "_law_room", "_law_many"] (defScope s_filled) := ⟨rfl, rfl, rfl, by decide +kernel, rfl, by decide +kernel, by decide +kernel⟩
noncomputable abbrev s_refused : Stmt := top 17
theorem sc_refused : FnScope ["_law_bank", "_law_pattern_here", "_law_given", "_law_told"] ["_law_bank", "_law_pattern_here", "_law_given"] (defScope s_refused) := ⟨rfl, rfl, rfl, by decide +kernel, rfl, by decide +kernel, by decide +kernel⟩
noncomputable abbrev s_lacking : Stmt := top 18
theorem sc_lacking : FnScope ["_law_script", "_law_rows", "_law_many", "_law_bank", "_law_given", "_law_pattern_here", "_law_name", "_law_hole"] ["_law_script", "_law_rows"] (defScope s_lacking) := ⟨rfl, rfl, rfl, by decide +kernel, rfl, by decide +kernel, by decide +kernel⟩
noncomputable abbrev s_law : Stmt := top 19
theorem sc_law : FnScope ["_law_script", "_law_rows", "_law_bank", "_law_k", "_law_given", "_law_pattern_here", "_law_handed", "_law_found", "_law_again"] ["_law_script"] (defScope s_law) := ⟨rfl, rfl, rfl, by decide +kernel, rfl, by decide +kernel, by decide +kernel⟩
section
variable {P : Program} {w : World} {K : PySem.W.Frag} {mg : Str → Option Value} {base : Heap} {CB CF : Addr}
structure TopBk (K : PySem.W.Frag) (mg : Str → Option Value) (CB CF : Addr) : Prop where
  cB : Cls K CB
  nRoom : NoAttr K CB "room"
  nTerms : NoAttr K CB "terms"
  nPlaces : NoAttr K CB "places"
  oFull : Exc K mg "Full" CF
inductive SpInit (P : Program) (w : World) (CB : Addr) (vs : List V) (H : Hp) (Q : VK) : Prop
  | mk (b dx : Addr) (room : Int) (z0 : vs = [.ref b, .int room]) (z1 : H b = some (.ins CB dx [])) (z2 : ∀ H' L M, But b H H' → H L = none → H M = none → BankAt P w CB H' b dx L M room [] → Q .non H') : SpInit P w CB vs H Q
noncomputable def spInit (P : Program) (w : World) (CB : Addr) : Sp := fun vs H Q _ => SpInit P w CB vs H Q
theorem ok_init (Z : TopBk K mg CB CF) (D : DefC K mg "Bank" CB "Bank.__init__" s_init ["self", "room"]) : HasC P w K mg base 1 "Bank" CB ["self", "room"] (spInit P w CB) := by
  refine D.has sc_init (fun vs H Q E h => ?_) (fun f cdv A outer s H vs Q E hr h => ?_)
  · obtain ⟨b, dx, room, rfl, _⟩ := h; rfl
  obtain ⟨b, dx, room, rfl, hb, q⟩ := h
  refine ⟨_, (pss_cons (ps_fld (pv 0) (pv 1) rfl)
    (pss_cons (ps_fld (pv 0) (pe_lst pa_nil) rfl)
    (pss_one (ps_fld (pv 0) pe_dnewN rfl)))), ?_⟩
  try dsimp only [cxOf]
  refine ⟨_, rfl, _, rfl, b, CB, dx, _, rfl, hb, Z.cB, Z.nRoom, by decide, ?_⟩
  have b1 : But b H (upd H b (.ins CB dx [("room", .int room)])) := (But.refl b H).put
  refine ⟨Nat.zero_le _, fun L hL => ?_⟩
  have hLb : L ≠ b := fun e => by rw [e, upd_same] at hL; cases hL
  have hL0 : H L = none := by rw [upd_ne hLb] at hL; exact hL
  refine ⟨_, rfl, b, CB, dx, [("room", .int room)], rfl, (by rw [upd_ne (Ne.symm hLb), upd_same]; rfl), Z.cB, Z.nTerms, (show 1 < 1000 by decide), ?_⟩
  intro M φ hM hd
  have hMb : M ≠ b := fun e => by rw [e, upd_same] at hM; cases hM
  have hML : M ≠ L := fun e => by rw [e, upd_ne hLb, upd_same] at hM; cases hM
  have hM0 : H M = none := by rw [upd_ne hMb, upd_ne hML, upd_ne hMb] at hM; exact hM
  refine ⟨_, rfl, b, CB, dx, [("room", .int room), ("terms", .ref L)], rfl, (by rw [upd_ne (Ne.symm hMb), upd_same]; rfl), Z.cB, Z.nPlaces, (show 2 < 1000 by decide), ?_⟩
  refine q _ L M (fun c o n h => ?_) hL0 hM0 ⟨upd_same, ⟨[], ?_, .nil⟩, [], hd.keep (fun φ' z => ?_) (fun c ys z => ?_), rfl, fun t => ?_⟩
  · have h1 : c ≠ L := fun e => by rw [e, hL0] at h; cases h
    have h2 : c ≠ M := fun e => by rw [e, hM0] at h; cases h
    rw [upd_ne n, upd_ne h2, upd_ne n, upd_ne h1, upd_ne n]; exact h
  · rw [upd_ne hLb, upd_ne (Ne.symm hML), upd_ne hLb, upd_same]
  · rw [upd_ne hMb]; exact z
  · have h1 : c ≠ b := fun e => by rw [e, upd_ne (Ne.symm hMb), upd_same] at z; cases z
    rw [upd_ne h1]; exact z
  · rw [posF]; rfl
inductive SpPutTerm (P : Program) (w : World) (CB CF : Addr) (vs : List V) (H : Hp) (Q : VK) (E : XK) : Prop
  | mk (b dx L M : Addr) (room : Int) (ts : List Tm) (v : V) (t : Tm) (z0 : vs = [.ref b, v]) (z1 : BankAt P w CB H b dx L M room ts) (z2 : IsTm H t v) (z3 : ts.length ≤ 900) (z4 : ((posF ts t = none → (ts.length : Int) < room) → ∀ H', But2 L M H H' → BankAt P w CB H' b dx L M room (addF ts t).1 → Q (nV (addF ts t).2) H')) (z5 : (posF ts t = none → room ≤ (ts.length : Int) → E (.ref CF) none H)) : SpPutTerm P w CB CF vs H Q E
noncomputable def spPutTerm (P : Program) (w : World) (CB CF : Addr) : Sp := fun vs H Q E => SpPutTerm P w CB CF vs H Q E
theorem ok_put_term (B : Blt mg) (Z : TopBk K mg CB CF) (D : DefM K CB "put_term" "Bank.put_term" s_put_term ["self", "term"]) : HasM P w K mg base 1 CB "put_term" ["self", "term"] (spPutTerm P w CB CF) := by
  have oFull := Z.oFull
  refine D.has sc_put_term (fun vs H Q E h => ?_) (fun f cdv A outer s H vs Q E hr h => ?_)
  · obtain ⟨b, dx, L, M, room, ts, v, t, rfl, _⟩ := h; rfl
  obtain ⟨b, dx, L, M, room, ts, v, t, rfl, hB, hT, hz, q1, q2⟩ := h
  refine ⟨_, (pss_cons (ps_if (pt_cmp (pc_nnotin (un10 hr) (pv 1) (pe_fld (pv 0) rfl)) (by with_unfolding_all rfl)) (pss_cons (ps_if (pt_cmpR op_ge (pe_callB call_len_seq rfl B.len_ PySem.boot_len (pa_cons (pe_fld (pv 0) rfl) pa_nil)) (pe_fld (pv 0) rfl) (nomark _)) (pss_one (ps_raise oFull rfl (fun _ _ _ _ _ _ _ I hx q => flies I hx q) (pa_cons pe_str pa_nil) rfl)) pss_nil)
    (pss_cons (ps_nput (un10 hr) (pe_fld (pv 0) rfl) (pv 1) (pe_callB call_len_seq rfl B.len_ PySem.boot_len (pa_cons (pe_fld (pv 0) rfl) pa_nil)) rfl)
    (pss_one (ps_expr (pe_bm PySem.F.plainAttrs_list PySem.F.slot_list_append PySem.F.type_list_append mt_append (pe_fld (pv 0) rfl) (pa_cons (pv 1) pa_nil)))))) pss_nil)
    (pss_one (ps_ret (pe_nget (un10 hr) (pe_fld (pv 0) rfl) (pv 1) (fun _ _ => rfl))))), ?_⟩
  try dsimp only [cxOf]
  obtain ⟨kb, rfl, nk⟩ := hT.key
  have hB0 := hB
  obtain ⟨hb, ⟨us, hL, hts⟩, kvs, dn, hkl, hval⟩ := hB
  have hlen := Paired.length hts
  obtain ⟨nLM, nbL, nbM⟩ := hB0.ne
  refine ⟨_, rfl, _, rfl, b, CB, dx, _, _, rfl, hb, Z.cB, Z.nPlaces, rfl, M, kb, kvs, tmNK t, rfl, rfl, dn, nk, _, rfl, ?_⟩
  rw [hval t]
  cases e : posF ts t with
  | some i =>
    refine iteF ?_
    refine ⟨_, rfl, b, CB, dx, _, _, rfl, hb, Z.cB, Z.nPlaces, rfl, _, rfl, M, kb, kvs, tmNK t, nV i, rfl, rfl, dn, nk, (by rw [hval t, e]; rfl), ?_⟩
    have h1 := q1 (fun z => by rw [e] at z; cases z) H (But2.refl _ _ _)
    rw [add_old e] at h1
    exact h1 hB0
  | none =>
    refine iteT ?_
    refine ⟨_, rfl, b, CB, dx, _, _, rfl, hb, Z.cB, Z.nTerms, rfl, L, us, rfl, .inl (SqL.of hL), _, rfl, b, CB, dx, _, _, rfl, hb, Z.cB, Z.nRoom, rfl, _, _, rfl, rfl, _, rfl, iteD (fun hr1 => ?_) (fun hr1 => ?_)⟩
    · exact ⟨(show 1 ≤ sizeLine by decide), q2 e (by omega)⟩
    · refine ⟨_, rfl, b, CB, dx, _, _, rfl, hb, Z.cB, Z.nTerms, rfl, L, us, rfl, .inl (SqL.of hL), _, rfl, b, CB, dx, _, _, rfl, hb, Z.cB, Z.nPlaces, rfl, _, rfl, M, kb, kvs, tmNK t, rfl, rfl, dn, nk, small1000 (by omega), fun φ dn1 => ?_⟩
      rw [hlen] at dn1
      have hL1 : (upd H M (.ext φ)) L = some (.lst us) := by rw [upd_ne nLM]; exact hL
      have hb1 : (upd H M (.ext φ)) b = some _ := (upd_ne nbM).trans hb
      have bt1 : But2 L M H (upd H M (.ext φ)) := fun c o n m h => by rw [upd_ne m]; exact h
      have kt1 := hB0.tup bt1
      refine ⟨_, rfl, b, CB, dx, _, _, rfl, hb1, Z.cB, Z.nTerms, rfl, .inl ⟨rfl, _, SqL.of hL1⟩, _, rfl, L, us, _, rfl, rfl, hL1, small1000 (by omega), ?_⟩
      have bt2 : But2 L M H (upd (upd H M (.ext φ)) L (.lst (us ++ [.ref kb]))) := fun c o n m h => by rw [upd_ne n, upd_ne m]; exact h
      have kt2 := hB0.tup bt2
      have hL2 : (upd (upd H M (.ext φ)) L (.lst (us ++ [.ref kb]))) L = some (.lst (us ++ [.ref kb])) := upd_same
      have hb2 : (upd (upd H M (.ext φ)) L (.lst (us ++ [.ref kb]))) b = some _ := (upd_ne nbL).trans hb1
      have dn2 : DN P w (upd (upd H M (.ext φ)) L (.lst (us ++ [.ref kb]))) M (putK kvs (tmNK t) (.int (ts.length : Int))) := dn1.keep (fun φ' z => by rw [upd_ne (Ne.symm nLM)]; exact z) (fun c ys z => by rw [upd_ne (ne_of z hL1 (fun z => nomatch z))]; exact z)
      generalize upd (upd H M (.ext φ)) L (.lst (us ++ [.ref kb])) = H2 at bt2 kt2 hL2 hb2 dn2 ⊢
      have hv : valV (putK kvs (tmNK t) (.int (ts.length : Int))) (tmNK t) = some (nV ts.length) := by rw [valV_put, if_pos rfl]
      refine ⟨_, rfl, b, CB, dx, _, _, rfl, hb2, Z.cB, Z.nPlaces, rfl, _, rfl, M, kb, _, tmNK t, nV ts.length, rfl, rfl, dn2, nk.keep kt2, hv, ?_⟩
      have h1 := q1 (fun _ => by omega) H2 bt2
      rw [add_new e] at h1
      refine h1 ⟨hb2, ⟨_, hL2, Paired.snoc (tms_keep kt2 hts) (hT.keep kt2)⟩, _, dn2, ?_, fun u => ?_⟩
      · rw [putK_new _ (by rw [hval t, e]; rfl), List.length_append, List.length_append, hkl]; rfl
      · rw [valV_put, pos_app, hval u]
        by_cases z : tmNK u = tmNK t
        · rw [if_pos z, tmNK_inj z, e]; simp
        · rw [if_neg z]
          cases posF ts u with
          | some j => rfl
          | none => rw [if_neg (fun y => z (by rw [tmD_inj y]))]
end

end K12
namespace K12
open PySem L2 Sw
section
variable {P : Program} {w : World} {K : PySem.W.Frag} {mg : Str → Option Value} {base : Heap} {CB CF : Addr}
inductive SpPutPart (P : Program) (w : World) (CB CF : Addr) (n : Nat) (vs : List V) (H : Hp) (Q : VK) (E : XK) : Prop
  | mk (b dx L M : Addr) (room : Int) (ts : List Tm) (v bv : V) (p : T) (bf : Str → Nat) (z0 : vs = [.ref b, v, bv]) (z1 : BankAt P w CB H b dx L M room ts) (z2 : IsTr H p v) (z3 : p.depth ≤ n) (z4 : p.Slim) (z5 : BOk H bv bf p.hol) (z6 : (ptF bf ts p).1.length ≤ 900) (z7 : (ts.length : Int) ≤ room) (z8 : ((((ptF bf ts p).1.length : Int) ≤ room) → ∀ H', But2 L M H H' → BankAt P w CB H' b dx L M room (ptF bf ts p).1 → Q (nV (ptF bf ts p).2) H')) (z9 : (¬ (((ptF bf ts p).1.length : Int) ≤ room) → ∀ H' ts', But2 L M H H' → ts <+: ts' → ts' <+: (ptF bf ts p).1 → BankAt P w CB H' b dx L M room ts' → E (.ref CF) none H')) : SpPutPart P w CB CF n vs H Q E
noncomputable def spPutPart (P : Program) (w : World) (CB CF : Addr) (n : Nat) : Sp := fun vs H Q E => SpPutPart P w CB CF n vs H Q E
theorem add_len (ts : List Tm) (t : Tm) : (posF ts t = none → (addF ts t).1.length = ts.length + 1) ∧ (posF ts t ≠ none → (addF ts t).1 = ts) := by
  cases e : posF ts t with
  | some i => exact ⟨fun z => (by cases z), fun _ => (by rw [add_old e])⟩
  | none => exact ⟨fun _ => (by rw [add_new e]; simp), fun z => absurd rfl z⟩
theorem ok_put_part (B : Blt mg) (Z : TopBk K mg CB CF) (h_put_term : HasM P w K mg base 1 CB "put_term" ["self", "term"] (spPutTerm P w CB CF)) (D : DefM K CB "put_part" "Bank.put_part" s_put_part ["self", "pattern", "binds"]) :
    ∀ n, HasM P w K mg base (n + 1) CB "put_part" ["self", "pattern", "binds"] (spPutPart P w CB CF n)
  | 0 => by
    obtain ⟨fa, fd, F, hm, hb⟩ := D.ex
    have no : ∀ vs H Q E, ¬ spPutPart P w CB CF 0 vs H Q E := fun vs H Q E h => by
      obtain ⟨b, dx, L, M, room, ts, v, bv, p, bf, _, _, _, z, _⟩ := h
      have := depth_pos p
      omega
    exact ⟨fa, fd, ⟨fun vs H Q E h => absurd h (no vs H Q E), fun A outer s H args us vs Q E _ _ _ _ h => absurd h (no vs H Q E)⟩, hm, hb⟩
  | n + 1 => by
    have h_put_part := ok_put_part B Z h_put_term D n
    have cB := Z.cB
    refine D.has sc_put_part (fun vs H Q E h => ?_) (fun f cdv A outer s H vs Q E hr h => ?_)
    · obtain ⟨b, dx, L, M, room, ts, v, bv, p, bf, rfl, _⟩ := h; rfl
    obtain ⟨b, dx, L, M, room, ts, v, bv, p, bf, rfl, hB, hT, hd, hsl, hbo, hz, hro, q1, q2⟩ := h
    refine ⟨_, (pss_cons (ps_if (pt_cmpR op_eq (pe_ix ix_tup (pv 1) pe_int (fun _ _ => rfl)) pe_str (nomark _)) (pss_one (ps_ret (pe_dget (hu_of hr) (pv 2) (pe_ix ix_tup (pv 1) pe_int (fun _ _ => rfl)) (fun _ _ => rfl)))) pss_nil)
    (pss_cons (ps_if (pt_cmpR op_ne (pe_ix ix_tup (pv 1) pe_int (fun _ _ => rfl)) pe_str (nomark _)) (pss_one (ps_ret (pe_mE h_put_term cB hr (by omega) (passE fun _ _ _ z => z) (pv 0) (pa_cons (pv 1) pa_nil)))) pss_nil)
    (pss_cons (ps_set (i := 3) sc_put_part.nd rfl (Or.inl rfl) (pe_lst pa_nil))
    (pss_cons (ps_for PassesOwn.leaving rfl (pi_tup (pe_ix ix_tup (pv 1) pe_int (fun _ _ => rfl))) (pg_name (i := 4) sc_put_part.nd rfl (Or.inl rfl))
    (pss_one (ps_expr (pe_bm PySem.F.plainAttrs_list PySem.F.slot_list_append PySem.F.type_list_append mt_append (pv 3) (pa_cons (pe_mE h_put_part cB hr (by omega) (passE fun _ _ _ z => z) (pv 0) (pa_cons (pv 4) (pa_cons (pv 2) pa_nil))) pa_nil)))))
    (pss_one (ps_ret (pe_mE h_put_term cB hr (by omega) (passE fun _ _ _ z => z) (pv 0) (pa_cons (pe_tup (pa_cons pe_str (pa_cons (pe_ix ix_tup (pv 1) pe_int (fun _ _ => rfl)) (pa_cons (pe_callTy call_tuple_of rfl B.tuple_ boot_tuple_ (pa_cons (pv 3) pa_nil)) pa_nil)))) pa_nil)))))))), ?_⟩
    try dsimp only [cxOf]
    have hb := hB.1
    have leaf : ∀ (t : Tm), ptF bf ts p = addF ts t → IsTm H t v → spPutTerm P w CB CF [.ref b, v] H Q E := fun t e ht => by
      obtain ⟨a1, a2⟩ := add_len ts t
      rw [e] at q1 q2 hz
      refine ⟨b, dx, L, M, room, ts, v, t, rfl, hB, ht, by have := (add_pre ts t).length_le; omega, fun hf H' bt hB' => q1 ?_ H' bt hB', fun hn hl => q2 ?_ H ts (But2.refl _ _ _) (List.prefix_refl _) (add_pre _ _) hB⟩
      · by_cases hp : posF ts t = none
        · have := hf hp; rw [a1 hp]; omega
        · rw [a2 hp]; exact hro
      · rw [a1 hn]; omega
    cases p with
    | num k =>
      rw [IsTr] at hT
      obtain ⟨a, rfl, h⟩ := hT
      refine ⟨_, rfl, a, _, 0, _, rfl, rfl, SqT.of h, atI_nat (j := 0) rfl, rfl, _, rfl, iteD (fun z => absurd (V.str.inj z) (by decide)) (fun _ => ?_)⟩
      refine ⟨_, rfl, a, _, 0, _, rfl, rfl, SqT.of h, atI_nat (j := 0) rfl, rfl, _, rfl, iteDN (fun _ => ?_) (fun z => absurd (V.str.inj z) (by decide))⟩
      exact ⟨_, rfl, b, dx, _, rfl, hb, rfl, _, rfl, leaf (.num k) (by rw [ptF]) ⟨a, rfl, h⟩⟩
    | name k =>
      rw [IsTr] at hT
      obtain ⟨a, rfl, h⟩ := hT
      refine ⟨_, rfl, a, _, 0, _, rfl, rfl, SqT.of h, atI_nat (j := 0) rfl, rfl, _, rfl, iteD (fun z => absurd (V.str.inj z) (by decide)) (fun _ => ?_)⟩
      refine ⟨_, rfl, a, _, 0, _, rfl, rfl, SqT.of h, atI_nat (j := 0) rfl, rfl, _, rfl, iteDN (fun _ => ?_) (fun z => absurd (V.str.inj z) (by decide))⟩
      exact ⟨_, rfl, b, dx, _, rfl, hb, rfl, _, rfl, leaf (.name k) (by rw [ptF]) ⟨a, rfl, h⟩⟩
    | any k =>
      rw [IsTr] at hT
      obtain ⟨a, rfl, h⟩ := hT
      refine ⟨_, rfl, a, _, 0, _, rfl, rfl, SqT.of h, atI_nat (j := 0) rfl, rfl, _, rfl, iteD (fun _ => ?_) (fun z => absurd rfl z)⟩
      obtain ⟨Dk, kvs, rfl, hD, hv⟩ := hbo k (by rw [T.hol]; exact List.mem_singleton_self _)
      rw [ptF] at q1
      refine ⟨_, rfl, _, rfl, a, _, 1, _, rfl, rfl, SqT.of h, atI_nat (j := 1) rfl, Dk, nV (bf k), rfl, ?_, q1 hro H (But2.refl _ _ _) hB⟩
      have := DGet.k (k := (.inr k : Key)) hD
      rw [hv] at this
      exact this
    | of x as =>
      rw [IsTr] at hT
      obtain ⟨a, c, avs, rfl, h, hc, hts⟩ := hT
      have hla := trs_len hts
      rw [T.depth] at hd
      rw [T.Slim] at hsl
      refine ⟨_, rfl, a, _, 0, _, rfl, rfl, SqT.of h, atI_nat (j := 0) rfl, rfl, _, rfl, iteD (fun z => absurd (V.str.inj z) (by decide)) (fun _ => ?_)⟩
      refine ⟨_, rfl, a, _, 0, _, rfl, rfl, SqT.of h, atI_nat (j := 0) rfl, rfl, _, rfl, iteDN (fun z => absurd rfl z) (fun _ => ?_)⟩
      refine ⟨Nat.zero_le _, fun S hS => ?_⟩
      dsimp only [gName]
      have hSL : S ≠ L := fun e => by obtain ⟨us, hL, _⟩ := hB.2.1; rw [e, hL] at hS; cases hS
      have hSM : S ≠ M := fun e => by obtain ⟨kvs, dn, _⟩ := hB.2.2; obtain ⟨φ, e4⟩ := dn.ext; rw [e, e4] at hS; cases hS
      have s0 := same_new hS (.lst [])
      have hS0 := upd_same (H := H) (a := S) (o := .lst [])
      generalize upd H S (.lst []) = H0 at s0 hS0 ⊢
      have hof : (ptF bf ts (.of x as)) = addF (ptsF bf ts as).1 (.of x (ptsF bf ts as).2) := by rw [ptF]
      have hz1 : (ptsF bf ts as).1.length ≤ 900 := by have := (add_pre (ptsF bf ts as).1 (.of x (ptsF bf ts as).2)).length_le; rw [hof] at hz; omega
      refine ⟨_, rfl, a, _, 2, _, rfl, rfl, SqT.of (s0 _ _ h), atI_nat (j := 2) rfl, c, rfl, ⟨_, SqT.of (s0 _ _ hc)⟩, ?_⟩
      refine for_tup (xs := avs) (fun i σ H' => ∃ o, σ = [some (.ref b), some (.ref a), some bv, some (.ref S), o] ∧ But2 L M H H' ∧ H' S = some (.lst ((ptsF bf ts (as.take i)).2.map nV)) ∧ BankAt P w CB H' b dx L M room (ptsF bf ts (as.take i)).1 ∧ ((ptsF bf ts (as.take i)).1.length : Int) ≤ room)
        ⟨none, rfl, Same.but2 s0, by rw [List.take_zero, ptsF]; exact hS0, by rw [List.take_zero, ptsF]; exact hB.same s0, by rw [List.take_zero, ptsF]; exact hro⟩ ?_ ?_ ?_
      · rintro i σ H' _ ⟨o, rfl, bt, _⟩
        exact SqT.of (hB.tup bt _ _ hc)
      · rintro i y σ H' hy ⟨o, rfl, bt, hS', hB', hr'⟩
        obtain ⟨t, ht, hyt⟩ := trs_at hts hy
        have hmem := List.mem_of_getElem? ht
        have et : as.take (i + 1) = as.take i ++ [t] := by rw [List.take_add_one, ht]; rfl
        have e1 : (ptsF bf ts (as.take (i + 1))).1 = (ptF bf (ptsF bf ts (as.take i)).1 t).1 := by rw [et, puts_snoc]
        have e2 : (ptsF bf ts (as.take (i + 1))).2 = (ptsF bf ts (as.take i)).2 ++ [(ptF bf (ptsF bf ts (as.take i)).1 t).2] := by rw [et, puts_snoc]
        have p1 : (ptF bf (ptsF bf ts (as.take i)).1 t).1 <+: (ptsF bf ts as).1 := by rw [← e1]; exact puts_take _ _ _ _
        have p2 : (ptsF bf ts as).1 <+: (ptF bf ts (.of x as)).1 := by rw [hof]; exact add_pre _ _
        have l2 := puts_len bf (as.take i) ts
        rw [List.length_take] at l2
        refine ⟨_, rfl, .inl ⟨rfl, _, SqL.of hS'⟩, _, rfl, b, dx, _, rfl, hB'.1, rfl, _, rfl, _, rfl, b, dx, L, M, room, _, y, bv, t, bf, rfl, hB', tr_keep (hB.tup bt) hyt, ?_, slims_all.mp hsl.2 t hmem, hB.bok bt fun w hw => hbo w (by rw [T.hol]; exact hols_mem hmem hw), by have := p1.length_le; omega, hr', fun hf H2 bt2 hB2 => ?_, fun hnf H2 ts' bt2 t1 t2 hB2 => ?_⟩
        · have := deepest_le hmem; omega
        · have hS2 := bt2 _ _ hSL hSM hS'
          have bS : But S H2 (upd H2 S (.lst ((ptsF bf ts (as.take i)).2.map nV ++ [nV (ptF bf (ptsF bf ts (as.take i)).1 t).2]))) := (But.refl S H2).put
          refine ⟨S, _, _, rfl, rfl, hS2, small1000 ?_, ⟨some y, rfl, fun c' o' n m h' => ?_, ?_, ?_, ?_⟩⟩
          · rw [List.length_map]; have := hsl.1; omega
          · have : c' ≠ S := fun e => by rw [e, hS] at h'; cases h'
            rw [upd_ne this]
            exact bt2 _ _ n m (bt _ _ n m h')
          · rw [upd_same, e2, List.map_append]; rfl
          · rw [e1]; exact hB2.keep hS2 hSL bS
          · rw [e1]; exact hf
        · refine q2 ?_ H2 ts' (bt.trans bt2) ((puts_pre _ _ _).trans t1) (t2.trans (p1.trans p2)) hB2
          have := (p1.trans p2).length_le
          omega
      · rintro σ H' ⟨o, rfl, bt, hS', hB', hr'⟩
        rw [hla.symm, List.take_length] at hS' hB' hr'
        have h' := hB.tup bt _ _ h
        refine ⟨_, rfl, b, dx, _, rfl, hB'.1, rfl, _, rfl, a, _, 1, _, rfl, rfl, SqT.of h', atI_nat (j := 1) rfl, _, rfl, S, _, rfl, .inl ⟨SqL.of hS', fun tl htl => ?_⟩⟩
        have s1 := same_new htl (.tup ((ptsF bf ts as).2.map nV))
        have g1 := upd_same (H := H') (a := tl) (o := .tup ((ptsF bf ts as).2.map nV))
        generalize upd H' tl (.tup ((ptsF bf ts as).2.map nV)) = H1 at s1 g1 ⊢
        refine ⟨(show 3 ≤ sizeLine by decide), fun tp htp => ?_⟩
        have s2 := same_new htp (.tup [.str "of", .str x, .ref tl])
        have g2 := upd_same (H := H1) (a := tp) (o := .tup [.str "of", .str x, .ref tl])
        generalize upd H1 tp (.tup [.str "of", .str x, .ref tl]) = H2 at s2 g2 ⊢
        obtain ⟨a1, a2⟩ := add_len (ptsF bf ts as).1 (.of x (ptsF bf ts as).2)
        rw [hof] at q1 q2
        refine ⟨b, dx, L, M, room, _, _, .of x (ptsF bf ts as).2, rfl, (hB'.same s1).same s2, tm_of g2 (s2 _ _ g1), hz1, fun hf H3 bt3 hB3 => q1 ?_ H3 (((bt.same s1).same s2).trans bt3) hB3, fun hn hl => q2 ?_ H2 _ ((bt.same s1).same s2) (puts_pre _ _ _) (add_pre _ _) ((hB'.same s1).same s2)⟩
        · by_cases hp : posF (ptsF bf ts as).1 (.of x (ptsF bf ts as).2) = none
          · have := hf hp; rw [a1 hp]; omega
          · rw [a2 hp]; exact hr'
        · rw [a1 hn]; omega
end

end K12
namespace K12
open PySem L2 Sw
section
variable {P : Program} {w : World} {K : PySem.W.Frag} {mg : Str → Option Value} {base : Heap} {CB CF : Addr}
theorem paired_snoc_inv {α β : Type} {R : α → β → Prop} : ∀ {ys : List β} {xs : List α} {y : β}, Paired R xs (ys ++ [y]) → ∃ xs' x, xs = xs' ++ [x] ∧ Paired R xs' ys ∧ R x y
  | [], _, _, .cons h .nil => ⟨[], _, rfl, .nil, h⟩
  | _ :: ys, _, _, .cons h t => by
    obtain ⟨xs', x, rfl, r, q⟩ := paired_snoc_inv (ys := ys) t
    exact ⟨_ :: xs', x, rfl, .cons h r, q⟩
theorem kn_keys {H : Hp} {kvs : List (NK × V)} {xs : List (NK × Addr × Value)} (r : KN H kvs xs) : kvs.map (·.1) = xs.map (·.1) := by
  induction r with
  | nil => rfl
  | cons h _ ih => rw [List.map_cons, List.map_cons, ih, h.1]
theorem dn_nodup {H : Hp} {a : Addr} {kvs : List (NK × V)} (d : DN P w H a kvs) : (kvs.map (·.1)).Nodup := by
  obtain ⟨_, _, xs, o, es, ep, _, r, _, _, _, hn⟩ := d
  rw [kn_keys r]; exact hn
theorem val_at : ∀ {kvs : List (NK × V)} {k : NK} {v : V}, valV kvs k = some v → ∃ j : Nat, kvs[j]? = some (k, v)
  | [], k, v, h => by rw [valV_nil] at h; cases h
  | p :: r, k, v, h => by
    by_cases e : p.1 = k
    · rw [valV_pos e] at h
      cases h
      exact ⟨0, by rw [← e]; rfl⟩
    · rw [valV_neg e] at h
      obtain ⟨j, hj⟩ := val_at h
      exact ⟨j + 1, by rw [List.getElem?_cons_succ]; exact hj⟩
theorem drop_len {kvs : List (NK × V)} {k : NK} {v : V} (hn : (kvs.map (·.1)).Nodup) (h : valV kvs k = some v) : (dropN kvs k).length + 1 = kvs.length := by
  obtain ⟨j, hj⟩ := val_at h
  have jl := (List.getElem?_eq_some_iff.mp hj).1
  unfold dropN
  rw [← erase_key hn hj, List.length_eraseIdx_of_lt jl]
  omega
theorem pos_drop {r : List Tm} {t : Tm} (hn : (r ++ [t]).Nodup) (u : Tm) : posF r u = if tmNK u = tmNK t then none else posF (r ++ [t]) u := by
  have nt : t ∉ r := fun z => by
    rw [List.nodup_append] at hn
    exact hn.2.2 t z t (List.mem_singleton_self t) rfl
  by_cases e : u = t
  · subst e
    rw [if_pos rfl, pos_none]
    exact nt
  · rw [if_neg (fun z => e (tmNK_inj z)), pos_app]
    cases posF r u with
    | some i => rfl
    | none => rw [if_neg (fun z => e (tmD_inj z).symm)]
theorem bank_pop {H : Hp} {b dx L M : Addr} {room : Int} {r : List Tm} {t : Tm} (hB : BankAt P w CB H b dx L M room (r ++ [t])) (hn : (r ++ [t]).Nodup) :
    ∃ us kb kvs, H L = some (.lst (us ++ [.ref kb])) ∧ us.length = r.length ∧ DN P w H M kvs ∧ NKey H (tmNK t) kb ∧ valV kvs (tmNK t) = some (nV r.length) ∧ DN P w (upd H L (.lst us)) M kvs ∧ NKey (upd H L (.lst us)) (tmNK t) kb ∧
      ∀ φ, DN P w (upd (upd H L (.lst us)) M (.ext φ)) M (dropN kvs (tmNK t)) → BankAt P w CB (upd (upd H L (.lst us)) M (.ext φ)) b dx L M room r := by
  obtain ⟨nLM, nbL, nbM⟩ := hB.ne
  obtain ⟨hb, ⟨us', hL, hts⟩, kvs, dn, hkl, hval⟩ := hB
  obtain ⟨us, u, rfl, hts', ht⟩ := paired_snoc_inv hts
  obtain ⟨kb, rfl, nk⟩ := ht.key
  have hv : valV kvs (tmNK t) = some (nV r.length) := by
    rw [hval, pos_app, show posF r t = none from pos_none.mpr fun z => by
      rw [List.nodup_append] at hn
      exact hn.2.2 t z t (List.mem_singleton_self t) rfl]
    rw [if_pos rfl]; rfl
  have tup : ∀ c ys, H c = some (.tup ys) → (upd H L (.lst us)) c = some (.tup ys) := fun c ys e => by rw [upd_ne (ne_of e hL (fun z => nomatch z))]; exact e
  have ex : ∀ φ, H M = some (.ext φ) → (upd H L (.lst us)) M = some (.ext φ) := fun φ e => by rw [upd_ne (Ne.symm nLM)]; exact e
  obtain ⟨φ0, e0⟩ := dn.ext
  refine ⟨us, kb, kvs, hL, Paired.length hts', dn, nk, hv, dn.keep ex tup, nk.keep tup, fun φ d' => ⟨?_, ⟨us, ?_, ?_⟩, dropN kvs (tmNK t), d', ?_, fun u => ?_⟩⟩
  · rw [upd_ne nbM, upd_ne nbL]; exact hb
  · rw [upd_ne nLM, upd_same]
  · refine tms_keep (fun c ys e => ?_) hts'
    rw [upd_ne (ne_of e e0 (fun z => nomatch z))]; exact tup c ys e
  · have := drop_len (dn_nodup dn) hv
    rw [List.length_append, List.length_singleton] at hkl
    omega
  · rw [valV_dropN, pos_drop hn, hval]
    split <;> rfl
inductive SpCut (P : Program) (w : World) (CB : Addr) (vs : List V) (H : Hp) (Q : VK) : Prop
  | mk (b dx L M : Addr) (room : Int) (ts : List Tm) (m : Nat) (z0 : vs = [.ref b, nV m]) (z1 : BankAt P w CB H b dx L M room ts) (z2 : ts.Nodup) (z3 : ts.length ≤ 900) (z4 : ∀ H', But2 L M H H' → BankAt P w CB H' b dx L M room (ts.take m) → Q .non H') : SpCut P w CB vs H Q
noncomputable def spCut (P : Program) (w : World) (CB : Addr) : Sp := fun vs H Q _ => SpCut P w CB vs H Q
inductive CutI (P : Program) (w : World) (CB : Addr) (H : Hp) (b dx L M : Addr) (room : Int) (ts : List Tm) (m n : Nat) (σ : St) (H' : Hp) : Prop
  | mk : (σ = [some (.ref b), some (nV m)]) → But2 L M H H' → BankAt P w CB H' b dx L M room (ts.take n) → n ≤ ts.length → (n = ts.length ∨ m ≤ n) → CutI P w CB H b dx L M room ts m n σ H'

theorem ok_cutN (B : Blt mg) (Z : TopBk K mg CB CF) (D : DefM K CB "cut" "Bank.cut" s_cut ["self", "many"]) : HasMN P w K mg base 1 CB "cut" ["self", "many"] (spCut P w CB) := by
  have cB := Z.cB
  refine D.hasN sc_cut (fun vs H Q E h => ?_) (fun f cdv A outer s H vs Q hr h => ?_)
  · obtain ⟨b, dx, L, M, room, ts, m, rfl, _⟩ := h; rfl
  obtain ⟨b, dx, L, M, room, ts, m, rfl, hB, hn, hz, q⟩ := h
  refine ⟨_, (pss_one (ps_while PassesOwn.never (pt_cmpR op_gt (pe_callB call_len_seq rfl B.len_ PySem.boot_len (pa_cons (pe_fld (pv 0) rfl) pa_nil)) (pv 1) (nomark _))
    (pss_one (ps_expr (pe_popN (un10N hr) (pe_fld (pv 0) rfl) (pe_bm0 PySem.F.plainAttrs_list PySem.F.slot_list_pop PySem.F.type_list_pop mt_pop (pe_fld (pv 0) rfl)) ⟨rfl, rfl, rfl, rfl⟩))))), ?_⟩
  try dsimp only [cxOf]
  refine ⟨CutI P w CB H b dx L M room ts m, ⟨ts.length, rfl, But2.refl _ _ _, by rw [List.take_length]; exact hB, Nat.le_refl _, .inl rfl⟩, ?_⟩
  rintro n σ H1 ⟨rfl, bt, hB1, hnl, hor⟩
  obtain ⟨us, hL, hts⟩ := id hB1.2.1
  have hlen : us.length = n := by rw [Paired.length hts, List.length_take]; omega
  refine ⟨_, rfl, b, CB, dx, _, _, rfl, hB1.1, Z.cB, Z.nTerms, rfl, L, us, rfl, .inl (SqL.of hL), _, rfl, _, _, rfl, rfl, _, rfl, ?_⟩
  by_cases hlt : ((m : Nat) : Int) < ((us.length : Nat) : Int)
  rotate_left
  · rw [decide_eq_false hlt]
    refine iteF ?_
    have e : ts.take n = ts.take m := by
      rcases hor with h | h
      · rw [List.take_of_length_le (by omega), List.take_of_length_le (by omega)]
      · rw [show n = m by omega]
    rw [e] at hB1
    exact q H1 bt hB1
  rw [decide_eq_true hlt]
  obtain ⟨k, rfl⟩ : ∃ k, n = k + 1 := ⟨n - 1, by omega⟩
  have ek : ts.take (k + 1) = ts.take k ++ [ts[k]'(by omega)] := by rw [List.take_add_one, List.getElem?_eq_getElem (by omega)]; rfl
  have hn1 : (ts.take k ++ [ts[k]'(by omega)]).Nodup := by rw [← ek]; exact hn.sublist (List.take_sublist _ _)
  rw [ek] at hB1
  obtain ⟨us', kb, kvs, hL', hul, dn, nk, hv, dn', nk', fin⟩ := bank_pop hB1 hn1
  refine iteT ⟨CutI P w CB H b dx L M room ts m k, fun σ' H' h => ⟨k, Nat.lt_succ_self k, h⟩, ?_⟩
  refine ⟨_, rfl, b, CB, dx, _, _, rfl, hB1.1, Z.cB, Z.nPlaces, rfl, M, rfl, ⟨kvs, dn⟩, ?_⟩
  refine ⟨_, rfl, b, CB, dx, _, _, rfl, hB1.1, Z.cB, Z.nTerms, rfl, .inl ⟨rfl, _, SqL.of hL'⟩, L, _, .ref kb, rfl, rfl, hL', (by rw [List.length_append, List.length_singleton, Nat.add_sub_cancel, List.getElem?_concat_length]), ?_⟩
  rw [List.dropLast_concat]
  refine ⟨kvs, tmNK (ts[k]'(by omega)), kb, _, rfl, dn', nk', hv, fun φ d' => ?_⟩
  refine ⟨rfl, fun c u n1 n2 e => ?_, fin φ d', by omega, .inr (by omega)⟩
  rw [upd_ne n2, upd_ne n1]
  exact bt c u n1 n2 e

end

end K12
namespace K12
open PySem L2 Sw
section
variable {P : Program} {w : World} {K : PySem.W.Frag} {mg : Str → Option Value} {base : Heap} {CB CF : Addr}
theorem add_nodup {ts : List Tm} {t : Tm} (h : ts.Nodup) : (addF ts t).1.Nodup := by
  cases e : posF ts t with
  | some i => rw [add_old e]; exact h
  | none =>
    rw [add_new e]
    refine List.nodup_append.mpr ⟨h, List.nodup_cons.mpr ⟨List.not_mem_nil, List.nodup_nil⟩, fun a ha b hb z => ?_⟩
    rw [List.mem_singleton.mp hb] at z
    exact pos_none.mp e (z ▸ ha)
mutual
theorem put_nodup (bf : Str → Nat) : ∀ (t : T) (ts : List Tm), ts.Nodup → (ptF bf ts t).1.Nodup
  | .any x, ts, h => by rw [ptF]; exact h
  | .num n, ts, h => by rw [ptF]; exact add_nodup h
  | .name n, ts, h => by rw [ptF]; exact add_nodup h
  | .of x as, ts, h => by rw [ptF]; exact add_nodup (puts_nodup bf as ts h)
theorem puts_nodup (bf : Str → Nat) : ∀ (as : List T) (ts : List Tm), ts.Nodup → (ptsF bf ts as).1.Nodup
  | [], ts, h => by rw [ptsF]; exact h
  | a :: as, ts, h => by rw [ptsF]; exact puts_nodup bf as _ (put_nodup bf a ts h)
end
inductive SpPutE (P : Program) (w : World) (CB CF : Addr) (n : Nat) (vs : List V) (H : Hp) (Q : VK) (E : XK) : Prop
  | mk (b dx L M : Addr) (room : Int) (ts : List Tm) (v bv : V) (p : T) (bf : Str → Nat) (z0 : vs = [.ref b, v, bv]) (z1 : BankAt P w CB H b dx L M room ts) (z2 : ts.Nodup) (z3 : IsTr H p v) (z4 : p.depth ≤ n) (z5 : p.Slim) (z6 : BOk H bv bf p.hol) (z7 : (ptF bf ts p).1.length ≤ 900) (z8 : (ts.length : Int) ≤ room)
    (z9 : (((ptF bf ts p).1.length : Int) ≤ room) → ∀ H', But2 L M H H' → BankAt P w CB H' b dx L M room (ptF bf ts p).1 → Q (nV (ptF bf ts p).2) H')
    (z10 : ¬ (((ptF bf ts p).1.length : Int) ≤ room) → ∀ H' ea, But2 L M H H' → BankAt P w CB H' b dx L M room ts → E (.ref CF) (some ea) H') : SpPutE P w CB CF n vs H Q E
noncomputable def spPutE (P : Program) (w : World) (CB CF : Addr) (n : Nat) : Sp := fun vs H Q E => SpPutE P w CB CF n vs H Q E
theorem ok_putE {n : Nat} (B : Blt mg) (Z : TopBk K mg CB CF) (mFF : PySem.W.exmOne K (.ref CF) (.ref CF) = some true) (h_put_part : HasM P w K mg base (n + 1) CB "put_part" ["self", "pattern", "binds"] (spPutPart P w CB CF n)) (h_cutN : HasMN P w K mg base 1 CB "cut" ["self", "many"] (spCut P w CB))
    (D : DefM3 K CB "put" "Bank.put" s_put ["self", "pattern", "binds"] [.non] ["binds"]) : HasM3 P w K mg base (n + 2) CB "put" ["self", "pattern", "binds"] [.non] ["binds"] (spPutE P w CB CF n) := by
  have cB := Z.cB
  have oFull := Z.oFull
  have e_Full := Z.oFull.glob
  refine D.has sc_put (fun vs H Q E h => ?_) (fun f cdv A outer s H vs Q E hr h => ?_)
  · obtain ⟨b, dx, L, M, room, ts, v, bv, p, bf, rfl, _⟩ := h; rfl
  obtain ⟨b, dx, L, M, room, ts, v, bv, p, bf, rfl, hB, hnd, hT, hd, hsl, hbo, hz, hro, q1, q2⟩ := h
  refine ⟨_, (pss_cons (ps_set (i := 3) sc_put.nd rfl (Or.inl rfl) (pe_callB call_len_seq rfl B.len_ PySem.boot_len (pa_cons (pe_fld (pv 0) rfl) pa_nil)))
    (pss_one (ps_tryR ⟨rfl, rfl⟩ rfl e_Full (pst_ret (pet_mE h_put_part cB hr (by omega) (pv 0) (pa_cons (pv 1) (pa_cons (pv 2) pa_nil)))) (fun ea => (pss_cons (ps_expr (pe_mN h_cutN cB (hr.mark _) (by omega) (pv 0) (pa_cons (pv 3) pa_nil)))
    (pss_one (ps_raiseN oFull fliesN (pa_cons pe_str pa_nil) rfl))))))), ?_⟩
  try dsimp only [cxOf]
  obtain ⟨us, hL, hts⟩ := id hB.2.1
  refine ⟨_, rfl, b, CB, dx, _, _, rfl, hB.1, Z.cB, Z.nTerms, rfl, L, us, rfl, .inl (SqL.of hL), ?_⟩
  dsimp only [gName]
  refine ⟨_, rfl, b, dx, _, rfl, hB.1, rfl, _, rfl, _, rfl, b, dx, L, M, room, ts, v, bv, p, bf, rfl, hB, hT, hd, hsl, hbo, hz, hro, q1, fun hnf H1 ts' bt p1 p2 hB1 => ⟨rfl, CF, rfl, mFF, fun ea hea => ?_⟩⟩
  have s1 := same_new hea (XC ea CF)
  have hx := upd_same (H := H1) (a := ea) (o := XC ea CF)
  have hB2 := hB1.same s1
  generalize upd H1 ea (XC ea CF) = H2 at s1 hx hB2 ⊢
  have hut := Paired.length hts
  have nd' : ts'.Nodup := (put_nodup bf p ts hnd).sublist p2.sublist
  refine ⟨_, rfl, b, dx, _, rfl, hB2.1, rfl, _, rfl, b, dx, L, M, room, ts', us.length, rfl, hB2, nd', by have := p2.length_le; omega, fun H3 bt3 hB3 => ?_⟩
  have e : ts'.take us.length = ts := by
    obtain ⟨r, rfl⟩ := p1
    rw [hut, List.take_left]
  rw [e] at hB3
  have nL : ea ≠ L := fun z => by obtain ⟨us1, h1, _⟩ := hB1.2.1; rw [z, h1] at hea; cases hea
  have nM : ea ≠ M := fun z => by obtain ⟨kvs, d1, _⟩ := hB1.2.2; obtain ⟨φ, h1⟩ := d1.ext; rw [z, h1] at hea; cases hea
  exact ⟨CF, (show 1 ≤ sizeLine by decide), bt3 _ _ nL nM hx, q2 hnf H3 ea (fun c u n1 n2 h => bt3 c u n1 n2 (s1 _ _ (bt c u n1 n2 h))) hB3⟩
end

end K12
namespace K12
open PySem L2 Sw
section
variable {P : Program} {w : World} {K : PySem.W.Frag} {mg : Str → Option Value} {base : Heap}
inductive SpAt (K : PySem.W.Frag) (vs : List V) (H : Hp) (Q : VK) : Prop
  | mk (a : Addr) (ns : List Int) (k : Int) (z0 : vs = [.ref a, .int k]) (z1 : SqL K H a (ns.map V.int)) (z2 : 0 ≤ k) (z3 : Q (.int (ns.getD k.toNat 0)) H) : SpAt K vs H Q
noncomputable def spAt (K : PySem.W.Frag) : Sp := fun vs H Q _ => SpAt K vs H Q
theorem ok_at (B : Blt mg) (D : Def K mg "_law_at" s_at ["_law_script", "_law_k"]) : Has P w K mg base 1 "_law_at" ["_law_script", "_law_k"] (spAt K) := by
  refine D.has sc_at (fun vs H Q E h => ?_) (fun f cdv A outer s H vs Q E hr h => ?_)
  · obtain ⟨a, ns, k, rfl, _⟩ := h; rfl
  obtain ⟨a, ns, k, rfl, hS, h0, q⟩ := h
  refine ⟨_, (pss_cons (ps_if (pt_cmpR op_lt (pv 1) (pe_callB call_len_seq rfl B.len_ PySem.boot_len (pa_cons (pv 0) pa_nil)) (nomark _)) (pss_one (ps_ret (pe_ix ix_list (pv 0) (pv 1) (fun _ _ => rfl)))) pss_nil)
    (pss_one (ps_ret pe_int))), ?_⟩
  try dsimp only [cxOf]
  refine ⟨_, rfl, _, rfl, a, _, rfl, .inl hS, _, _, rfl, rfl, _, rfl, iteD (fun hk => ?_) (fun hk => ?_)⟩
  · rw [List.length_map] at hk
    have hi : k.toNat < ns.length := by omega
    have e : ((k.toNat : Nat) : Int) = k := by omega
    have z : atI (ns.map V.int) ((k.toNat : Nat) : Int) = some (.int ns[k.toNat]) := atI_nat (by rw [List.getElem?_map, List.getElem?_eq_getElem hi]; rfl)
    rw [e] at z
    rw [List.getD_eq_getElem?_getD, List.getElem?_eq_getElem hi] at q
    exact ⟨_, rfl, _, rfl, a, _, _, _, rfl, rfl, hS, z, q⟩
  · rw [List.length_map] at hk
    rw [List.getD_eq_getElem?_getD, List.getElem?_eq_none (by omega)] at q
    exact q
inductive SpDraw (vs : List V) (H : Hp) (Q : VK) : Prop
  | mk (c f m : Int) (z0 : vs = [.int c, .int f, .int m]) (z1 : 0 < m) (z2 : Q (.int (drawF c f m)) H) : SpDraw  vs H Q
noncomputable def spDraw : Sp := fun vs H Q _ => SpDraw  vs H Q
theorem ok_draw (D : Def K mg "_law_draw" s_draw ["_law_cell", "_law_factor", "_law_many"]) : Has P w K mg base 1 "_law_draw" ["_law_cell", "_law_factor", "_law_many"] spDraw := by
  refine D.has sc_draw (fun vs H Q E h => ?_) (fun f cdv A outer s H vs Q E hr h => ?_)
  · obtain ⟨c, f, m, rfl, _⟩ := h; rfl
  obtain ⟨c, f, m, rfl, h0, q⟩ := h
  refine ⟨_, (pss_one (ps_ret (pe_op op_mod (pe_op op_fdiv (pe_op op_mod (pe_op op_mul (pe_op op_add (pe_op op_mod (pv 0) pe_int) pe_int) (pv 1)) pe_int) pe_int) (pv 2)))), ?_⟩
  try dsimp only [cxOf]
  have a0 : 0 ≤ c % 2147483647 := Int.emod_nonneg _ (by decide)
  have a1 : c % 2147483647 < 2147483647 := Int.emod_lt_of_pos _ (by decide)
  refine ⟨_, rfl, _, _, rfl, rfl, pos', _, _, rfl, rfl, _, rfl, _, _, rfl, rfl, .inl ⟨by omega, by omega⟩, _, _, rfl, rfl, pos', _, _, rfl, rfl, div', _, rfl, _, _, rfl, rfl, h0, q⟩
inductive SpWordS (K : PySem.W.Frag) (vs : List V) (H : Hp) (Q : VK) : Prop
  | mk (a : Addr) (ns : List Int) (k : Int) (z0 : vs = [.ref a, .int k]) (z1 : SqL K H a (ns.map V.int)) (z2 : Q (.str (wordF (ns.getD 0 0) k)) H) : SpWordS K vs H Q
noncomputable def spWordS (K : PySem.W.Frag) : Sp := fun vs H Q _ => SpWordS K vs H Q
theorem ok_wordS (B : Blt mg) (h_at : Has P w K mg base 1 "_law_at" ["_law_script", "_law_k"] (spAt K)) (D : Def K mg "_law_word" s_word ["_law_script", "_law_which"]) : Has P w K mg base 2 "_law_word" ["_law_script", "_law_which"] (spWordS K) := by
  refine D.has sc_word (fun vs H Q E h => ?_) (fun f cdv A outer s H vs Q E hr h => ?_)
  · obtain ⟨a, ns, k, rfl, _⟩ := h; rfl
  obtain ⟨a, ns, k, rfl, hS, q⟩ := h
  refine ⟨_, (pss_cons (ps_set (i := 2) sc_word.nd rfl (Or.inl rfl) pe_str)
    (pss_cons (ps_set (i := 3) sc_word.nd rfl (Or.inl rfl) (pe_callH h_at hr (by omega) rfl (pa_cons (pv 0) (pa_cons pe_int pa_nil))))
    (pss_cons (ps_set (i := 4) sc_word.nd rfl (Or.inl rfl) (pe_op op_add pe_int (pe_op op_mod (pv 3) pe_int)))
    (pss_cons (ps_set (i := 5) sc_word.nd rfl (Or.inl rfl) (pe_op op_mod (pe_op op_fdiv (pv 3) pe_int) (pv 4)))
    (pss_cons (ps_set (i := 6) sc_word.nd rfl (Or.inl rfl) (pe_ix ix_str (pv 2) (pe_op op_mod (pe_op op_fdiv (pv 3) pe_int) pe_int) (fun _ _ => rfl)))
    (pss_cons (ps_set (i := 7) sc_word.nd rfl (Or.inl rfl) (pe_ix ix_str (pv 2) (pe_op op_mod (pe_op op_add (pe_op op_fdiv (pv 3) pe_int) (pv 1)) pe_int) (fun _ _ => rfl)))
    (pss_one (ps_ret (pe_op op_add_str (pe_op op_add_str (pe_op op_mul_str0 (pv 6) (pv 5)) (pv 7)) (pe_op op_mul_str0 (pv 6) (pe_op op_sub (pe_op op_sub (pv 4) pe_int) (pv 5)))))))))))), ?_⟩
  try dsimp only [cxOf]
  refine ⟨_, rfl, a, ns, 0, rfl, hS, Int.le_refl _, ?_⟩
  have e0 : ns.getD (0 : Int).toNat 0 = ns.getD 0 0 := rfl
  rw [e0]
  generalize ns.getD 0 0 = s0 at q ⊢
  dsimp only [gName]
  have b0 : 0 ≤ s0 % 8 := Int.emod_nonneg _ (by decide)
  have b1 : s0 % 8 < 8 := Int.emod_lt_of_pos _ (by decide)
  have c0 : 0 ≤ s0 / 8 % (1 + s0 % 8) := Int.emod_nonneg _ (by omega)
  have c1 : s0 / 8 % (1 + s0 % 8) < 1 + s0 % 8 := Int.emod_lt_of_pos _ (by omega)
  have z1 := abcF_at (s0 / 64)
  have z2 := abcF_at (s0 / 1664 + k)
  have hz : ("abcdefghijklmnopqrstuvwxyz" : Str).length ≤ sizeLine := by decide +kernel
  refine ⟨_, rfl, _, _, rfl, rfl, pos', _, _, rfl, rfl, ?_⟩
  dsimp only [gName]
  refine ⟨_, rfl, _, _, rfl, rfl, div', _, rfl, _, _, rfl, rfl, (show (0 : Int) < 1 + s0 % 8 by omega), ?_⟩
  dsimp only [gName]
  refine ⟨_, rfl, _, rfl, _, _, rfl, rfl, div', _, _, rfl, rfl, pos', _, _, _, rfl, rfl, hz, z1, ?_⟩
  dsimp only [gName]
  refine ⟨_, rfl, _, rfl, _, _, rfl, rfl, div', _, rfl, _, _, rfl, rfl, _, _, rfl, rfl, pos', _, _, _, rfl, rfl, hz, z2, ?_⟩
  dsimp only [gName]
  have l1 : ∀ i, (letF i).length = 1 := fun i => rfl
  have m1 := timesS_len (letF (s0 / 64)) (s0 / 8 % (1 + s0 % 8)).toNat
  have m2 := timesS_len (letF (s0 / 64)) (1 + s0 % 8 - 1 - s0 / 8 % (1 + s0 % 8)).toNat
  rw [l1, Nat.mul_one] at m1 m2
  have big : (1000 : Nat) ≤ sizeLine := by decide
  have l1' : ∀ c : Nat, (⟨#[c]⟩ : Str).length = 1 := fun c => rfl
  refine ⟨_, rfl, _, rfl, _, _, rfl, rfl, c0, by omega, (by rw [l1']; decide), _, rfl, _, _, rfl, rfl, ?_, ?_⟩
  · show (timesS (letF (s0 / 64)) _).length + (letF (s0 / 1664 + k)).length ≤ sizeLine
    rw [m1, l1]; omega
  refine ⟨_, rfl, _, rfl, _, _, rfl, rfl, _, rfl, _, _, rfl, rfl, _, _, rfl, rfl, by omega, by omega, (by rw [l1']; decide), _, _, rfl, rfl, ?_, q⟩
  show (timesS (letF (s0 / 64)) _ ++ letF (s0 / 1664 + k)).length + (timesS (letF (s0 / 64)) _).length ≤ sizeLine
  rw [Str.length_append, m1, m2, l1]; omega
inductive SpLeafS (K : PySem.W.Frag) (vs : List V) (H : Hp) (Q : VK) : Prop
  | mk (a : Addr) (ns : List Int) (c : Int) (z0 : vs = [.ref a, .int c]) (z1 : SqL K H a (ns.map V.int)) (z2 : ∀ v H', Same H H' → IsTm H' (leafF (ns.getD 0 0) c) v → Q v H') : SpLeafS K vs H Q
noncomputable def spLeafS (K : PySem.W.Frag) : Sp := fun vs H Q _ => SpLeafS K vs H Q
theorem ok_leafS (h_draw : Has P w K mg base 1 "_law_draw" ["_law_cell", "_law_factor", "_law_many"] spDraw) (h_word : Has P w K mg base 2 "_law_word" ["_law_script", "_law_which"] (spWordS K)) (D : Def K mg "_law_leaf" s_leaf ["_law_script", "_law_cell"]) :
    Has P w K mg base 3 "_law_leaf" ["_law_script", "_law_cell"] (spLeafS K) := by
  refine D.has sc_leaf (fun vs H Q E h => ?_) (fun f cdv A outer s H vs Q E hr h => ?_)
  · obtain ⟨a, ns, c, rfl, _⟩ := h; rfl
  obtain ⟨a, ns, c, rfl, hS, q⟩ := h
  refine ⟨_, (pss_cons (ps_set (i := 2) sc_leaf.nd rfl (Or.inl rfl) (pe_callH h_draw hr (by omega) rfl (pa_cons (pv 1) (pa_cons pe_int (pa_cons pe_int pa_nil)))))
    (pss_cons (ps_if (pt_cmpR op_eq (pv 2) pe_int (nomark _)) (pss_one (ps_ret (pe_tup (pa_cons pe_str (pa_cons (pe_op op_sub (pe_op op_mod (pv 1) (pe_op op_sub (pe_op op_mul pe_int (pe_op op_pow pe_int pe_int)) pe_int)) (pe_op op_sub (pe_op op_pow pe_int pe_int) pe_int)) pa_nil))))) pss_nil)
    (pss_cons (ps_if (pt_cmpR op_eq (pv 2) pe_int (nomark _)) (pss_one (ps_ret (pe_tup (pa_cons pe_str (pa_cons (pe_op op_sub (pe_callH h_draw hr (by omega) rfl (pa_cons (pv 1) (pa_cons pe_int (pa_cons pe_int pa_nil)))) pe_int) pa_nil))))) pss_nil)
    (pss_one (ps_ret (pe_tup (pa_cons pe_str (pa_cons (pe_callH h_word hr (by omega) rfl (pa_cons (pv 0) (pa_cons (pe_callH h_draw hr (by omega) rfl (pa_cons (pv 1) (pa_cons pe_int (pa_cons pe_int pa_nil)))) pa_nil))) pa_nil)))))))), ?_⟩
  try dsimp only [cxOf]
  unfold leafF at q
  refine ⟨_, rfl, c, 69621, 4, rfl, by decide, ?_⟩
  dsimp only [gName]
  by_cases h0 : drawF c 69621 4 = 0
  · rw [if_pos h0] at q
    refine ⟨_, rfl, rfl, _, rfl, iteD (fun _ => ?_) (fun z => absurd (congrArg V.int h0) z)⟩
    refine ⟨_, rfl, 10, 60, rfl, rfl, ⟨by decide, by decide, by decide⟩, _, _, rfl, rfl, .inl ⟨by decide, by decide⟩, _, _, rfl, rfl, _, _, rfl, rfl, (by show (0 : Int) < 2 * 10 ^ 60 - 1; decide), 10, 60, rfl, rfl, ⟨by decide, by decide, by decide⟩, _, _, rfl, rfl, _, _, rfl, rfl, ?_⟩
    exact ⟨(show 2 ≤ sizeLine by decide), fun t ht => q _ _ (same_new ht _) ⟨t, rfl, upd_same⟩⟩
  · rw [if_neg h0] at q
    refine ⟨_, rfl, rfl, _, rfl, iteD (fun z => absurd (V.int.inj z) h0) (fun _ => ?_)⟩
    by_cases h1 : drawF c 69621 4 = 1
    · rw [if_pos h1] at q
      refine ⟨_, rfl, rfl, _, rfl, iteD (fun _ => ?_) (fun z => absurd (congrArg V.int h1) z)⟩
      refine ⟨_, rfl, c, 40692, 5, rfl, by decide, _, _, rfl, rfl, ?_⟩
      exact ⟨(show 2 ≤ sizeLine by decide), fun t ht => q _ _ (same_new ht _) ⟨t, rfl, upd_same⟩⟩
    · rw [if_neg h1] at q
      refine ⟨_, rfl, rfl, _, rfl, iteD (fun z => absurd (V.int.inj z) h1) (fun _ => ?_)⟩
      refine ⟨_, rfl, _, rfl, c, 40692, 4, rfl, by decide, a, ns, _, rfl, hS, ?_⟩
      exact ⟨(show 2 ≤ sizeLine by decide), fun t ht => q _ _ (same_new ht _) ⟨t, rfl, upd_same⟩⟩
end

end K12
namespace K12
open PySem L2 Sw
section
variable {P : Program} {w : World} {K : PySem.W.Frag} {mg : Str → Option Value} {base : Heap}
inductive SpTerm (K : PySem.W.Frag) (vs : List V) (H : Hp) (Q : VK) : Prop
  | mk (a : Addr) (ns : List Int) (c : Int) (many : Nat) (z0 : vs = [.ref a, .int c, nV many]) (z1 : SqL K H a (ns.map V.int)) (z2 : ∀ v H', Same H H' → IsTm H' (termF (ns.getD 0 0) c many) v → Q v H') : SpTerm K vs H Q
noncomputable def spTerm (K : PySem.W.Frag) : Sp := fun vs H Q _ => SpTerm K vs H Q
theorem ok_term (B : Blt mg) (h_draw : Has P w K mg base 1 "_law_draw" ["_law_cell", "_law_factor", "_law_many"] spDraw) (h_word : Has P w K mg base 2 "_law_word" ["_law_script", "_law_which"] (spWordS K)) (h_leaf : Has P w K mg base 3 "_law_leaf" ["_law_script", "_law_cell"] (spLeafS K))
    (D : Def K mg "_law_term" s_term ["_law_script", "_law_cell", "_law_many"]) : Has P w K mg base 4 "_law_term" ["_law_script", "_law_cell", "_law_many"] (spTerm K) := by
  refine D.has sc_term (fun vs H Q E h => ?_) (fun f cdv A outer s H vs Q E hr h => ?_)
  · obtain ⟨a, ns, c, many, rfl, _⟩ := h; rfl
  obtain ⟨a, ns, c, many, rfl, hS, q⟩ := h
  refine ⟨_, (pss_cons (ps_if (PW.pt (pw_or (pt_cmpR op_eq (pv 2) pe_int (nomark _)) (pw_or1 (pt_cmpR op_lt (pe_callH h_draw hr (by omega) rfl (pa_cons (pv 1) (pa_cons pe_int (pa_cons pe_int pa_nil)))) pe_int (nomark _))))) (pss_one (ps_ret (pe_callH h_leaf hr (by omega) rfl (pa_cons (pv 0) (pa_cons (pv 1) pa_nil))))) pss_nil)
    (pss_cons (ps_set (i := 3) sc_term.nd rfl (Or.inl rfl) (pe_op op_add pe_int (pe_op op_fdiv (pe_callH h_draw hr (by omega) rfl (pa_cons (pv 1) (pa_cons pe_int (pa_cons pe_int pa_nil)))) pe_int)))
    (pss_cons (ps_setComp (i := 4) sc_term.nd rfl rfl (te := (tCall _ _ _ (tCons _ (tCons (tOp _ (tOp _ _ _) _) (tCons _ tNil))))) (own := ["_law_j"]) (caps := [("_law_cell", 1), ("_law_many", 2)]) (comp_scope (defScope s_term) ["_law_script", "_law_cell", "_law_many", "_law_size", "_law_arms"] rfl rfl rfl (by decide +kernel)) (pi_range1 rfl B.range_ (pa_cons (pv 3) pa_nil)) rfl (fun _ _ _ => pg_name (i := 0) (show (["_law_j", "_law_cell", "_law_many"] : List Str).Nodup by decide +kernel) rfl (Or.inl rfl)) (fun _ _ _ => (pe_callH h_draw hr (by omega) rfl (pa_cons (pv 1) (pa_cons (pe_op op_mul (pe_op op_add (pv 0) pe_int) pe_int) (pa_cons (pv 2) pa_nil))))) rfl)
    (pss_one (ps_ret (pe_tup (pa_cons pe_str (pa_cons (pe_callH h_word hr (by omega) rfl (pa_cons (pv 0) (pa_cons (pe_callH h_draw hr (by omega) rfl (pa_cons (pv 1) (pa_cons pe_int (pa_cons pe_int pa_nil)))) pa_nil))) (pa_cons (pe_callTy call_tuple_of rfl B.tuple_ boot_tuple_ (pa_cons (pv 4) pa_nil)) pa_nil))))))))), ?_⟩
  try dsimp only [cxOf]
  unfold termF at q
  by_cases hm : many = 0
  · rw [if_pos (.inl hm)] at q
    subst hm
    refine ⟨_, rfl, rfl, _, rfl, iteD (fun _ => iteT ?_) (fun z => absurd rfl z)⟩
    exact ⟨_, rfl, _, rfl, a, ns, c, rfl, hS, q⟩
  · refine ⟨_, rfl, rfl, _, rfl, iteD (fun z => ?_) (fun _ => ?_)⟩
    · have := V.int.inj z; omega
    refine ⟨_, rfl, c, 48271, 8, rfl, by decide, _, _, rfl, rfl, _, rfl, iteD (fun h3 => ?_) (fun h3 => ?_)⟩
    · rw [if_pos (.inr h3)] at q
      exact ⟨_, rfl, _, rfl, a, ns, c, rfl, hS, q⟩
    · rw [if_neg (by rintro (z | z); exact hm z; exact h3 z)] at q
      have n1 := drawF_nn c 16807 (m := 13) (by decide)
      have n2 := drawF_lt c 16807 (m := 13) (by decide)
      refine ⟨_, rfl, c, 16807, 13, rfl, by decide, _, _, rfl, rfl, div', _, _, rfl, rfl, ?_⟩
      dsimp only [gName]
      have hsz : 0 ≤ drawF c 16807 13 / 4 ∧ drawF c 16807 13 / 4 ≤ 3 := by omega
      generalize drawF c 16807 13 / 4 = n at q hsz
      refine ⟨_, rfl, _, rfl, by omega, by omega, comp_range (lo := 0) (fun j => .int (drawF c ((j + 2) * 742938285) many)) (by omega) (fun j hj H' sm Q' q' => ?_) fun D1 hD1 => ?_⟩
      · exact ⟨_, rfl, _, rfl, _, _, rfl, rfl, _, _, rfl, rfl, .inl ⟨by omega, by omega⟩, _, rfl, c, _, _, rfl, (by omega), q'⟩
      dsimp only [gName]
      have ea : ((List.range (1 + n).toNat).map fun i : Nat => V.int (drawF c ((0 + (i : Int) + 2) * 742938285) many)) = (((List.range (1 + n).toNat).map fun j : Nat => (drawF c (((j : Int) + 2) * 742938285) many).toNat).map nV) := by
        rw [List.map_map]
        refine List.map_congr_left fun j _ => ?_
        have a1 := drawF_nn c (((j : Int) + 2) * 742938285) (m := many) (by omega)
        show V.int (drawF c ((0 + (j : Int) + 2) * 742938285) many) = V.int (((drawF c (((j : Int) + 2) * 742938285) many).toNat : Nat) : Int)
        rw [Int.zero_add]
        congr 1
        omega
      rw [ea]
      have s1 := same_new hD1 (.lst (((List.range (1 + n).toNat).map fun j : Nat => (drawF c (((j : Int) + 2) * 742938285) many).toNat).map nV))
      have hD := upd_same (H := H) (a := D1) (o := .lst (((List.range (1 + n).toNat).map fun j : Nat => (drawF c (((j : Int) + 2) * 742938285) many).toNat).map nV))
      generalize upd H D1 (.lst (((List.range (1 + n).toNat).map fun j : Nat => (drawF c (((j : Int) + 2) * 742938285) many).toNat).map nV)) = H1 at s1 hD ⊢
      refine ⟨_, rfl, _, rfl, c, 1664525, 3, rfl, by decide, a, ns, _, rfl, s1.seq hS, ?_⟩
      refine ⟨_, rfl, D1, _, rfl, .inl ⟨SqL.of hD, fun l hl => ?_⟩⟩
      refine ⟨(show 3 ≤ sizeLine by decide), fun t ht => q _ _ (s1.trans ((same_new hl _).trans (same_new ht _))) ⟨t, l, rfl, upd_same, ?_⟩⟩
      rw [upd_ne (ne_of_none upd_same ht), upd_same]
inductive SpTerms (K : PySem.W.Frag) (vs : List V) (H : Hp) (Q : VK) : Prop
  | mk (a : Addr) (ns : List Int) (z0 : vs = [.ref a]) (z1 : SqL K H a (ns.map V.int)) (z2 : ns.length ≤ 63) (z3 : ∀ T us H', Same H H' → H T = none → H' T = some (.lst us) → Tms H' us (termsF (ns.getD 0 0) (cells1 ns)) → Q (.ref T) H') : SpTerms K vs H Q
noncomputable def spTerms (K : PySem.W.Frag) : Sp := fun vs H Q _ => SpTerms K vs H Q
theorem ok_terms (B : Blt mg) (h_term : Has P w K mg base 4 "_law_term" ["_law_script", "_law_cell", "_law_many"] (spTerm K)) (D : Def K mg "_law_terms" s_terms ["_law_script"]) : Has P w K mg base 5 "_law_terms" ["_law_script"] (spTerms K) := by
  refine D.has sc_terms (fun vs H Q E h => ?_) (fun f cdv A outer s H vs Q E hr h => ?_)
  · obtain ⟨a, ns, rfl, _⟩ := h; rfl
  obtain ⟨a, ns, rfl, hS, h63, q⟩ := h
  refine ⟨_, (pss_cons (ps_set (i := 1) sc_terms.nd rfl (Or.inl rfl) (pe_lst pa_nil))
    (pss_cons (ps_for PassesOwn.never rfl (pi_list (pe_slice sl_list (pe_compI (te := (tOp (rIxL K) _ _)) (ct := (tTest (tOp _ (tOp _ _ _) _))) (own := ["_law_k"]) (caps := [("_law_script", 0)]) (comp_scope (defScope s_terms) ["_law_script", "_law_rows", "_law_cell", "_law_term_here"] rfl rfl rfl (by decide +kernel)) (pi_range1 rfl B.range_ (pa_cons (pe_callB call_len_seq rfl B.len_ PySem.boot_len (pa_cons (pv 0) pa_nil)) pa_nil)) rfl (fun _ _ _ => pg_name (i := 0) (show (["_law_k", "_law_script"] : List Str).Nodup by decide +kernel) rfl (Or.inl rfl)) (fun _ _ _ => (pt_cmpR op_eq (pe_op op_mod (pv 0) pe_int) pe_int (nomark _))) (fun _ _ _ => (pe_ix ix_list (pv 1) (pv 0) (fun _ _ => rfl)))) po_none (po_some pe_int))) (pg_name (i := 2) sc_terms.nd rfl (Or.inl rfl))
    (pss_cons (ps_set (i := 3) sc_terms.nd rfl (Or.inl rfl) (pe_callH h_term hr (by omega) rfl (pa_cons (pv 0) (pa_cons (pv 2) (pa_cons (pe_callB call_len_seq rfl B.len_ PySem.boot_len (pa_cons (pv 1) pa_nil)) pa_nil)))))
    (pss_one (ps_if (pt_cmpR (op_notInD (un101 hr)) (pv 3) (pv 1) (by with_unfolding_all rfl)) (pss_one (ps_expr (pe_bm PySem.F.plainAttrs_list PySem.F.slot_list_append PySem.F.type_list_append mt_append (pv 1) (pa_cons (pv 3) pa_nil)))) pss_nil))))
    (pss_one (ps_ret (pv 1))))), ?_⟩
  try dsimp only [cxOf]
  refine ⟨Nat.zero_le _, fun T hT => ?_⟩
  dsimp only [gName]
  have s0 := same_new hT (.lst [])
  have hT0 : (upd H T (.lst [])) T = some (.lst []) := upd_same
  generalize upd H T (.lst []) = H0 at s0 hT0 ⊢
  refine ⟨_, rfl, a, _, rfl, .inl (s0.seq hS), _, rfl, ?_, ?_, ?_⟩
  · rw [List.length_map]; omega
  · rw [List.length_map]; omega
  rw [List.length_map, Int.toNat_natCast]
  refine compI_range (lo := 0) (oddC ns) (by omega) (fun i hi H' sm R r => ?_) (fun i v hi hv H' sm Q' q' => ?_) fun D1 hD1 => ?_
  · refine ⟨_, rfl, _, _, rfl, rfl, pos', rfl, _, rfl, ?_⟩
    unfold oddC at r
    by_cases h1 : (0 + (i : Int)) % 2 = 1
    · rw [if_pos h1] at r
      rw [decide_eq_true (congrArg V.int h1)]
      exact r
    · rw [if_neg h1] at r
      rw [decide_eq_false (fun z => h1 (V.int.inj z))]
      exact r
  · unfold oddC at hv
    split at hv
    · have ev := Option.some.inj hv
      have ei : (0 + (i : Int)) = ((i : Nat) : Int) := by omega
      rw [ei, Int.toNat_natCast] at ev
      refine ⟨_, rfl, _, rfl, a, _, _, _, rfl, rfl, sm.seq (s0.seq hS), ?_, q'⟩
      rw [ei]
      refine atI_nat ?_
      rw [List.getElem?_map, List.getElem?_eq_getElem hi, ← ev, List.getD_eq_getElem?_getD, List.getElem?_eq_getElem hi]
      rfl
    · cases hv
  have s1 := same_new hD1 (.lst ((List.range ns.length).filterMap fun i : Nat => oddC ns (0 + (i : Int))))
  have hD := upd_same (H := H0) (a := D1) (o := .lst ((List.range ns.length).filterMap fun i : Nat => oddC ns (0 + (i : Int))))
  generalize upd H0 D1 (.lst ((List.range ns.length).filterMap fun i : Nat => oddC ns (0 + (i : Int)))) = H1 at s1 hD ⊢
  refine ⟨_, rfl, D1, _, rfl, SqL.of hD, fun sl hsl => ?_⟩
  have s2 := same_new hsl (.lst (cells1 ns))
  have hsl1 := upd_same (H := H1) (a := sl) (o := .lst (cells1 ns))
  have g0 : Same H (upd H1 sl (.lst (cells1 ns))) := s0.trans (s1.trans s2)
  have hT2 := s2 _ _ (s1 _ _ hT0)
  have hTsl : T ≠ sl := fun e => by rw [e] at hT0; have := s1 _ _ hT0; rw [hsl] at this; cases this
  refine ⟨sl, rfl, ⟨_, SqL.of hsl1⟩, ?_⟩
  have hcl := cells1_len ns
  skip
  refine for_list (xs := cells1 ns) (fun i σ H' => ∃ (us : List V) (x2 x3 : Option V), σ = [some (.ref a), some (.ref T), x2, x3] ∧ Same H H' ∧ H' sl = some (.lst (cells1 ns)) ∧ H' T = some (.lst us) ∧ Tms H' us (((cells1 ns).take i).foldl (stepF (ns.getD 0 0)) []))
    ⟨[], none, none, rfl, g0, hsl1, hT2, .nil⟩ ?_ ?_ ?_
  · rintro i σ H' _ ⟨us, x2, x3, rfl, sm, h1, _⟩
    exact SqL.of h1
  · rintro i x σ H' hx ⟨us, x2, x3, rfl, sm, h1, h2, h3⟩
    have hi : i < (cells1 ns).length := (List.getElem?_eq_some_iff.mp hx).1
    obtain ⟨c, rfl⟩ := cells1_int (List.mem_of_getElem? hx)
    have hlen := Paired.length h3
    have hfl := fold_len (ns.getD 0 0) ((cells1 ns).take i) []
    rw [List.length_take, List.length_nil] at hfl
    have estep : ((cells1 ns).take (i + 1)).foldl (stepF (ns.getD 0 0)) [] = stepF (ns.getD 0 0) (((cells1 ns).take i).foldl (stepF (ns.getD 0 0)) []) (.int c) := by
      rw [List.take_add_one, hx, List.foldl_append]; rfl
    refine ⟨_, rfl, _, rfl, _, rfl, T, us, rfl, .inl (SqL.of h2), a, ns, c, us.length, rfl, sm.seq hS, fun v H2 sm2 hv => ?_⟩
    dsimp only [gName]
    rw [hlen] at hv
    generalize ((cells1 ns).take i).foldl (stepF (ns.getD 0 0)) [] = ts at h3 hlen hfl estep hv
    have h3' := tms_same sm2 h3
    have hT3 := sm2 _ _ h2
    refine ⟨_, rfl, _, rfl, _, _, hv.den, .inl (by rw [Den]; exact ⟨T, us, rfl, hT3, tms_den h3'⟩), Nat.le_trans (tms_deep ts) (by decide), _, rfl, ?_⟩
    rw [show stepF (ns.getD 0 0) ts (.int c) = (if tmD (termF (ns.getD 0 0) c ts.length) ∈ ts.map tmD then ts else ts ++ [termF (ns.getD 0 0) c ts.length]) from rfl] at estep
    by_cases hm : tmD (termF (ns.getD 0 0) c ts.length) ∈ ts.map tmD
    · rw [if_pos hm] at estep
      rw [decide_eq_true hm]
      exact iteF ⟨us, _, _, rfl, sm.trans sm2, sm2 _ _ h1, hT3, by rw [estep]; exact h3'⟩
    · rw [if_neg hm] at estep
      rw [decide_eq_false hm]
      refine iteT ⟨_, rfl, .inl ⟨rfl, _, SqL.of hT3⟩, _, rfl, T, us, v, rfl, rfl, hT3, small1000 (by omega), ⟨us ++ [v], _, _, rfl, (sm.trans sm2).put hT, ?_, upd_same, ?_⟩⟩
      · rw [upd_ne (Ne.symm hTsl)]; exact sm2 _ _ h1
      · rw [estep]
        have kp : ∀ b ys, H2 b = some (.tup ys) → (upd H2 T (.lst (us ++ [v]))) b = some (.tup ys) := fun b ys e => by rw [upd_ne (ne_of e hT3 (fun z => nomatch z))]; exact e
        exact tms_snoc (tms_keep kp h3') (hv.keep kp)
  · rintro σ H' ⟨us, x2, x3, rfl, sm, h1, h2, h3⟩
    rw [List.take_length] at h3
    exact ⟨_, rfl, q T us H' sm hT h2 h3⟩
theorem kit_ii {K : PySem.W.Frag} : PySem.W.kitOne K (.type "int") (.type "int") = some true := by rfl
theorem kit_ib {K : PySem.W.Frag} : PySem.W.kitOne K (.type "int") (.type "bool") = some false := by rfl
theorem kit_ll {K : PySem.W.Frag} : PySem.W.kitOne K (.type "list") (.type "list") = some true := by rfl
inductive SpWhole (vs : List V) (H : Hp) (Q : VK) : Prop
  | mk (n : Int) (z0 : vs = [.int n]) (z1 : Q (.bl true) H) : SpWhole  vs H Q
noncomputable def spWhole : Sp := fun vs H Q _ => SpWhole  vs H Q
theorem ok_whole (B : Blt mg) (D : Def K mg "_law_whole" s_whole ["_law_found"]) : Has P w K mg base 1 "_law_whole" ["_law_found"] spWhole := by
  refine D.has sc_whole (fun vs H Q E h => ?_) (fun f cdv A outer s H vs Q E hr h => ?_)
  · obtain ⟨n, rfl, _⟩ := h; rfl
  obtain ⟨n, rfl, q⟩ := h
  refine ⟨_, (pss_one (ps_ret (pe_and (pe_callB call_isT rfl B.isinstance_ boot_isinstance_ (pa_cons (pv 0) (pa_cons (pe_bltn (v := .ty "int") rfl B.int_ boot_int_ rfl) pa_nil))) (pe_one (pe_not (pe_callB call_isT rfl B.isinstance_ boot_isinstance_ (pa_cons (pv 0) (pa_cons (pe_bltn (v := .ty "bool") rfl B.bool_ boot_bool_ rfl) pa_nil)))))))), ?_⟩
  try dsimp only [cxOf]
  refine ⟨_, rfl, _, _, _, true, rfl, .int _, kit_ii, _, rfl, iteT ?_⟩
  exact ⟨_, rfl, _, _, _, false, rfl, .int _, kit_ib, _, rfl, q⟩
end

end K12
namespace K12
open PySem L2 Sw
section
variable {P : Program} {w : World} {K : PySem.W.Frag} {mg : Str → Option Value} {base : Heap} {CB CF : Addr}
structure Giv (bf : Str → Nat) (hs : List Str) (kvs : List (Key × V)) : Prop where
  has : ∀ x ∈ hs, valV kvs (.inr x) = some (nV (bf x))
  nums : ∀ kv ∈ kvs, ∃ n : Int, kv.2 = .int n
theorem putK_mem {kvs : List (Key × V)} {k : Key} {v : V} {kv : Key × V} (h : kv ∈ putK kvs k v) : kv ∈ kvs ∨ kv.2 = v := by
  unfold putK at h
  split at h
  · obtain ⟨p, hp, e⟩ := List.mem_map.mp h
    by_cases z : p.1 = k
    · rw [if_pos z] at e; exact .inr (by rw [← e])
    · rw [if_neg z] at e; exact .inl (e ▸ hp)
  · rcases List.mem_append.mp h with z | z
    · exact .inl z
    · exact .inr (by rw [List.mem_singleton.mp z])
theorem Giv.put {bf : Str → Nat} {hs : List Str} {kvs : List (Key × V)} (h : Giv bf hs kvs) {x : Str} {n : Nat} (e : bf x = n) : Giv bf (x :: hs) (putK kvs (.inr x) (nV n)) := by
  refine ⟨fun y hy => ?_, fun kv hkv => ?_⟩
  · rw [valV_put]
    by_cases z : y = x
    · rw [if_pos (by rw [z]), z, e]
    · rw [if_neg (fun q => z (Sum.inr.inj q))]
      rcases List.mem_cons.mp hy with q | q
      · exact absurd q z
      · exact h.has y q
  · rcases putK_mem hkv with z | z
    · exact h.nums kv z
    · exact ⟨_, z⟩
theorem giv_nil (bf : Str → Nat) : Giv bf [] [] := ⟨(fun x h => by cases h), (fun x h => by cases h)⟩
theorem but_get {G c : Addr} {H H' : Hp} {kvs : List (Key × V)} {o : HO} (bt : But G H H') (hG : H G = some (.dK kvs)) (e : H c = some o) (n : ∀ k, o ≠ .dK k) : H' c = some o := bt _ _ (fun z => by rw [z, hG] at e; exact n _ (Option.some.inj e).symm) e
theorem but_seq {G a : Addr} {H H' : Hp} {kvs : List (Key × V)} {xs : List V} (bt : But G H H') (hG : H G = some (.dK kvs)) (q : SqL K H a xs) : SqL K H' a xs := by
  rcases q with (q | ⟨o, q⟩) | q
  · exact .inl (.inl (but_get bt hG q fun _ z => nomatch z))
  · exact .inl (.inr ⟨o, but_get bt hG q fun _ z => nomatch z⟩)
  · exact .inr q
theorem but_tup {G : Addr} {H H' : Hp} {kvs : List (Key × V)} (bt : But G H H') (hG : H G = some (.dK kvs)) : ∀ c ys, H c = some (.tup ys) → H' c = some (.tup ys) := fun c ys e => but_get bt hG e fun _ z => nomatch z
theorem but_thn {G : Addr} {H H1 H2 : Hp} (a : But G H H1) (b : But G H1 H2) : But G H H2 := fun c u n h => b c u n (a c u n h)
theorem same_but {G : Addr} {H H1 : Hp} (b : Same H H1) : But G H H1 := fun c u _ h => b c u h
theorem anys_tr {H : Hp} : ∀ {vs : List V} {ws : List Str}, Paired (fun v x => IsTr H (.any x) v) vs ws → IsTrs H (ws.map T.any) vs
  | _, _, .nil => by rw [List.map_nil, IsTrs]
  | _, _, .cons h t => by rw [List.map_cons, IsTrs]; exact ⟨_, _, rfl, h, anys_tr t⟩
inductive SpArm (K : PySem.W.Frag) (vs : List V) (H : Hp) (Q : VK) : Prop
  | mk (a R G : Addr) (ns : List Int) (us : List V) (rows : List Tm) (n j : Nat) (t : Tm) (deeper : Bool) (bf : Str → Nat) (hs : List Str) (kvs : List (Key × V)) (z0 : vs = [.ref a, .ref R, nV n, nV j, .bl deeper, .ref G]) (z1 : SqL K H a (ns.map V.int)) (z2 : H R = some (.lst us)) (z3 : Tms H us rows) (z4 : TsOk rows) (z5 : rows[n]? = some t)
    (z6 : deeper = false → bf (wordF (ns.getD 0 0) ((5 : Int) + (j : Int))) = n) (z7 : deeper = true → ∀ y bs, t = .of y bs → ∀ (i b : Nat), bs[i]? = some b → bf (wordF (ns.getD 0 0) ((9 : Int) + (4 : Int) * (j : Int) + (i : Int))) = b)
    (z8 : H G = some (.dK kvs)) (z9 : Giv bf hs kvs) (z10 : kvs.length ≤ 900) (z12 : j ≤ 4)
    (z11 : ∀ v H' p hs' kvs', ArmOk bf rows n p hs' → Giv bf hs' kvs' → (∀ x ∈ hs, x ∈ hs') → kvs'.length ≤ kvs.length + 4 → But G H H' → H' G = some (.dK kvs') → IsTr H' p v → Q v H') : SpArm K vs H Q
noncomputable def spArm (K : PySem.W.Frag) : Sp := fun vs H Q _ => SpArm K vs H Q
inductive ArI (H : Hp) (σ0 : List (Option V)) (G D : Addr) (bf : Str → Nat) (hs : List Str) (kvs : List (Key × V)) (bs : List Nat) (i : Nat) (σ : St) (H' : Hp) : Prop
  | mk (ws : List Str) (kvs' : List (Key × V)) (vs : List V) (x6 x8 : Option V) (z0 : σ = σ0 ++ [x6, some (.ref D), x8]) (z1 : But G H H') (z2 : H' G = some (.dK kvs')) (z3 : Giv bf (ws ++ hs) kvs') (z4 : kvs'.length ≤ kvs.length + i) (z5 : H' D = some (.lst vs)) (z6 : Paired (fun v x => IsTr H' (.any x) v) vs ws.reverse) (z7 : ws.reverse.map bf = bs.take i) : ArI H σ0 G D bf hs kvs bs i σ H'
theorem ok_arm (B : Blt mg) (h_word : Has P w K mg base 2 "_law_word" ["_law_script", "_law_which"] (spWordS K)) (D : Def K mg "_law_arm" s_arm ["_law_script", "_law_rows", "_law_number", "_law_j", "_law_deeper", "_law_given"]) :
    Has P w K mg base 3 "_law_arm" ["_law_script", "_law_rows", "_law_number", "_law_j", "_law_deeper", "_law_given"] (spArm K) := by
  refine D.has sc_arm (fun vs H Q E h => ?_) (fun f cdv A outer s H vs Q E hr h => ?_)
  · obtain ⟨a, R, G, ns, us, rows, n, j, t, deeper, bf, hs, kvs, rfl, _⟩ := h; rfl
  obtain ⟨a, R, G, ns, us, rows, n, j, t, deeper, bf, hs, kvs, rfl, hS, hR, hts, hok, hn, hsh, hdp, hG, hgv, hkl, hj4, q⟩ := h
  refine ⟨_, (pss_cons (ps_if (pt_not (pt_val (pv 4))) (pss_cons (ps_set (i := 6) sc_arm.nd rfl (Or.inl rfl) (pe_callH h_word hr (by omega) rfl (pa_cons (pv 0) (pa_cons (pe_op op_add pe_int (pv 3)) pa_nil))))
    (pss_cons (ps_dput (hu_of hr) (pv 5) (pv 6) (pv 2) rfl)
    (pss_one (ps_ret (pe_tup (pa_cons pe_str (pa_cons (pv 6) pa_nil))))))) pss_nil)
    (pss_cons (ps_if (pt_cmpR op_ne (pe_ix ix_tup (pe_ix ix_list (pv 1) (pv 2) (fun _ _ => rfl)) pe_int (fun _ _ => rfl)) pe_str (nomark _)) (pss_one (ps_ret (pe_ix ix_list (pv 1) (pv 2) (fun _ _ => rfl)))) pss_nil)
    (pss_cons (ps_set (i := 7) sc_arm.nd rfl (Or.inl rfl) (pe_lst pa_nil))
    (pss_cons (ps_for PassesOwn.never rfl (pi_range1 rfl B.range_ (pa_cons (pe_callB call_len_seq rfl B.len_ PySem.boot_len (pa_cons (pe_ix ix_tup (pe_ix ix_list (pv 1) (pv 2) (fun _ _ => rfl)) pe_int (fun _ _ => rfl)) pa_nil)) pa_nil)) (pg_name (i := 8) sc_arm.nd rfl (Or.inl rfl))
    (pss_cons (ps_set (i := 6) sc_arm.nd rfl (Or.inl rfl) (pe_callH h_word hr (by omega) rfl (pa_cons (pv 0) (pa_cons (pe_op op_add (pe_op op_add pe_int (pe_op op_mul pe_int (pv 3))) (pv 8)) pa_nil))))
    (pss_cons (ps_dput (hu_of hr) (pv 5) (pv 6) (pe_ix ix_tup (pe_ix ix_tup (pe_ix ix_list (pv 1) (pv 2) (fun _ _ => rfl)) pe_int (fun _ _ => rfl)) (pv 8) (fun _ _ => rfl)) rfl)
    (pss_one (ps_expr (pe_bm PySem.F.plainAttrs_list PySem.F.slot_list_append PySem.F.type_list_append mt_append (pv 7) (pa_cons (pe_tup (pa_cons pe_str (pa_cons (pv 6) pa_nil))) pa_nil)))))))
    (pss_one (ps_ret (pe_tup (pa_cons pe_str (pa_cons (pe_ix ix_tup (pe_ix ix_list (pv 1) (pv 2) (fun _ _ => rfl)) pe_int (fun _ _ => rfl)) (pa_cons (pe_callTy call_tuple_of rfl B.tuple_ boot_tuple_ (pa_cons (pv 7) pa_nil)) pa_nil)))))))))), ?_⟩
  try dsimp only [cxOf]
  have hlen := Paired.length hts
  have hnu : n < us.length := by rw [hlen]; exact (List.getElem?_eq_some_iff.mp hn).1
  obtain ⟨tv, htv⟩ : ∃ v, us[n]? = some v := ⟨_, List.getElem?_eq_getElem hnu⟩
  obtain ⟨t', ht', hT⟩ := tms_at hts htv
  rw [hn] at ht'
  cases ht'
  cases deeper with
  | false =>
    refine ⟨_, rfl, _, rfl, iteT ?_⟩
    refine ⟨_, rfl, _, rfl, _, _, rfl, rfl, a, ns, _, rfl, hS, ?_⟩
    dsimp only [gName]
    have hb := hsh rfl
    generalize wordF (ns.getD 0 0) ((5 : Int) + (j : Int)) = x at hb ⊢
    refine ⟨_, rfl, _, rfl, _, rfl, G, _, rfl, DPut.k (k := .inr x) hG (small1000 (by omega)), ?_⟩
    refine ⟨_, rfl, (show 2 ≤ sizeLine by decide), fun p hp => ?_⟩
    have hgp : p ≠ G := fun e => by rw [e, upd_same] at hp; cases hp
    have b1 : But G H (upd (upd H G (.dK (putK kvs (.inr x) (nV n)))) p (.tup [.str "any", .str x])) := fun c o nc h => by
      have h1 : c ≠ p := fun e => by rw [upd_ne hgp] at hp; rw [e, hp] at h; cases h
      rw [upd_ne h1, upd_ne nc]; exact h
    refine q _ _ (.any x) (x :: hs) _ (arm_any hb List.mem_cons_self) (hgv.put hb) (fun y hy => List.mem_cons_of_mem _ hy) (by have := length_putK kvs (.inr x) (nV n); omega) b1 (by rw [upd_ne (Ne.symm hgp), upd_same]) ?_
    rw [IsTr]
    exact ⟨p, rfl, upd_same⟩
  | true =>
    refine ⟨_, rfl, _, rfl, iteF ?_⟩
    refine ⟨_, rfl, _, rfl, R, us, n, tv, rfl, rfl, SqL.of hR, atI_nat htv, ?_⟩
    cases t with
    | num k =>
      obtain ⟨ta, rfl, h⟩ := hT
      refine ⟨ta, _, 0, _, rfl, rfl, SqT.of h, atI_nat (j := 0) rfl, rfl, _, rfl, iteDN (fun _ => ?_) (fun z => absurd (V.str.inj z) (by decide))⟩
      refine ⟨_, rfl, _, rfl, R, us, n, _, rfl, rfl, SqL.of hR, atI_nat htv, ?_⟩
      exact q _ H (.num k) hs kvs (arm_num hok.2.2 hn) hgv (fun _ h => h) (by omega) (fun c o _ h => h) hG (by rw [IsTr]; exact ⟨ta, rfl, h⟩)
    | name k =>
      obtain ⟨ta, rfl, h⟩ := hT
      refine ⟨ta, _, 0, _, rfl, rfl, SqT.of h, atI_nat (j := 0) rfl, rfl, _, rfl, iteDN (fun _ => ?_) (fun z => absurd (V.str.inj z) (by decide))⟩
      refine ⟨_, rfl, _, rfl, R, us, n, _, rfl, rfl, SqL.of hR, atI_nat htv, ?_⟩
      exact q _ H (.name k) hs kvs (arm_name hok.2.2 hn) hgv (fun _ h => h) (by omega) (fun c o _ h => h) hG (by rw [IsTr]; exact ⟨ta, rfl, h⟩)
    | of y bs =>
      obtain ⟨ta, tb, rfl, h, h2⟩ := hT
      refine ⟨ta, _, 0, _, rfl, rfl, SqT.of h, atI_nat (j := 0) rfl, rfl, _, rfl, iteDN (fun z => absurd rfl z) (fun _ => ?_)⟩
      refine ⟨Nat.zero_le _, fun D hD => ?_⟩
      dsimp only [gName]
      have s0 := same_new hD (.lst [])
      have hD1 := upd_same (H := H) (a := D) (o := .lst [])
      generalize upd H D (.lst []) = H0 at s0 hD1 ⊢
      obtain ⟨hb4, hb1⟩ := hok.2.1 n y bs hn
      have hj2 := hdp rfl y bs rfl
      refine ⟨_, rfl, _, rfl, R, us, n, _, rfl, rfl, SqL.of (s0 _ _ hR), atI_nat htv, ta, _, 2, _, rfl, rfl, SqT.of (s0 _ _ h), atI_nat (j := 2) rfl, tb, _, rfl, .inr (SqT.of (s0 _ _ h2)), _, rfl, by omega, by rw [List.length_map]; omega, ?_⟩
      refine for_range (lo := 0) (ArI H [some (.ref a), some (.ref R), some (nV n), some (nV j), some (.bl true), some (.ref G)] G D bf hs kvs bs) (ArI.mk [] kvs [] none none rfl (same_but s0) (s0 _ _ hG) hgv (Nat.le_refl _) hD1 .nil rfl) ?_ ?_
      · rintro i σ H1 hi ⟨ws, kvs1, vs, x6, x8, rfl, bt, hG1, hgv1, hl1, hDs, hps, hws⟩
        have ei : (0 : Int) + (i : Int) = ((i : Nat) : Int) := by omega
        rw [ei]
        dsimp only [gName]
        have hi' : i < bs.length := by simpa using hi
        obtain ⟨b, hb⟩ : ∃ b, bs[i]? = some b := ⟨_, List.getElem?_eq_getElem hi'⟩
        refine ⟨_, rfl, _, rfl, _, _, rfl, rfl, .inl ⟨by decide, by decide⟩, _, _, rfl, rfl, _, rfl, _, _, rfl, rfl, a, ns, _, rfl, but_seq bt hG hS, ?_⟩
        have hbx := hj2 i b hb
        generalize wordF (ns.getD 0 0) ((9 : Int) + (4 : Int) * (j : Int) + (i : Int)) = x at hbx ⊢
        refine ⟨_, rfl, _, rfl, R, us, n, _, rfl, rfl, SqL.of (but_get bt hG hR fun _ z => nomatch z), atI_nat htv, ta, _, 2, _, rfl, rfl, SqT.of (but_tup bt hG _ _ h), atI_nat (j := 2) rfl, _, rfl, tb, _, i, nV b, rfl, rfl, SqT.of (but_tup bt hG _ _ h2), atI_nat (by rw [List.getElem?_map, hb]; rfl), ?_⟩
        refine ⟨_, rfl, _, rfl, G, _, rfl, DPut.k (k := .inr x) hG1 (small1000 (by omega)), ?_⟩
        have b2 : But G H1 (upd H1 G (.dK (putK kvs1 (.inr x) (nV b)))) := fun c o nc h => by rw [upd_ne nc]; exact h
        have hG2 := upd_same (H := H1) (a := G) (o := .dK (putK kvs1 (.inr x) (nV b)))
        have hDG : D ≠ G := fun e => by rw [e, hG1] at hDs; cases hDs
        have hD2 : (upd H1 G (.dK (putK kvs1 (.inr x) (nV b)))) D = some (.lst vs) := by rw [upd_ne hDG]; exact hDs
        generalize upd H1 G (.dK (putK kvs1 (.inr x) (nV b))) = H2 at b2 hG2 hD2 ⊢
        have tp2 := but_tup b2 hG1
        refine ⟨_, rfl, .inl ⟨rfl, _, SqL.of hD2⟩, _, rfl, (show 2 ≤ sizeLine by decide), fun p hp => ?_⟩
        have s3 := same_new hp (.tup [.str "any", .str x])
        have hp3 := upd_same (H := H2) (a := p) (o := .tup [.str "any", .str x])
        generalize upd H2 p (.tup [.str "any", .str x]) = H3 at s3 hp3 ⊢
        have hvl := Paired.length hps
        have hwl : ws.length = i := by
          have := congrArg List.length hws
          rw [List.length_map, List.length_reverse, List.length_take] at this
          omega
        rw [List.length_reverse] at hvl
        refine ⟨D, vs, _, rfl, rfl, s3 _ _ hD2, small1000 (by omega), ?_⟩
        have tp4 : ∀ c ys, H3 c = some (.tup ys) → (upd H3 D (.lst (vs ++ [.ref p]))) c = some (.tup ys) := fun c ys e => by rw [upd_ne (ne_of e (s3 _ _ hD2) (fun z => nomatch z))]; exact e
        have tp : ∀ c ys, H1 c = some (.tup ys) → (upd H3 D (.lst (vs ++ [.ref p]))) c = some (.tup ys) := fun c ys e => tp4 _ _ (s3 _ _ (tp2 _ _ e))
        refine ArI.mk (x :: ws) _ (vs ++ [.ref p]) _ _ rfl (fun c o nc h => ?_) ?_ (hgv1.put hbx) (by have := length_putK kvs1 (.inr x) (nV b); omega) upd_same ?_ ?_
        · have hcD : c ≠ D := fun e => by rw [e, hD] at h; cases h
          rw [upd_ne hcD]
          exact s3 _ _ (b2 _ _ nc (bt _ _ nc h))
        · rw [upd_ne (Ne.symm hDG)]; exact s3 _ _ hG2
        · rw [List.reverse_cons]
          exact Paired.snoc (Paired.mapP hps fun _ _ z => tr_keep tp z) (by rw [IsTr]; exact ⟨p, rfl, tp4 _ _ hp3⟩)
        · rw [List.reverse_cons, List.map_append, hws, List.take_succ, hb, ← hbx]; rfl
      · rintro σ H1 ⟨ws, kvs1, vs, x6, x8, rfl, bt, hG1, hgv1, hl1, hDs, hps, hws⟩
        have el : (((bs.map nV).length : Nat) : Int).toNat = bs.length := by simp
        rw [el, List.take_length] at hws
        rw [el] at hl1
        have hvl := Paired.length hps
        have hwl : ws.length = bs.length := by
          have := congrArg List.length hws
          rwa [List.length_map, List.length_reverse] at this
        rw [List.length_reverse] at hvl
        refine ⟨_, rfl, _, rfl, R, us, n, _, rfl, rfl, SqL.of (but_get bt hG hR fun _ z => nomatch z), atI_nat htv, ta, _, 1, _, rfl, rfl, SqT.of (but_tup bt hG _ _ h), atI_nat (j := 1) rfl, ?_⟩
        refine ⟨_, rfl, D, vs, rfl, .inl ⟨SqL.of hDs, fun c hc => ?_⟩⟩
        have s2 := same_new hc (.tup vs)
        have hc2 := upd_same (H := H1) (a := c) (o := .tup vs)
        generalize upd H1 c (.tup vs) = H2 at s2 hc2 ⊢
        refine ⟨(show 3 ≤ sizeLine by decide), fun p hp => ?_⟩
        have s3 := same_new hp (.tup [.str "of", .str y, .ref c])
        have hp3 := upd_same (H := H2) (a := p) (o := .tup [.str "of", .str y, .ref c])
        have s4 := s2.trans s3
        refine q _ _ (.of y (ws.reverse.map T.any)) (ws ++ hs) kvs1 (arm_of hok.2.2 hn hws hb4 fun x hx => List.mem_append_left _ (List.mem_reverse.mp hx)) hgv1 (fun x hx => List.mem_append_right _ hx) (by omega) (but_thn bt (same_but s4)) (s4 _ _ hG1) ?_
        rw [IsTr]
        exact ⟨p, c, vs, rfl, hp3, s3 _ _ hc2, anys_tr (Paired.mapP hps fun _ _ z => tr_keep (fun c ys e => s4 _ _ e) z)⟩
end

end K12
namespace K12
open PySem L2 Sw
section
variable {P : Program} {w : World} {K : PySem.W.Frag} {mg : Str → Option Value} {base : Heap} {CB CF : Addr}
inductive SpPat (K : PySem.W.Frag) (vs : List V) (H : Hp) (Q : VK) : Prop
  | mk (a R G : Addr) (ns : List Int) (us : List V) (rows : List Tm) (k : Nat) (t : Tm) (tv : V) (z0 : vs = [.ref a, .ref R, tv, .ref G]) (z1 : SqL K H a (ns.map V.int)) (z2 : H R = some (.lst us)) (z3 : Tms H us rows) (z4 : TsOk rows) (z5 : rows[k]? = some t) (z6 : IsTm H t tv)
    (z8 : H G = some (.dK []))
    (z11 : ∀ v H' p bf hs kvs, PatOk bf rows k t p hs → Giv bf hs kvs → kvs.length ≤ 16 → But G H H' → H' G = some (.dK kvs) → IsTr H' p v → Q v H') : SpPat K vs H Q
noncomputable def spPat (K : PySem.W.Frag) : Sp := fun vs H Q _ => SpPat K vs H Q
inductive PaI (H : Hp) (σ0 : List (Option V)) (G D : Addr) (bf : Str → Nat) (rows : List Tm) (as : List Nat) (i : Nat) (σ : St) (H' : Hp) : Prop
  | mk (hs : List Str) (kvs : List (Key × V)) (vs : List V) (ps : List T) (x5 x6 x7 : Option V) (z0 : σ = σ0 ++ [some (.ref D), x5, x6, x7]) (z1 : But G H H') (z2 : H' G = some (.dK kvs)) (z3 : Giv bf hs kvs) (z4 : kvs.length ≤ 4 * i) (z5 : H' D = some (.lst vs)) (z6 : Paired (fun v p => IsTr H' p v) vs ps) (z7 : Paired (fun n p => ArmOk bf rows n p hs) (as.take i) ps) : PaI H σ0 G D bf rows as i σ H'
theorem first_at (as : List Nat) {j n : Nat} (h : as[j]? = some n) : ∃ f, f ≤ j ∧ as[f]? = some n ∧ ∀ i, i < f → as[i]? ≠ some n := by
  induction j using Nat.strongRecOn with
  | ind j ih =>
    by_cases e : ∃ i, i < j ∧ as[i]? = some n
    · obtain ⟨i, hi, hn⟩ := e
      obtain ⟨f, h1, h2, h3⟩ := ih i hi hn
      exact ⟨f, by omega, h2, h3⟩
    · exact ⟨j, Nat.le_refl _, h, fun i hi z => e ⟨i, hi, z⟩⟩
theorem trs_of {H : Hp} : ∀ {vs : List V} {ts : List T}, Paired (fun v t => IsTr H t v) vs ts → IsTrs H ts vs
  | _, _, .nil => by rw [IsTrs]
  | _, _, .cons h t => by rw [IsTrs]; exact ⟨_, _, rfl, h, trs_of t⟩
theorem ok_pattern (B : Blt mg) (h_at : Has P w K mg base 1 "_law_at" ["_law_script", "_law_k"] (spAt K)) (h_arm : Has P w K mg base 3 "_law_arm" ["_law_script", "_law_rows", "_law_number", "_law_j", "_law_deeper", "_law_given"] (spArm K)) (D : Def K mg "_law_pattern" s_pattern ["_law_script", "_law_rows", "_law_term_here", "_law_given"]) :
    Has P w K mg base 4 "_law_pattern" ["_law_script", "_law_rows", "_law_term_here", "_law_given"] (spPat K) := by
  refine D.has sc_pattern (fun vs H Q E h => ?_) (fun f cdv A outer s H vs Q E hr h => ?_)
  · obtain ⟨a, R, G, ns, us, rows, k, t, tv, rfl, _⟩ := h; rfl
  obtain ⟨a, R, G, ns, us, rows, k, t, tv, rfl, hS, hR, hts, hok, hk, hT, hG, q⟩ := h
  refine ⟨_, (pss_cons (ps_if (pt_cmpR op_ne (pe_ix ix_tup (pv 2) pe_int (fun _ _ => rfl)) pe_str (nomark _)) (pss_one (ps_ret (pv 2))) pss_nil)
    (pss_cons (ps_set (i := 4) sc_pattern.nd rfl (Or.inl rfl) (pe_lst pa_nil))
    (pss_cons (ps_for PassesOwn.never rfl (pi_range1 rfl B.range_ (pa_cons (pe_callB call_len_seq rfl B.len_ PySem.boot_len (pa_cons (pe_ix ix_tup (pv 2) pe_int (fun _ _ => rfl)) pa_nil)) pa_nil)) (pg_name (i := 5) sc_pattern.nd rfl (Or.inl rfl))
    (pss_cons (ps_set (i := 6) sc_pattern.nd rfl (Or.inl rfl) (pe_cmpR op_eq (pe_op op_mod (pe_op op_add (pe_op op_add (pe_callH h_at hr (by omega) rfl (pa_cons (pv 0) (pa_cons pe_int pa_nil))) (pe_callB call_len_seq rfl B.len_ PySem.boot_len (pa_cons (pv 1) pa_nil))) (pv 5)) pe_int) pe_int (nomark _)))
    (pss_cons (ps_set (i := 7) sc_pattern.nd rfl (Or.inl rfl) (pe_bm PySem.F.plainAttrs_tuple PySem.F.slot_tuple_index PySem.F.type_tuple_index mt_tindexI (pe_ix ix_tup (pv 2) pe_int (fun _ _ => rfl)) (pa_cons (pe_ix ix_tup (pe_ix ix_tup (pv 2) pe_int (fun _ _ => rfl)) (pv 5) (fun _ _ => rfl)) pa_nil)))
    (pss_one (ps_expr (pe_bm PySem.F.plainAttrs_list PySem.F.slot_list_append PySem.F.type_list_append mt_append (pv 4) (pa_cons (pe_callH h_arm hr (by omega) rfl (pa_cons (pv 0) (pa_cons (pv 1) (pa_cons (pe_ix ix_tup (pe_ix ix_tup (pv 2) pe_int (fun _ _ => rfl)) (pv 5) (fun _ _ => rfl)) (pa_cons (pv 7) (pa_cons (pv 6) (pa_cons (pv 3) pa_nil))))))) pa_nil)))))))
    (pss_one (ps_ret (pe_tup (pa_cons pe_str (pa_cons (pe_ix ix_tup (pv 2) pe_int (fun _ _ => rfl)) (pa_cons (pe_callTy call_tuple_of rfl B.tuple_ boot_tuple_ (pa_cons (pv 4) pa_nil)) pa_nil))))))))), ?_⟩
  try dsimp only [cxOf]
  cases t with
  | num z =>
    obtain ⟨ta, rfl, h⟩ := hT
    refine ⟨_, rfl, ta, _, 0, _, rfl, rfl, SqT.of h, atI_nat (j := 0) rfl, rfl, _, rfl, iteDN (fun _ => ?_) (fun z => absurd (V.str.inj z) (by decide))⟩
    exact ⟨_, rfl, q _ H (.num z) (fun _ => 0) [] [] pat_num (giv_nil _) (by decide) (fun c o _ h => h) hG (by rw [IsTr]; exact ⟨ta, rfl, h⟩)⟩
  | name z =>
    obtain ⟨ta, rfl, h⟩ := hT
    refine ⟨_, rfl, ta, _, 0, _, rfl, rfl, SqT.of h, atI_nat (j := 0) rfl, rfl, _, rfl, iteDN (fun _ => ?_) (fun z => absurd (V.str.inj z) (by decide))⟩
    exact ⟨_, rfl, q _ H (.name z) (fun _ => 0) [] [] pat_name (giv_nil _) (by decide) (fun c o _ h => h) hG (by rw [IsTr]; exact ⟨ta, rfl, h⟩)⟩
  | of y as =>
    obtain ⟨ta, tb, rfl, h, h2⟩ := hT
    refine ⟨_, rfl, ta, _, 0, _, rfl, rfl, SqT.of h, atI_nat (j := 0) rfl, rfl, _, rfl, iteDN (fun z => absurd rfl z) (fun _ => ?_)⟩
    refine ⟨Nat.zero_le _, fun D hD => ?_⟩
    dsimp only [gName]
    have s0 := same_new hD (.lst [])
    have hD1 := upd_same (H := H) (a := D) (o := .lst [])
    generalize upd H D (.lst []) = H0 at s0 hD1 ⊢
    obtain ⟨ha4, ha1⟩ := hok.2.1 k y as hk
    have hak := hok.1 k y as hk
    have hkl := (List.getElem?_eq_some_iff.mp hk).1
    refine ⟨_, rfl, ta, _, 2, _, rfl, rfl, SqT.of (s0 _ _ h), atI_nat (j := 2) rfl, tb, _, rfl, .inr (SqT.of (s0 _ _ h2)), _, rfl, by omega, by rw [List.length_map]; omega, ?_⟩
    refine for_range (lo := 0) (PaI H [some (.ref a), some (.ref R), some (.ref ta), some (.ref G)] G D (bindB (ns.getD 0 0) rows as) rows as) (PaI.mk [] [] [] [] none none none rfl (same_but s0) (s0 _ _ hG) (giv_nil _) (Nat.le_refl _) hD1 .nil .nil) ?_ ?_
    · rintro i σ H1 hi ⟨hs, kvs, vs, ps, x5, x6, x7, rfl, bt, hG1, hgv, hl, hDs, hps, har⟩
      have ei : (0 : Int) + (i : Int) = ((i : Nat) : Int) := by omega
      rw [ei]
      dsimp only [gName]
      have hi' : i < as.length := by simpa using hi
      obtain ⟨n, hn⟩ : ∃ b, as[i]? = some b := ⟨_, List.getElem?_eq_getElem hi'⟩
      obtain ⟨fi, f1, f2, f3⟩ := first_at as hn
      have hnk := hak n (List.mem_of_getElem? hn)
      have hS1 := but_seq bt hG hS
      have hR1 := but_get bt hG hR (fun _ z => nomatch z)
      have h1 := but_tup bt hG _ _ h
      have h21 := but_tup bt hG _ _ h2
      obtain ⟨t', ht'⟩ : ∃ t', rows[n]? = some t' := ⟨_, List.getElem?_eq_getElem (by omega)⟩
      refine ⟨_, rfl, a, ns, 0, rfl, hS1, by decide, _, rfl, R, us, rfl, .inl (SqL.of hR1), _, _, rfl, rfl, _, rfl, _, _, rfl, rfl, _, _, rfl, rfl, pos', rfl, ?_⟩
      dsimp only [gName]
      have ixs : SqT K H1 tb ((as.map fun n : Nat => (n : Int)).map V.int) := by rw [List.map_map]; exact SqT.of h21
      refine ⟨_, rfl, ta, _, 2, _, rfl, rfl, SqT.of h1, atI_nat (j := 2) rfl, .inr (.inl ⟨rfl, .inr ⟨_, h21⟩⟩), _, rfl, ta, _, 2, _, rfl, rfl, SqT.of h1, atI_nat (j := 2) rfl, _, rfl, tb, _, i, nV n, rfl, rfl, SqT.of h21, atI_nat (by rw [List.getElem?_map, hn]; rfl), ?_⟩
      refine ⟨tb, _, (n : Int), fi, rfl, rfl, ixs, (by rw [List.getElem?_map, f2]; rfl), (fun m hm z => f3 m hm ?_), ?_⟩
      · rw [List.getElem?_map] at z
        cases e : as[m]? with
        | none => rw [e] at z; cases z
        | some c => rw [e] at z; have z2 : ((c : Nat) : Int) = (n : Int) := Option.some.inj z; rw [show c = n by omega]
      dsimp only [gName]
      generalize decide (V.int ((ns.getD (Int.toNat 0) 0 + ↑us.length + ↑i) % 3) = V.int 0) = deeper
      have hts1 := tms_keep (but_tup bt hG) hts
      refine ⟨_, rfl, .inl ⟨rfl, _, SqL.of hDs⟩, _, rfl, _, rfl, _, rfl, ta, _, 2, _, rfl, rfl, SqT.of h1, atI_nat (j := 2) rfl, _, rfl, tb, _, i, nV n, rfl, rfl, SqT.of h21, atI_nat (by rw [List.getElem?_map, hn]; rfl), _, rfl, _, rfl, _, rfl, ?_⟩
      refine ⟨a, R, G, ns, us, rows, n, fi, t', deeper, _, hs, kvs, rfl, hS1, hR1, hts1, hok, ht', (fun _ => bind_shallow (by omega) f2), (fun _ y' bs e i' b hb => ?_), hG1, hgv, by omega, by omega, fun v H2 p hs' kvs' hao hgv' hsub hl' bt2 hG2 htr => ?_⟩
      · rw [e] at ht'
        have := (hok.2.1 n y' bs ht').1
        have := (List.getElem?_eq_some_iff.mp hb).1
        exact bind_deep (by omega) (by omega) f2 ht' hb
      have hD2 := but_get bt2 hG1 hDs (fun _ z => nomatch z)
      have hvl := Paired.length hps
      have hal := Paired.length har
      rw [List.length_take] at hal
      refine ⟨D, vs, _, rfl, rfl, hD2, small1000 (by omega), ?_⟩
      have tp3 : ∀ c ys, H2 c = some (.tup ys) → (upd H2 D (.lst (vs ++ [v]))) c = some (.tup ys) := fun c ys e => by rw [upd_ne (ne_of e hD2 (fun z => nomatch z))]; exact e
      have hDG : D ≠ G := fun e => by rw [e, hG2] at hD2; cases hD2
      refine PaI.mk hs' kvs' (vs ++ [v]) (ps ++ [p]) _ _ _ rfl (fun c o nc h => ?_) ?_ hgv' (by omega) upd_same ?_ ?_
      · have hcD : c ≠ D := fun e => by rw [e, hD] at h; cases h
        rw [upd_ne hcD]
        exact bt2 _ _ nc (bt _ _ nc h)
      · rw [upd_ne (Ne.symm hDG)]; exact hG2
      · exact Paired.snoc (Paired.mapP hps fun _ _ z => tr_keep tp3 (tr_keep (but_tup bt2 hG1) z)) (tr_keep tp3 htr)
      · rw [List.take_succ, hn]
        exact Paired.snoc (Paired.mapP har fun _ _ z => z.mono hsub) hao
    · rintro σ H1 ⟨hs, kvs, vs, ps, x5, x6, x7, rfl, bt, hG1, hgv, hl, hDs, hps, har⟩
      have el : (((as.map nV).length : Nat) : Int).toNat = as.length := by simp
      rw [el] at har hl
      rw [List.take_length] at har
      refine ⟨_, rfl, ta, _, 1, _, rfl, rfl, SqT.of (but_tup bt hG _ _ h), atI_nat (j := 1) rfl, _, rfl, D, vs, rfl, .inl ⟨SqL.of hDs, fun c hc => ?_⟩⟩
      have s2 := same_new hc (.tup vs)
      have hc2 := upd_same (H := H1) (a := c) (o := .tup vs)
      generalize upd H1 c (.tup vs) = H2 at s2 hc2 ⊢
      refine ⟨(show 3 ≤ sizeLine by decide), fun p hp => ?_⟩
      have s3 := same_new hp (.tup [.str "of", .str y, .ref c])
      have hp3 := upd_same (H := H2) (a := p) (o := .tup [.str "of", .str y, .ref c])
      have s4 := s2.trans s3
      refine q _ _ (.of y ps) _ hs kvs (pat_of hak ha4 har) hgv (by omega) (but_thn bt (same_but s4)) (s4 _ _ hG1) ?_
      rw [IsTr]
      exact ⟨p, c, vs, rfl, hp3, s3 _ _ hc2, trs_of (Paired.mapP hps fun _ _ z => tr_keep (fun c ys e => s4 _ _ e) z)⟩
end

end K12
namespace K12
open PySem L2 Sw
section
variable {P : Program} {w : World} {K : PySem.W.Frag} {mg : Str → Option Value} {base : Heap} {CB CF : Addr}
theorem bank_butD {H H' : Hp} {G b dx L M : Addr} {room : Int} {ts : List Tm} {kvs : List (Key × V)} (hB : BankAt P w CB H b dx L M room ts) (bt : But G H H') (hG : H G = some (.dK kvs)) : BankAt P w CB H' b dx L M room ts := by
  obtain ⟨h1, ⟨us, h2, h3⟩, kv, h4, h5, h6⟩ := hB
  exact ⟨but_get bt hG h1 (fun _ z => nomatch z), ⟨us, but_get bt hG h2 (fun _ z => nomatch z), tms_keep (but_tup bt hG) h3⟩, kv, h4.keep (fun φ z => but_get bt hG z fun _ y => nomatch y) (but_tup bt hG), h5, h6⟩
theorem take_nodup {rows : List Tm} (h : rows.Nodup) (m : Nat) : (rows.take m).Nodup := h.sublist (List.take_sublist m rows)
inductive SpFilled (P : Program) (w : World) (K : PySem.W.Frag) (CB : Addr) (vs : List V) (H : Hp) (Q : VK) : Prop
  | mk (a R : Addr) (ns : List Int) (us : List V) (rows : List Tm) (room : Int) (many : Nat) (z0 : vs = [.ref a, .ref R, .int room, nV many]) (z1 : SqL K H a (ns.map V.int)) (z2 : H R = some (.lst us)) (z3 : Tms H us rows) (z4 : TsOk rows) (z5 : many ≤ rows.length) (z6 : rows.length ≤ 32) (z7 : (many : Int) ≤ room)
    (z8 : ∀ H' b dx L M, Same H H' → H b = none → H L = none → H M = none → BankAt P w CB H' b dx L M room (rows.take many) → Q (.ref b) H') : SpFilled P w K CB vs H Q
noncomputable def spFilled (P : Program) (w : World) (K : PySem.W.Frag) (CB : Addr) : Sp := fun vs H Q _ => SpFilled P w K CB vs H Q
inductive FlI (P : Program) (w : World) (CB : Addr) (H : Hp) (a R b dx L M : Addr) (room : Int) (many : Nat) (rows : List Tm) (i : Nat) (σ : St) (H' : Hp) : Prop
  | mk (x5 x6 x7 : Option V) (z0 : σ = [some (.ref a), some (.ref R), some (.int room), some (nV many), some (.ref b), x5, x6, x7]) (z1 : Same H H') (z2 : BankAt P w CB H' b dx L M room (rows.take i)) : FlI P w CB H a R b dx L M room many rows i σ H'
theorem ok_filled (B : Blt mg) (Z : TopBk K mg CB CF) (h_init : HasC P w K mg base 1 "Bank" CB ["self", "room"] (spInit P w CB)) (h_pattern : Has P w K mg base 4 "_law_pattern" ["_law_script", "_law_rows", "_law_term_here", "_law_given"] (spPat K)) (h_put : HasM3 P w K mg base 5 CB "put" ["self", "pattern", "binds"] [.non] ["binds"] (spPutE P w CB CF 3))
    (D : Def K mg "_law_filled" s_filled ["_law_script", "_law_rows", "_law_room", "_law_many"]) : Has P w K mg base 6 "_law_filled" ["_law_script", "_law_rows", "_law_room", "_law_many"] (spFilled P w K CB) := by
  have cB := Z.cB
  refine D.has sc_filled (fun vs H Q E h => ?_) (fun f cdv A outer s H vs Q E hr h => ?_)
  · obtain ⟨a, R, ns, us, rows, room, many, rfl, _⟩ := h; rfl
  obtain ⟨a, R, ns, us, rows, room, many, rfl, hS, hR, hts, hok, hmr, h32, hmo, q⟩ := h
  refine ⟨_, (pss_cons (ps_set (i := 4) sc_filled.nd rfl (Or.inl rfl) (pe_makeE h_init hr (by omega) passNo rfl (pa_cons (pv 2) pa_nil)))
    (pss_cons (ps_for PassesOwn.never rfl (pi_range1 rfl B.range_ (pa_cons (pv 3) pa_nil)) (pg_name (i := 5) sc_filled.nd rfl (Or.inl rfl))
    (pss_cons (ps_set (i := 6) sc_filled.nd rfl (Or.inl rfl) pe_dnewK)
    (pss_cons (ps_set (i := 7) sc_filled.nd rfl (Or.inl rfl) (pe_callH h_pattern hr (by omega) rfl (pa_cons (pv 0) (pa_cons (pv 1) (pa_cons (pe_ix ix_list (pv 1) (pv 5) (fun _ _ => rfl)) (pa_cons (pv 6) pa_nil))))))
    (pss_one (ps_expr (pe_mE h_put.a cB hr (by omega) passNo (pv 4) (pa_cons (pv 7) (pa_cons (pv 6) pa_nil))))))))
    (pss_one (ps_ret (pv 4))))), ?_⟩
  try dsimp only [cxOf]
  refine ⟨_, rfl, fun b dx hb0 hdx0 hne => ⟨b, dx, room, rfl, upd_same, fun H2 L M bt hL hM hB => ⟨rfl, ?_⟩⟩⟩
  dsimp only [gName]
  have nn : ∀ c o, H c = some o → c ≠ b ∧ c ≠ dx := fun c o e => ⟨ne_of_none e hb0, ne_of_none e hdx0⟩
  have up : ∀ c o, H c = some o → (upd (upd H dx (.own b)) b (.ins CB dx [])) c = some o := fun c o e => by rw [upd_ne (nn c o e).1, upd_ne (nn c o e).2]; exact e
  have s2 : Same H H2 := fun c o e => bt c o (nn c o e).1 (up c o e)
  have fr : ∀ c, (upd (upd H dx (.own b)) b (.ins CB dx [])) c = none → H c = none := fun c hc => by
    cases e : H c with
    | none => rfl
    | some o => have := up _ _ e; rw [hc] at this; cases this
  have hL0 := fr L hL
  have hM0 := fr M hM
  clear up nn bt hL hM fr
  have hlen := Paired.length hts
  refine ⟨_, rfl, _, rfl, by omega, by omega, ?_⟩
  refine for_range (lo := 0) (FlI P w CB H a R b dx L M room many rows) (FlI.mk none none none rfl s2 (by rw [List.take_zero]; exact hB)) ?_ ?_
  · rintro i σ H1 hi ⟨x5, x6, x7, rfl, s1, hB1⟩
    have ei : (0 : Int) + (i : Int) = ((i : Nat) : Int) := by omega
    rw [ei]
    dsimp only [gName]
    have hi' : i < many := by omega
    obtain ⟨tv, htv⟩ : ∃ v, us[i]? = some v := ⟨_, List.getElem?_eq_getElem (by omega)⟩
    obtain ⟨t, ht, hT⟩ := tms_at hts htv
    refine fun G hG => ?_
    dsimp only [gName]
    have s3 := s1.trans (same_new hG (.dK []))
    have hB2 := hB1.same (same_new hG (.dK []))
    have hG2 := upd_same (H := H1) (a := G) (o := .dK [])
    generalize upd H1 G (.dK []) = H2 at s3 hB2 hG2 ⊢
    refine ⟨_, rfl, _, rfl, _, rfl, _, rfl, R, us, i, tv, rfl, rfl, SqL.of (s3 _ _ hR), atI_nat htv, _, rfl, ?_⟩
    refine ⟨a, R, G, ns, us, rows, i, t, tv, rfl, s3.seq hS, s3 _ _ hR, tms_same s3 hts, hok, ht, hT.keep (fun c ys e => s3 _ _ e), hG2, fun v H3 p bf hs kvs hpo hgv hkl bt3 hG3 htr => ?_⟩
    dsimp only [gName]
    have hB3 := bank_butD hB2 bt3 hG2
    have ep := (hpo.put i (Nat.le_refl _)).trans (pat_new hok.2.2 ht)
    have hdp := hpo.deep
    have hpl : (rows.take (i + 1)).length = i + 1 := by rw [List.length_take]; omega
    refine ⟨_, rfl, b, dx, _, rfl, hB3.1, rfl, _, rfl, _, rfl, b, dx, L, M, room, rows.take i, v, .ref G, p, bf, rfl, hB3, take_nodup hok.2.2 i, htr, by omega, hpo.slim, (fun x hx => ⟨G, kvs, rfl, hG3, hgv.has x (hpo.hol x hx)⟩), (by rw [ep]; show (rows.take (i + 1)).length ≤ 900; omega), (by rw [List.length_take]; omega), fun _ H4 bt4 hB4 => ?_, fun hnf => absurd (by rw [ep]; show ((rows.take (i + 1)).length : Int) ≤ room; omega) hnf⟩
    rw [ep] at hB4
    refine FlI.mk _ _ _ rfl (fun c o e => ?_) hB4
    have e1 := s1 _ _ e
    have hcG : c ≠ G := ne_of_none e1 hG
    exact bt4 _ _ (ne_of_none e hL0) (ne_of_none e hM0) (bt3 _ _ hcG (s3 _ _ e))
  · rintro σ H1 ⟨x5, x6, x7, rfl, s1, hB1⟩
    have el : ((many : Nat) : Int).toNat = many := by omega
    exact ⟨_, rfl, q H1 b dx L M s1 hb0 hL0 hM0 hB1⟩
inductive SpRefused (P : Program) (w : World) (CB : Addr) (vs : List V) (H : Hp) (Q : VK) : Prop
  | mk (b dx L M : Addr) (room : Int) (ts : List Tm) (v bv : V) (p : T) (bf : Str → Nat) (z0 : vs = [.ref b, v, bv]) (z1 : BankAt P w CB H b dx L M room ts) (z2 : ts.Nodup) (z3 : IsTr H p v) (z4 : p.depth ≤ 3) (z5 : p.Slim) (z6 : BOk H bv bf p.hol) (z7 : (ptF bf ts p).1.length ≤ 900) (z8 : (ts.length : Int) ≤ room)
    (z9 : ¬ (((ptF bf ts p).1.length : Int) ≤ room)) (z10 : ∀ H', But2 L M H H' → BankAt P w CB H' b dx L M room ts → Q (.bl true) H') : SpRefused P w CB vs H Q
noncomputable def spRefused (P : Program) (w : World) (CB : Addr) : Sp := fun vs H Q _ => SpRefused P w CB vs H Q
theorem ok_refused (Z : TopBk K mg CB CF) (mFF : PySem.W.exmOne K (.ref CF) (.ref CF) = some true) (h_put : HasM3 P w K mg base 5 CB "put" ["self", "pattern", "binds"] [.non] ["binds"] (spPutE P w CB CF 3)) (D : Def K mg "_law_refused" s_refused ["_law_bank", "_law_pattern_here", "_law_given"]) :
    Has P w K mg base 6 "_law_refused" ["_law_bank", "_law_pattern_here", "_law_given"] (spRefused P w CB) := by
  have cB := Z.cB
  have e_Full := Z.oFull.glob
  refine D.has sc_refused (fun vs H Q E h => ?_) (fun f cdv A outer s H vs Q E hr h => ?_)
  · obtain ⟨b, dx, L, M, room, ts, v, bv, p, bf, rfl, _⟩ := h; rfl
  obtain ⟨b, dx, L, M, room, ts, v, bv, p, bf, rfl, hB, hnd, hT, hd, hsl, hbo, hz, hro, hnf, q⟩ := h
  refine ⟨_, (pss_cons (ps_set (i := 3) sc_refused.nd rfl (Or.inl rfl) pe_bl)
    (pss_cons (ps_tryU ⟨rfl, rfl⟩ rfl e_Full (pst_expr (pet_mE h_put.a cB hr (by omega) (pv 0) (pa_cons (pv 1) (pa_cons (pv 2) pa_nil)))) (fun ea => (pss_one (ps_set (i := 3) sc_refused.nd rfl (Or.inl rfl) pe_bl))))
    (pss_one (ps_ret (pv 3))))), ?_⟩
  try dsimp only [cxOf]
  refine ⟨_, rfl, b, dx, _, rfl, hB.1, rfl, _, rfl, _, rfl, b, dx, L, M, room, ts, v, bv, p, bf, rfl, hB, hnd, hT, hd, hsl, hbo, hz, hro, fun hf => absurd hf hnf, fun _ H1 ea0 bt hB1 => ⟨CF, rfl, mFF, fun ea hea => ?_⟩⟩
  have s1 := same_new hea (XO ea CF)
  exact ⟨_, rfl, q _ (fun c u n1 n2 h => s1 _ _ (bt c u n1 n2 h)) (hB1.same s1)⟩
end

end K12
namespace K12
open PySem L2 Sw
section
variable {P : Program} {w : World} {K : PySem.W.Frag} {mg : Str → Option Value} {base : Heap} {CB CF : Addr}
theorem rd_hide {t rest : TS} {D : Ends} {σ : St} {H : Hp} (h : ∀ N : St → Hp → Prop, N = rest D → t { D with nx := N } σ H) : tSeq t rest D σ H := h _ rfl
theorem paired_take {α β : Type} {R : α → β → Prop} : ∀ {xs : List α} {ys : List β} (n : Nat), Paired R xs ys → Paired R (xs.take n) (ys.take n)
  | _, _, 0, _ => by rw [List.take_zero, List.take_zero]; exact .nil
  | _, _, n + 1, .nil => by rw [List.take_nil, List.take_nil]; exact .nil
  | _, _, n + 1, .cons h t => by rw [List.take_succ_cons, List.take_succ_cons]; exact .cons h (paired_take n t)
theorem bank_den {H : Hp} {b dx L M : Addr} {room : Int} {ts : List Tm} (hB : BankAt P w CB H b dx L M room ts) : Den H (.lst (ts.map tmD)) (.ref L) := by
  obtain ⟨us, h2, h3⟩ := hB.2.1
  rw [Den]
  exact ⟨L, us, rfl, h2, tms_den h3⟩
theorem slice_den {H : Hp} {sl : Addr} {us : List V} {rows : List Tm} {m : Nat} (hts : Tms H us rows) (hm : m ≤ us.length) (h : H sl = some (.lst (cutV us none (some (m : Int))))) : Den H (.lst ((rows.take m).map tmD)) (.ref sl) := by
  rw [cut_take hm] at h
  rw [Den]
  exact ⟨sl, _, rfl, h, tms_den (paired_take m hts)⟩
theorem arms_take {ts : List Tm} (h : Arms ts) (m : Nat) : Arms (ts.take m) := fun i x as e a ha => by
  have hl := (List.getElem?_eq_some_iff.mp e).1
  rw [List.length_take] at hl
  rw [List.getElem?_take_of_lt (by omega)] at e
  exact h i x as e a ha
inductive SpLacking (K : PySem.W.Frag) (vs : List V) (H : Hp) (Q : VK) : Prop
  | mk (a R : Addr) (ns : List Int) (us : List V) (rows : List Tm) (z0 : vs = [.ref a, .ref R]) (z1 : SqL K H a (ns.map V.int)) (z2 : H R = some (.lst us)) (z3 : Tms H us rows) (z4 : TsOk rows) (z5 : 1 ≤ rows.length) (z6 : rows.length ≤ 32) (z7 : ∀ t ∈ rows, NmW (ns.getD 0 0) t) (z8 : ∀ H', Q (.bl true) H') : SpLacking K vs H Q
noncomputable def spLacking (K : PySem.W.Frag) : Sp := fun vs H Q _ => SpLacking K vs H Q
inductive LkC (H : Hp) (a R : Addr) (many : Nat) (σ : St) (H' : Hp) : Prop
  | mk (x3 x4 x5 : Option V) (z0 : σ = [some (.ref a), some (.ref R), some (nV many), x3, x4, x5, none, none]) (z1 : Same H H') : LkC H a R many σ H'
theorem ok_lacking (B : Blt mg) (Z : TopBk K mg CB CF) (h_at : Has P w K mg base 1 "_law_at" ["_law_script", "_law_k"] (spAt K)) (h_word : Has P w K mg base 2 "_law_word" ["_law_script", "_law_which"] (spWordS K)) (h_pattern : Has P w K mg base 4 "_law_pattern" ["_law_script", "_law_rows", "_law_term_here", "_law_given"] (spPat K))
    (h_filled : Has P w K mg base 6 "_law_filled" ["_law_script", "_law_rows", "_law_room", "_law_many"] (spFilled P w K CB)) (h_refused : Has P w K mg base 6 "_law_refused" ["_law_bank", "_law_pattern_here", "_law_given"] (spRefused P w CB)) (h_put : HasM3 P w K mg base 5 CB "put" ["self", "pattern", "binds"] [.non] ["binds"] (spPutE P w CB CF 3))
    (D : Def K mg "_law_lacking" s_lacking ["_law_script", "_law_rows"]) : Has P w K mg base 7 "_law_lacking" ["_law_script", "_law_rows"] (spLacking K) := by
  have cB := Z.cB
  refine D.has sc_lacking (fun vs H Q E h => ?_) (fun f cdv A outer s H vs Q E hr h => ?_)
  · obtain ⟨a, R, ns, us, rows, rfl, _⟩ := h; rfl
  obtain ⟨a, R, ns, us, rows, rfl, hS, hR, hts, hok, h1, h32, hnm, q⟩ := h
  refine ⟨_, (pss_cons (ps_set (i := 2) sc_lacking.nd rfl (Or.inl rfl) (pe_op op_add pe_int (pe_op op_mod (pe_callH h_at hr (by omega) rfl (pa_cons (pv 0) (pa_cons pe_int pa_nil))) (pe_callB call_len_seq rfl B.len_ PySem.boot_len (pa_cons (pv 1) pa_nil)))))
    (pss_cons (ps_if (pt_cmpR op_lt (pv 2) (pe_callB call_len_seq rfl B.len_ PySem.boot_len (pa_cons (pv 1) pa_nil)) (nomark _)) (pss_cons (ps_set (i := 3) sc_lacking.nd rfl (Or.inl rfl) (pe_callH h_filled hr (by omega) rfl (pa_cons (pv 0) (pa_cons (pv 1) (pa_cons (pv 2) (pa_cons (pv 2) pa_nil))))))
    (pss_cons (ps_set (i := 4) sc_lacking.nd rfl (Or.inl rfl) pe_dnewK)
    (pss_cons (ps_set (i := 5) sc_lacking.nd rfl (Or.inl rfl) (pe_callH h_pattern hr (by omega) rfl (pa_cons (pv 0) (pa_cons (pv 1) (pa_cons (pe_ix ix_list (pv 1) (pv 2) (fun _ _ => rfl)) (pa_cons (pv 4) pa_nil))))))
    (pss_one (ps_if (PW.pt (pw_or (pt_not (pt_val (pe_callH h_refused hr (by omega) rfl (pa_cons (pv 3) (pa_cons (pv 5) (pa_cons (pv 4) pa_nil)))))) (pw_or1 (pt_cmpR (op_neD (un101 hr)) (pe_fld (pv 3) rfl) (pe_slice sl_list (pv 1) po_none (po_some (pv 2))) (nomark _))))) (pss_one (ps_ret pe_bl)) pss_nil))))) pss_nil)
    (pss_cons (ps_set (i := 3) sc_lacking.nd rfl (Or.inl rfl) (pe_callH h_filled hr (by omega) rfl (pa_cons (pv 0) (pa_cons (pv 1) (pa_cons (pe_op op_add (pv 2) pe_int) (pa_cons (pv 2) pa_nil))))))
    (pss_cons (ps_set (i := 6) sc_lacking.nd rfl (Or.inl rfl) (pe_tup (pa_cons pe_str (pa_cons (pe_callH h_word hr (by omega) rfl (pa_cons (pv 0) (pa_cons pe_int pa_nil))) pa_nil))))
    (pss_cons (ps_set (i := 7) sc_lacking.nd rfl (Or.inl rfl) (pe_callH h_word hr (by omega) rfl (pa_cons (pv 0) (pa_cons pe_int pa_nil))))
    (pss_cons (ps_if (pt_not (pt_val (pe_callH h_refused hr (by omega) rfl (pa_cons (pv 3) (pa_cons (pe_tup (pa_cons pe_str (pa_cons (pe_callH h_word hr (by omega) rfl (pa_cons (pv 0) (pa_cons pe_int pa_nil))) (pa_cons (pe_tup (pa_cons (pe_tup (pa_cons pe_str (pa_cons (pv 7) pa_nil))) (pa_cons (pv 6) pa_nil))) pa_nil)))) (pa_cons (pe_disp (pps_cons (pv 7) (pe_op op_sub (pv 2) pe_int) pps_nil) rfl rfl (List.cons_ne_nil _ _) (Nat.le_of_ble_eq_true rfl)) pa_nil)))))) (pss_one (ps_ret pe_bl)) pss_nil)
    (pss_cons (ps_if (pt_cmpR (op_neD (un101 hr)) (pe_fld (pv 3) rfl) (pe_slice sl_list (pv 1) po_none (po_some (pv 2))) (nomark _)) (pss_one (ps_ret pe_bl)) pss_nil)
    (pss_one (ps_ret (pe_and (pe_cmpR op_eq (pe_mEd h_put.d cB hr (by omega) passNo (pv 3) (pa_cons (pv 6) pa_nil)) (pv 2) (nomark _)) (pe_one (pe_cmpR (op_eqD (un101 hr)) (pe_fld (pv 3) rfl) (pe_op op_cat (pe_slice sl_list (pv 1) po_none (po_some (pv 2))) (pe_lst (pa_cons (pv 6) pa_nil))) (nomark _))))))))))))), ?_⟩
  try dsimp only [cxOf]
  have hlen := Paired.length hts
  refine rd_hide fun N eN => ?_
  refine ⟨_, rfl, a, ns, 1, rfl, hS, by decide, _, rfl, R, us, rfl, .inl (SqL.of hR), _, _, rfl, rfl, (by omega), _, _, rfl, rfl, ?_⟩
  subst eN
  dsimp only [gName]
  obtain ⟨many, em, m1, m2⟩ : ∃ m : Nat, (1 : Int) + ns.getD (1 : Int).toNat 0 % (us.length : Int) = (m : Int) ∧ 1 ≤ m ∧ m ≤ rows.length := by
    have b1 := Int.emod_nonneg (ns.getD (1 : Int).toNat 0) (b := (us.length : Int)) (by omega)
    have b2 := Int.emod_lt_of_pos (ns.getD (1 : Int).toNat 0) (b := (us.length : Int)) (by omega)
    exact ⟨((1 : Int) + ns.getD (1 : Int).toNat 0 % (us.length : Int)).toNat, by omega, by omega, by omega⟩
  rw [em]
  have tl : (rows.take many).length = many := by rw [List.length_take]; omega
  refine rd_cut (LkC H a R many) ?_ (fun key => ?_)
  rotate_left
  · refine ⟨_, rfl, _, rfl, R, us, rfl, .inl (SqL.of hR), _, _, rfl, rfl, _, rfl, iteD (fun hlt => ?_) (fun _ => key _ _ (LkC.mk none none none rfl (Same.refl H)))⟩
    refine ⟨_, rfl, _, rfl, _, rfl, _, rfl, a, R, ns, us, rows, (many : Int), many, rfl, hS, hR, hts, hok, m2, h32, Int.le_refl _, fun H1 b dx L M s1 hb0 hL0 hM0 hB1 => ?_⟩
    dsimp only [gName]
    refine fun G hG => ?_
    dsimp only [gName]
    have s2 := s1.trans (same_new hG (.dK []))
    have hB2 := hB1.same (same_new hG (.dK []))
    have hG2 := upd_same (H := H1) (a := G) (o := .dK [])
    generalize upd H1 G (.dK []) = H2 at s2 hB2 hG2 ⊢
    obtain ⟨tv, htv⟩ : ∃ v, us[many]? = some v := ⟨_, List.getElem?_eq_getElem (by omega)⟩
    obtain ⟨t, ht, hT⟩ := tms_at hts htv
    refine ⟨_, rfl, _, rfl, _, rfl, _, rfl, R, us, many, tv, rfl, rfl, SqL.of (s2 _ _ hR), atI_nat htv, _, rfl, ?_⟩
    refine ⟨a, R, G, ns, us, rows, many, t, tv, rfl, s2.seq hS, s2 _ _ hR, tms_same s2 hts, hok, ht, hT.keep (fun c ys e => s2 _ _ e), hG2, fun v H3 p bf hs kvs hpo hgv hkl bt3 hG3 htr => ?_⟩
    dsimp only [gName]
    have hB3 := bank_butD hB2 bt3 hG2
    have ep := (hpo.put many (Nat.le_refl _)).trans (pat_new hok.2.2 ht)
    have hpl : (rows.take (many + 1)).length = many + 1 := by rw [List.length_take]; omega
    have s3 : Same H H3 := fun c o e => bt3 _ _ (ne_of_none (s1 _ _ e) hG) (s2 _ _ e)
    refine ⟨_, rfl, _, rfl, _, rfl, b, dx, L, M, (many : Int), rows.take many, v, .ref G, p, bf, rfl, hB3, take_nodup hok.2.2 _, htr, hpo.deep, hpo.slim, (fun x hx => ⟨G, kvs, rfl, hG3, hgv.has x (hpo.hol x hx)⟩), (by rw [ep]; show (rows.take (many + 1)).length ≤ 900; omega), (by omega), (by rw [ep]; show ¬ ((rows.take (many + 1)).length : Int) ≤ many; omega), fun H4 bt4 hB4 => ?_⟩
    have s4 : Same H H4 := fun c o e => bt4 _ _ (ne_of_none e hL0) (ne_of_none e hM0) (s3 _ _ e)
    refine ⟨_, rfl, iteF ?_⟩
    refine ⟨_, rfl, b, CB, dx, _, _, rfl, hB4.1, Z.cB, Z.nTerms, rfl, _, rfl, _, rfl, _, rfl, R, us, rfl, SqL.of (s4 _ _ hR), fun sl hsl => ?_⟩
    have s5 := same_new hsl (.lst (cutV us none (some (many : Int))))
    have hsl5 := upd_same (H := H4) (a := sl) (o := .lst (cutV us none (some (many : Int))))
    generalize upd H4 sl (.lst (cutV us none (some (many : Int)))) = H5 at s5 hsl5 ⊢
    exact ⟨_, _, .inr ⟨bank_den (hB4.same s5), slice_den (tms_same (s4.trans s5) hts) (by omega) hsl5⟩, Nat.le_trans (tms_deep _) (by decide), _, rfl, iteDN (fun z => absurd rfl z) (fun _ => key _ _ (LkC.mk _ _ _ rfl (s4.trans s5)))⟩
  rintro σ' H0 ⟨x3, x4, x5, rfl, s0⟩
  refine rd_hide fun N eN => ?_
  refine ⟨_, rfl, _, rfl, _, rfl, _, _, rfl, rfl, _, rfl, a, R, ns, us, rows, (many : Int) + 1, many, rfl, s0.seq hS, s0 _ _ hR, tms_same s0 hts, hok, m2, h32, by omega, fun H1 b dx L M s1 hb0 hL0 hM0 hB1 => ?_⟩
  subst eN
  dsimp only [gName]
  have s01 := s0.trans s1
  refine rd_hide fun N eN => ?_
  refine ⟨_, rfl, a, ns, 25, rfl, s01.seq hS, (show 2 ≤ sizeLine by decide), fun pn hpn => ?_⟩
  subst eN
  dsimp only [gName]
  have s2 := s01.trans (same_new hpn (.tup [.str "name", .str (wordF (ns.getD 0 0) 25)]))
  have hB2 := hB1.same (same_new hpn (.tup [.str "name", .str (wordF (ns.getD 0 0) 25)]))
  have hp2 := upd_same (H := H1) (a := pn) (o := .tup [.str "name", .str (wordF (ns.getD 0 0) 25)])
  have hL1 : ∀ c o, H c = some o → c ≠ L ∧ c ≠ M := fun c o e => ⟨ne_of_none (s0 _ _ e) hL0, ne_of_none (s0 _ _ e) hM0⟩
  generalize upd H1 pn (.tup [.str "name", .str (wordF (ns.getD 0 0) 25)]) = H2 at s2 hB2 hp2 ⊢
  have hnn : posF (rows.take many) (.name (wordF (ns.getD 0 0) 25)) = none := name_new fun t ht => hnm t (List.mem_of_mem_take ht)
  have hS2 := s2.seq hS
  generalize wordF (ns.getD 0 0) 25 = nm at hp2 hnn ⊢
  refine rd_hide fun N eN => ?_
  refine ⟨_, rfl, a, ns, 5, rfl, hS2, ?_⟩
  subst eN
  dsimp only [gName]
  generalize wordF (ns.getD 0 0) 5 = hole
  refine rd_hide fun N eN => ?_
  refine ⟨_, rfl, _, rfl, a, ns, 4, rfl, hS2, _, rfl, (show 2 ≤ sizeLine by decide), fun p1 hp1 => ?_⟩
  generalize wordF (ns.getD 0 0) 4 = w4
  have s3 := same_new hp1 (.tup [.str "any", .str hole])
  have hq1 := upd_same (H := H2) (a := p1) (o := .tup [.str "any", .str hole])
  generalize upd H2 p1 (.tup [.str "any", .str hole]) = H3 at s3 hq1 ⊢
  refine ⟨_, rfl, (show 2 ≤ sizeLine by decide), fun p2 hp2' => ?_⟩
  have s4 := same_new hp2' (.tup [.ref p1, .ref pn])
  have hq2 := upd_same (H := H3) (a := p2) (o := .tup [.ref p1, .ref pn])
  generalize upd H3 p2 (.tup [.ref p1, .ref pn]) = H4 at s4 hq2 ⊢
  refine ⟨(show 3 ≤ sizeLine by decide), fun p3 hp3 => ?_⟩
  have s5 := same_new hp3 (.tup [.str "of", .str w4, .ref p2])
  have hq3 := upd_same (H := H4) (a := p3) (o := .tup [.str "of", .str w4, .ref p2])
  generalize upd H4 p3 (.tup [.str "of", .str w4, .ref p2]) = H5 at s5 hq3 ⊢
  refine fun G hG => ⟨_, rfl, _, rfl, _, _, rfl, rfl, ?_⟩
  refine ⟨upd_same, [(.inr hole, .int ((many : Int) - 1))], rfl, (show 1 ≤ 15 by decide), ?_⟩
  have hval : valV (mergeK [] [((.inr hole : Key), V.int ((many : Int) - 1))]) (.inr hole) = some (nV (many - 1)) := by
    show valV (putK [] (.inr hole : Key) (V.int ((many : Int) - 1))) (.inr hole) = some (V.int ((many - 1 : Nat) : Int))
    rw [valV_put, if_pos rfl, show ((many - 1 : Nat) : Int) = (many : Int) - 1 by omega]
  generalize mergeK [] [((.inr hole : Key), V.int ((many : Int) - 1))] = kv at hval ⊢
  have s6 : Same H5 (upd (upd H5 G (.dK [])) G (.dK kv)) := fun c o e => by rw [upd_ne (ne_of_none e hG), upd_ne (ne_of_none e hG)]; exact e
  have hG6 := upd_same (H := upd H5 G (.dK [])) (a := G) (o := .dK kv)
  generalize upd (upd H5 G (.dK [])) G (.dK kv) = H6 at s6 hG6 ⊢
  have s56 := s5.trans s6
  have s46 := s4.trans s56
  have s26 := s3.trans s46
  have hB6 := hB2.same s26
  have lp := lack_put (hole := hole) (w4 := w4) tl hnn (arms_take hok.1 many)
  have ll : (rows.take many ++ [TM.name nm] ++ [TM.of w4 [many - 1, many]]).length = many + 2 := by rw [List.length_append, List.length_append, tl]; rfl
  have htr : IsTr H6 (.of w4 [.any hole, .name nm]) (.ref p3) := by
    rw [IsTr]
    refine ⟨p3, p2, _, rfl, s6 _ _ hq3, s56 _ _ hq2, ?_⟩
    rw [IsTrs]
    refine ⟨_, _, rfl, by rw [IsTr]; exact ⟨p1, rfl, s46 _ _ hq1⟩, ?_⟩
    rw [IsTrs]
    refine ⟨_, _, rfl, by rw [IsTr]; exact ⟨pn, rfl, s26 _ _ hp2⟩, ?_⟩
    rw [IsTrs]
  refine ⟨b, dx, L, M, (many : Int) + 1, rows.take many, .ref p3, .ref G, .of w4 [.any hole, .name nm], fun _ => many - 1, rfl, hB6, take_nodup hok.2.2 _, htr, (by rw [T.depth, T.deepest, T.deepest, T.deepest, T.depth, T.depth]; decide), ?_, ?_, (by rw [lp]; show (rows.take many ++ [TM.name nm] ++ [TM.of w4 [many - 1, many]]).length ≤ 900; omega), (by omega), (by rw [lp]; show ¬ ((rows.take many ++ [TM.name nm] ++ [TM.of w4 [many - 1, many]]).length : Int) ≤ (many : Int) + 1; omega), fun H7 bt7 hB7 => ?_⟩
  · rw [T.Slim]
    exact ⟨(show 2 ≤ 900 by decide), slims_all.mpr fun t ht => by rcases List.mem_cons.mp ht with rfl | ht; trivial; rw [List.mem_singleton.mp ht]; trivial⟩
  · intro x hx
    have e : x = hole := by simpa [T.hol, T.hols] using hx
    rw [e]
    exact ⟨G, kv, rfl, hG6, hval⟩
  have s7 : Same H H7 := fun c o e => bt7 _ _ (hL1 c o e).1 (hL1 c o e).2 (s26 _ _ (s2 _ _ e))
  have hp7 := hB6.tup bt7 _ _ (s26 _ _ hp2)
  subst eN
  refine ⟨_, rfl, iteF ?_⟩
  refine ⟨_, rfl, b, CB, dx, _, _, rfl, hB7.1, Z.cB, Z.nTerms, rfl, _, rfl, _, rfl, _, rfl, R, us, rfl, SqL.of (s7 _ _ hR), fun sl hsl => ?_⟩
  have s8 := same_new hsl (.lst (cutV us none (some (many : Int))))
  have hsl8 := upd_same (H := H7) (a := sl) (o := .lst (cutV us none (some (many : Int))))
  generalize upd H7 sl (.lst (cutV us none (some (many : Int)))) = H8 at s8 hsl8 ⊢
  have hB8 := hB7.same s8
  have s78 := s7.trans s8
  refine ⟨_, _, .inr ⟨bank_den hB8, slice_den (tms_same s78 hts) (by omega) hsl8⟩, Nat.le_trans (tms_deep _) (by decide), _, rfl, iteDN (fun z => absurd rfl z) (fun _ => ?_)⟩
  have ep : ptF (fun _ => 0) (rows.take many) (.name nm) = (rows.take many ++ [.name nm], many) := by rw [ptF, add_new hnn, tl]
  have el : (rows.take many ++ [TM.name nm]).length = many + 1 := by rw [List.length_append, tl]; rfl
  refine ⟨_, rfl, b, dx, _, rfl, hB8.1, rfl, _, rfl, b, dx, L, M, (many : Int) + 1, rows.take many, .ref pn, .non, .name nm, fun _ => 0, rfl, hB8, take_nodup hok.2.2 _, (by rw [IsTr]; exact ⟨pn, rfl, s8 _ _ hp7⟩), (by rw [T.depth]; decide), trivial, (fun x hx => by rw [T.hol] at hx; cases hx), (by rw [ep]; show (rows.take many ++ [TM.name nm]).length ≤ 900; omega), (by omega), fun _ H9 bt9 hB9 => ?_, fun hnf => absurd (by rw [ep]; show ((rows.take many ++ [TM.name nm]).length : Int) ≤ (many : Int) + 1; omega) hnf⟩
  rw [ep] at hB9 ⊢
  have hp9 := hB8.tup bt9 _ _ (s8 _ _ hp7)
  have s9 : Same H H9 := fun c o e => bt9 _ _ (hL1 c o e).1 (hL1 c o e).2 (s78 _ _ e)
  refine ⟨_, rfl, rfl, _, rfl, iteD (fun _ => ?_) (fun z => absurd rfl z)⟩
  refine ⟨_, rfl, b, CB, dx, _, _, rfl, hB9.1, Z.cB, Z.nTerms, rfl, _, rfl, _, rfl, _, rfl, R, us, rfl, SqL.of (s9 _ _ hR), fun sl2 hsl2 => ?_⟩
  rw [cut_take (by omega : many ≤ us.length)]
  have t1 := same_new hsl2 (.lst (us.take many))
  have hl1 := upd_same (H := H9) (a := sl2) (o := .lst (us.take many))
  generalize upd H9 sl2 (.lst (us.take many)) = G1 at t1 hl1 ⊢
  refine ⟨_, rfl, (show 1 ≤ sizeLine by decide), fun l3 hl3 => ?_⟩
  have t2 := same_new hl3 (.lst [.ref pn])
  have hl2 := upd_same (H := G1) (a := l3) (o := .lst [.ref pn])
  generalize upd G1 l3 (.lst [.ref pn]) = G2 at t2 hl2 ⊢
  refine ⟨sl2, l3, _, _, rfl, rfl, t2 _ _ hl1, hl2, (by rw [List.length_take, sizeLine_eq]; simp only [List.length_cons, List.length_nil]; omega), fun l4 hl4 => ?_⟩
  have t3 := same_new hl4 (.lst (us.take many ++ [.ref pn]))
  have hl5 := upd_same (H := G2) (a := l4) (o := .lst (us.take many ++ [.ref pn]))
  generalize upd G2 l4 (.lst (us.take many ++ [.ref pn])) = G3 at t3 hl5 ⊢
  have t := t1.trans (t2.trans t3)
  have htk : Tms G3 (us.take many ++ [.ref pn]) (rows.take many ++ [.name nm]) := tms_snoc (paired_take many (tms_same (s9.trans t) hts)) ⟨pn, rfl, t _ _ hp9⟩
  refine ⟨_, _, .inr ⟨bank_den (hB9.same t), (by rw [Den]; exact ⟨l4, _, rfl, hl5, tms_den htk⟩)⟩, Nat.le_trans (tms_deep _) (by decide), ?_⟩
  rw [decide_eq_true rfl]
  exact q _
end

end K12
namespace K12
open PySem L2 Sw
section
variable {P : Program} {w : World} {K : PySem.W.Frag} {mg : Str → Option Value} {base : Heap} {CB CF : Addr}
theorem cells1_32 (ns : List Int) : (cells1 ns).length ≤ 32 := by
  unfold cells1 cutV
  rw [List.length_take, show (some (32 : Int)) = some ((32 : Nat) : Int) from rfl, HT.sIx_nat]
  omega
inductive SpLaw (K : PySem.W.Frag) (vs : List V) (H : Hp) (Q : VK) : Prop
  | mk (a : Addr) (ns : List Int) (z0 : vs = [.ref a]) (z1 : SqL K H a (ns.map V.int)) (z2 : ns.length ≤ 63) (z3 : ∀ H', Q (.bl true) H') : SpLaw K vs H Q
noncomputable def spLaw (K : PySem.W.Frag) : Sp := fun vs H Q _ => SpLaw K vs H Q
theorem bank_dk {H H' : Hp} {b dx L M G : Addr} {room : Int} {ts : List Tm} {kvs : List (Key × V)} (h : BankAt P w CB H b dx L M room ts) (bt : But2 L M H H') (hG : H G = some (.dK kvs)) : H' G = some (.dK kvs) := by
  obtain ⟨h1, ⟨us, h2, h3⟩, kv, h4, h5, h6⟩ := h
  obtain ⟨φ, e4⟩ := h4.ext
  exact bt _ _ (ne_of hG h2 (fun z => nomatch z)) (ne_of hG e4 (fun z => nomatch z)) hG
inductive LwI (P : Program) (w : World) (CB : Addr) (H : Hp) (a R b dx L M : Addr) (rows : List Tm) (i : Nat) (σ : St) (H' : Hp) : Prop
  | mk (x3 x4 x5 x6 x7 x8 : Option V) (z0 : σ = [some (.ref a), some (.ref R), some (.ref b), x3, x4, x5, x6, x7, x8]) (z1 : Same H H') (z2 : BankAt P w CB H' b dx L M 400 (rows.take i)) : LwI P w CB H a R b dx L M rows i σ H'
theorem ok_law (B : Blt mg) (b_dict : mg "dict" = none) (Z : TopBk K mg CB CF) (h_terms : Has P w K mg base 5 "_law_terms" ["_law_script"] (spTerms K)) (h_whole : Has P w K mg base 1 "_law_whole" ["_law_found"] spWhole) (h_init : HasC P w K mg base 1 "Bank" CB ["self", "room"] (spInit P w CB)) (h_pattern : Has P w K mg base 4 "_law_pattern" ["_law_script", "_law_rows", "_law_term_here", "_law_given"] (spPat K))
    (h_put : HasM3 P w K mg base 5 CB "put" ["self", "pattern", "binds"] [.non] ["binds"] (spPutE P w CB CF 3)) (h_lacking : Has P w K mg base 7 "_law_lacking" ["_law_script", "_law_rows"] (spLacking K)) {f : Addr} {fd : FuncData} (F : Fun K "law" "law" s_law f fd) : FnOk P w K mg base CX0 8 f fd ["_law_script"] (spLaw K) := by
  have cB := Z.cB
  refine F.ok sc_law (fun vs H Q E h => ?_) (fun cdv A outer s H vs Q E hr h => ?_)
  · obtain ⟨a, ns, rfl, _⟩ := h; rfl
  obtain ⟨a, ns, rfl, hS, h63, q⟩ := h
  refine ⟨_, (pss_cons (ps_set (i := 1) sc_law.nd rfl (Or.inl rfl) (pe_callH h_terms hr (by omega) rfl (pa_cons (pv 0) pa_nil)))
    (pss_cons (ps_set (i := 2) sc_law.nd rfl (Or.inl rfl) (pe_makeE h_init hr (by omega) passNo rfl (pa_cons pe_int pa_nil)))
    (pss_cons (ps_for PassesOwn.never rfl (pi_range1 rfl B.range_ (pa_cons (pe_callB call_len_seq rfl B.len_ PySem.boot_len (pa_cons (pv 1) pa_nil)) pa_nil)) (pg_name (i := 3) sc_law.nd rfl (Or.inl rfl))
    (pss_cons (ps_set (i := 4) sc_law.nd rfl (Or.inl rfl) pe_dnewK)
    (pss_cons (ps_set (i := 5) sc_law.nd rfl (Or.inl rfl) (pe_callH h_pattern hr (by omega) rfl (pa_cons (pv 0) (pa_cons (pv 1) (pa_cons (pe_ix ix_list (pv 1) (pv 3) (fun _ _ => rfl)) (pa_cons (pv 4) pa_nil))))))
    (pss_cons (ps_set (i := 6) sc_law.nd rfl (Or.inl rfl) (pe_callTy call_dictK rfl b_dict boot_dict_ (pa_cons (pv 4) pa_nil)))
    (pss_cons (ps_set (i := 7) sc_law.nd rfl (Or.inl rfl) (pe_mE h_put.a cB hr (by omega) passNo (pv 2) (pa_cons (pv 5) (pa_cons (pv 6) pa_nil))))
    (pss_cons (ps_if (PW.pt (pw_or (pt_not (pt_val (pe_callH h_whole hr (by omega) rfl (pa_cons (pv 7) pa_nil)))) (pw_or (pt_cmpR op_ne (pv 7) (pv 3) (nomark _)) (pw_or1 (pt_cmpR (op_neK hr.units0) (pv 6) (pv 4) (nomark _)))))) (pss_one (ps_ret pe_bl)) pss_nil)
    (pss_cons (ps_if (PW.pt (pw_or (pt_not (pt_val (pe_callB call_isT rfl B.isinstance_ boot_isinstance_ (pa_cons (pe_fld (pv 2) rfl) (pa_cons (pe_bltn (v := .ty "list") rfl B.list_ boot_list_ rfl) pa_nil))))) (pw_or1 (pt_cmpR (op_neD (un101 hr)) (pe_fld (pv 2) rfl) (pe_slice sl_list (pv 1) po_none (po_some (pe_op op_add (pv 3) pe_int))) (nomark _))))) (pss_one (ps_ret pe_bl)) pss_nil)
    (pss_cons (ps_set (i := 8) sc_law.nd rfl (Or.inl rfl) (pe_mKw h_put cB hr (by omega) passNo (pv 2) (pa_cons (pv 5) pa_nil) (pk_cons (pe_callTy call_dictK rfl b_dict boot_dict_ (pa_cons (pv 4) pa_nil)) pk_nil)))
    (pss_one (ps_if (PW.pt (pw_or (pt_not (pt_val (pe_callH h_whole hr (by omega) rfl (pa_cons (pv 8) pa_nil)))) (pw_or (pt_cmpR op_ne (pv 8) (pv 3) (nomark _)) (pw_or1 (pt_cmpR (op_neD (un101 hr)) (pe_fld (pv 2) rfl) (pe_slice sl_list (pv 1) po_none (po_some (pe_op op_add (pv 3) pe_int))) (nomark _)))))) (pss_one (ps_ret pe_bl)) pss_nil))))))))))
    (pss_one (ps_ret (pe_or (pe_cmpR (op_eqNil hr.units0) (pv 1) (pe_lst pa_nil) (nomark _)) (pe_one (pe_callH h_lacking hr (by omega) rfl (pa_cons (pv 0) (pa_cons (pv 1) pa_nil)))))))))), ?_⟩
  try dsimp only [cxOf]
  refine rd_hide fun N eN => ?_
  refine ⟨_, rfl, a, ns, rfl, hS, h63, fun R us H1 s1 hR0 hR hts => ?_⟩
  subst eN
  dsimp only [gName]
  have hS1 := s1.seq hS
  have hok := tsok (ns.getD 0 0) (cells1 ns)
  have hnm := terms_N (ns.getD 0 0) (cells1 ns)
  have h32 := Nat.le_trans (termsF_len (ns.getD 0 0) (cells1 ns)) (cells1_32 ns)
  generalize termsF (ns.getD 0 0) (cells1 ns) = rows at hts hok hnm h32
  have hlen := Paired.length hts
  refine rd_hide fun N eN => ?_
  refine fun b dx hb0 hdx0 hne => ⟨b, dx, 400, rfl, upd_same, fun H2 L M bt hL hM hB => ⟨rfl, ?_⟩⟩
  subst eN
  dsimp only [gName]
  have nn : ∀ c o, H1 c = some o → c ≠ b ∧ c ≠ dx := fun c o e => ⟨ne_of_none e hb0, ne_of_none e hdx0⟩
  have up : ∀ c o, H1 c = some o → (upd (upd H1 dx (.own b)) b (.ins CB dx [])) c = some o := fun c o e => by rw [upd_ne (nn c o e).1, upd_ne (nn c o e).2]; exact e
  have s2 : Same H1 H2 := fun c o e => bt c o (nn c o e).1 (up c o e)
  have fr : ∀ c, (upd (upd H1 dx (.own b)) b (.ins CB dx [])) c = none → H1 c = none := fun c hc => by
    cases e : H1 c with
    | none => rfl
    | some o => have := up _ _ e; rw [hc] at this; cases this
  have hL0 := fr L hL
  have hM0 := fr M hM
  clear up nn bt hL hM fr
  refine rd_hide fun N eN => ?_
  refine ⟨_, rfl, R, us, rfl, .inl (SqL.of (s2 _ _ hR)), _, rfl, by omega, by omega, ?_⟩
  refine for_range (lo := 0) (LwI P w CB H1 a R b dx L M rows) (LwI.mk none none none none none none rfl s2 (by rw [List.take_zero]; exact hB)) ?_ ?_
  · rintro i σ H3 hi ⟨x3, x4, x5, x6, x7, x8, rfl, s3, hB3⟩
    have ei : (0 : Int) + (i : Int) = ((i : Nat) : Int) := by omega
    rw [ei]
    dsimp only [gName]
    have hi' : i < us.length := by omega
    obtain ⟨tv, htv⟩ : ∃ v, us[i]? = some v := ⟨_, List.getElem?_eq_getElem (by omega)⟩
    obtain ⟨t, ht, hT⟩ := tms_at hts htv
    refine rd_hide fun N2 eN2 => ?_
    refine fun G hG => ?_
    subst eN2
    dsimp only [gName]
    have s4 := s3.trans (same_new hG (.dK []))
    have hB4 := hB3.same (same_new hG (.dK []))
    have hG4 := upd_same (H := H3) (a := G) (o := .dK [])
    generalize upd H3 G (.dK []) = H4 at s4 hB4 hG4 ⊢
    refine rd_hide fun N2 eN2 => ?_
    refine ⟨_, rfl, _, rfl, _, rfl, _, rfl, R, us, i, tv, rfl, rfl, SqL.of (s4 _ _ hR), atI_nat htv, _, rfl, ?_⟩
    refine ⟨a, R, G, ns, us, rows, i, t, tv, rfl, s4.seq hS1, s4 _ _ hR, tms_same s4 hts, hok, ht, hT.keep (fun c ys e => s4 _ _ e), hG4, fun v H5 p bf hs kvs hpo hgv hkl bt5 hG5 htr => ?_⟩
    subst eN2
    dsimp only [gName]
    have hB5 := bank_butD hB4 bt5 hG4
    have s5 : Same H1 H5 := fun c o e => bt5 _ _ (ne_of_none (s3 _ _ e) hG) (s4 _ _ e)
    have ep := (hpo.put i (Nat.le_refl _)).trans (pat_new hok.2.2 ht)
    have ep2 := (hpo.put (i + 1) (by omega)).trans (add_here hok.2.2 ht (Nat.lt_succ_self i))
    have hdp := hpo.deep
    have hpl : (rows.take (i + 1)).length = i + 1 := by rw [List.length_take]; omega
    have hpi : (rows.take i).length = i := by rw [List.length_take]; omega
    clear s4 hB4 hG4
    -- handed
    refine rd_hide fun N2 eN2 => ?_
    refine ⟨_, rfl, G, kvs, rfl, hG5, fun G2 hG2 => ?_⟩
    subst eN2
    dsimp only [gName]
    have s6' := same_new hG2 (.dK kvs)
    have hG6 := upd_same (H := H5) (a := G2) (o := .dK kvs)
    generalize upd H5 G2 (.dK kvs) = H6 at s6' hG6 ⊢
    have s6 := s5.trans s6'
    have hB6 := hB5.same s6'
    have hg6 := s6' _ _ hG5
    have ht6 := tr_keep (fun c ys e => s6' _ _ e) htr
    clear hB5 s5 hG5 htr
    -- put
    refine rd_hide fun N2 eN2 => ?_
    refine ⟨_, rfl, b, dx, _, rfl, hB6.1, rfl, _, rfl, _, rfl, b, dx, L, M, 400, rows.take i, v, .ref G2, p, bf, rfl, hB6, take_nodup hok.2.2 _, ht6, hdp, hpo.slim, (fun x hx => ⟨G2, kvs, rfl, hG6, hgv.has x (hpo.hol x hx)⟩), (by rw [ep]; show (rows.take (i + 1)).length ≤ 900; omega), (by omega), fun _ H7 bt7 hB7 => ?_, fun hnf => absurd (by rw [ep]; show ((rows.take (i + 1)).length : Int) ≤ 400; omega) hnf⟩
    subst eN2
    rw [ep] at hB7 ⊢
    dsimp only [gName]
    have s7 : Same H1 H7 := fun c o e => bt7 _ _ (ne_of_none e hL0) (ne_of_none e hM0) (s6 _ _ e)
    have hg7 := bank_dk hB6 bt7 hg6
    have hG7 := bank_dk hB6 bt7 hG6
    have ht7 := tr_keep (hB6.tup bt7) ht6
    clear hB6 s6 hg6 hG6 ht6 ep bt7 bt5
    refine rd_hide fun N2 eN2 => ?_
    refine ⟨_, rfl, _, rfl, _, rfl, iteF ?_⟩
    refine ⟨_, rfl, _, rfl, rfl, _, rfl, iteDN (fun z => absurd rfl z) (fun _ => ?_)⟩
    refine ⟨_, rfl, _, rfl, G2, G, kvs, rfl, rfl, hG7, hg7, hgv.nums, _, rfl, iteF ?_⟩
    subst eN2
    obtain ⟨lus, hL7, _⟩ := id hB7.2.1
    refine ⟨_, rfl, b, CB, dx, _, _, rfl, hB7.1, Z.cB, Z.nTerms, rfl, _, _, _, true, rfl, .lst hL7, kit_ll, _, rfl, iteF ?_⟩
    refine ⟨_, rfl, b, CB, dx, _, _, rfl, hB7.1, Z.cB, Z.nTerms, rfl, _, rfl, _, rfl, _, _, rfl, rfl, _, rfl, R, us, rfl, SqL.of (s7 _ _ hR), fun sl hsl => ?_⟩
    have e1 : ((i : Nat) : Int) + 1 = ((i + 1 : Nat) : Int) := by push_cast; rfl
    have s8' := same_new hsl (.lst (cutV us none (some (((i : Nat) : Int) + 1))))
    have hsl8 := upd_same (H := H7) (a := sl) (o := .lst (cutV us none (some (((i : Nat) : Int) + 1))))
    generalize upd H7 sl (.lst (cutV us none (some (((i : Nat) : Int) + 1)))) = H8 at s8' hsl8 ⊢
    rw [e1] at hsl8
    have s8 := s7.trans s8'
    have hB8 := hB7.same s8'
    have hg8 := s8' _ _ hg7
    have ht8 := tr_keep (fun c ys e => s8' _ _ e) ht7
    refine ⟨_, _, .inr ⟨bank_den hB8, slice_den (tms_same s8 hts) (by omega) hsl8⟩, Nat.le_trans (tms_deep _) (by decide), _, rfl, iteDN (fun z => absurd rfl z) (fun _ => ?_)⟩
    clear hB7 s7 hg7 hG7 ht7 hL7
    -- again
    refine ⟨_, rfl, b, dx, _, rfl, hB8.1, rfl, _, rfl, _, rfl, G, kvs, rfl, hg8, fun G3 hG3 => ?_⟩
    have s9' := same_new hG3 (.dK kvs)
    have hG9 := upd_same (H := H8) (a := G3) (o := .dK kvs)
    generalize upd H8 G3 (.dK kvs) = H9 at s9' hG9 ⊢
    have s9 := s8.trans s9'
    have hB9 := hB8.same s9'
    have ht9 := tr_keep (fun c ys e => s9' _ _ e) ht8
    refine ⟨_, _, rfl, rfl, b, dx, L, M, 400, rows.take (i + 1), v, .ref G3, p, bf, rfl, hB9, take_nodup hok.2.2 _, ht9, hdp, hpo.slim, (fun x hx => ⟨G3, kvs, rfl, hG9, hgv.has x (hpo.hol x hx)⟩), (by rw [ep2]; show (rows.take (i + 1)).length ≤ 900; omega), (by omega), fun _ H10 bt10 hB10 => ?_, fun hnf => absurd (by rw [ep2]; show ((rows.take (i + 1)).length : Int) ≤ 400; omega) hnf⟩
    rw [ep2] at hB10 ⊢
    dsimp only [gName]
    have s10 : Same H1 H10 := fun c o e => bt10 _ _ (ne_of_none e hL0) (ne_of_none e hM0) (s9 _ _ e)
    refine ⟨_, rfl, _, rfl, _, rfl, iteF ?_⟩
    refine ⟨_, rfl, _, rfl, rfl, _, rfl, iteDN (fun z => absurd rfl z) (fun _ => ?_)⟩
    refine ⟨_, rfl, b, CB, dx, _, _, rfl, hB10.1, Z.cB, Z.nTerms, rfl, _, rfl, _, rfl, _, _, rfl, rfl, _, rfl, R, us, rfl, SqL.of (s10 _ _ hR), fun sl2 hsl2 => ?_⟩
    have sA' := same_new hsl2 (.lst (cutV us none (some (((i : Nat) : Int) + 1))))
    have hslA := upd_same (H := H10) (a := sl2) (o := .lst (cutV us none (some (((i : Nat) : Int) + 1))))
    generalize upd H10 sl2 (.lst (cutV us none (some (((i : Nat) : Int) + 1)))) = HA at sA' hslA ⊢
    rw [e1] at hslA
    have sA := s10.trans sA'
    have hBA := hB10.same sA'
    exact ⟨_, _, .inr ⟨bank_den hBA, slice_den (tms_same sA hts) (by omega) hslA⟩, Nat.le_trans (tms_deep _) (by decide), _, rfl, iteDN (fun z => absurd rfl z) (fun _ => LwI.mk _ _ _ _ _ _ rfl sA hBA)⟩
  · rintro σ H3 ⟨x3, x4, x5, x6, x7, x8, rfl, s3, hB3⟩
    subst eN
    refine ⟨_, rfl, Nat.zero_le _, fun l hl => ?_⟩
    have s4' := same_new hl (.lst [])
    have hl4 := upd_same (H := H3) (a := l) (o := .lst [])
    generalize upd H3 l (.lst []) = H4 at s4' hl4 ⊢
    have s4 := s3.trans s4'
    refine ⟨R, l, us, rfl, rfl, s4 _ _ hR, hl4, _, rfl, ?_⟩
    by_cases e : us.isEmpty = true
    · rw [if_pos e]; exact q _
    · rw [if_neg e]
      have hne : us ≠ [] := fun z => e (by rw [z]; rfl)
      have hpos := List.length_pos_iff.mpr hne
      exact ⟨_, rfl, _, rfl, a, R, ns, us, rows, rfl, s4.seq hS1, s4 _ _ hR, tms_same s4 hts, hok, by omega, h32, hnm, q⟩
end

end K12
namespace K12
open PySem L2
theorem len_s {n : Nat} {us : List Value} (h : us.length = n + 1) : ∃ v vs, us = v :: vs ∧ vs.length = n := by cases us with | nil => cases h | cons v vs => exact ⟨v, vs, rfl, Nat.succ.inj h⟩
theorem len1_ {fd : FuncData} {ps : List Str} (h : ∀ v0 : Value, bindArgs fd ⟨[v0], []⟩ = pure (ps.zip [v0])) : ∀ us : List Value, us.length = 1 → bindArgs fd ⟨us, []⟩ = pure (ps.zip us) := fun us h0 => by obtain ⟨v0, us, rfl, h1⟩ := len_s h0; obtain rfl := List.eq_nil_of_length_eq_zero h1; exact h v0
open PySem L2 Sw
theorem len2_ {fd : FuncData} {ps : List Str} (h : ∀ v0 v1 : Value, bindArgs fd ⟨[v0, v1], []⟩ = pure (ps.zip [v0, v1])) : ∀ us : List Value, us.length = 2 → bindArgs fd ⟨us, []⟩ = pure (ps.zip us) := fun us h0 => by obtain ⟨v0, us, rfl, h1⟩ := len_s h0; obtain ⟨v1, us, rfl, h2⟩ := len_s h1; obtain rfl := List.eq_nil_of_length_eq_zero h2; exact h v0 v1
open PySem L2 Sw
theorem len3_ {fd : FuncData} {ps : List Str} (h : ∀ v0 v1 v2 : Value, bindArgs fd ⟨[v0, v1, v2], []⟩ = pure (ps.zip [v0, v1, v2])) : ∀ us : List Value, us.length = 3 → bindArgs fd ⟨us, []⟩ = pure (ps.zip us) := fun us h0 => by obtain ⟨v0, us, rfl, h1⟩ := len_s h0; obtain ⟨v1, us, rfl, h2⟩ := len_s h1; obtain ⟨v2, us, rfl, h3⟩ := len_s h2; obtain rfl := List.eq_nil_of_length_eq_zero h3; exact h v0 v1 v2
open PySem L2 Sw
theorem len4_ {fd : FuncData} {ps : List Str} (h : ∀ v0 v1 v2 v3 : Value, bindArgs fd ⟨[v0, v1, v2, v3], []⟩ = pure (ps.zip [v0, v1, v2, v3])) : ∀ us : List Value, us.length = 4 → bindArgs fd ⟨us, []⟩ = pure (ps.zip us) := fun us h0 => by obtain ⟨v0, us, rfl, h1⟩ := len_s h0; obtain ⟨v1, us, rfl, h2⟩ := len_s h1; obtain ⟨v2, us, rfl, h3⟩ := len_s h2; obtain ⟨v3, us, rfl, h4⟩ := len_s h3; obtain rfl := List.eq_nil_of_length_eq_zero h4; exact h v0 v1 v2 v3
open PySem L2 Sw
theorem len6_ {fd : FuncData} {ps : List Str} (h : ∀ v0 v1 v2 v3 v4 v5 : Value, bindArgs fd ⟨[v0, v1, v2, v3, v4, v5], []⟩ = pure (ps.zip [v0, v1, v2, v3, v4, v5])) : ∀ us : List Value, us.length = 6 → bindArgs fd ⟨us, []⟩ = pure (ps.zip us) := fun us h0 => by obtain ⟨v0, us, rfl, h1⟩ := len_s h0; obtain ⟨v1, us, rfl, h2⟩ := len_s h1; obtain ⟨v2, us, rfl, h3⟩ := len_s h2; obtain ⟨v3, us, rfl, h4⟩ := len_s h3; obtain ⟨v4, us, rfl, h5⟩ := len_s h4; obtain ⟨v5, us, rfl, h6⟩ := len_s h5; obtain rfl := List.eq_nil_of_length_eq_zero h6; exact h v0 v1 v2 v3 v4 v5
open PySem L2 Sw
theorem all_mk {l : PySem.W.OpenLaw} {w : World} {K : PySem.W.Frag} {h : Heap} {mg : Str → Option Value} {fa CB f0 f1 f2 f3 f4 f5 f6 f7 f8 f9 f10 f11 f12 f13 f14 f15 f16 f17 c_Full c_SameError : Addr} (X : K.In h) (G : h.Ns mainGlobals mg) (hfa : mg "law" = some (.ref fa))
    {od0 an0 od1 an1 od2 an2 od3 an3 od4 an4 od5 an5 od6 an6 od7 an7 od8 an8 od9 an9 od10 an10 od11 an11 od12 an12 od13 an13 od14 an14 od15 an15 od16 an16 od17 an17 : Option Addr} {sl0 sl1 sl2 sl3 sl4 sl5 sl6 sl7 sl8 sl9 sl10 sl11 sl12 sl13 sl14 sl15 sl16 sl17 : Array (Option Value)} {oc0 kV0 dc0 pm0 cd0 ct0 oc1 kV1 dc1 pm1 cd1 ct1 oc2 kV2 dc2 pm2 cd2 ct2 oc3 kV3 dc3 pm3 cd3 ct3 oc4 kV4 dc4 pm4 cd4 ct4 oc5 kV5 dc5 pm5 cd5 ct5 oc6 kV6 dc6 pm6 cd6 ct6 oc7 kV7 dc7 pm7 cd7 ct7 oc8 kV8 dc8 pm8 cd8 ct8 oc9 kV9 dc9 pm9 cd9 ct9 oc10 kV10 dc10 pm10 cd10 ct10 oc11 kV11 dc11 pm11 cd11 ct11 oc12 kV12 dc12 pm12 cd12 ct12 oc13 kV13 dc13 pm13 cd13 ct13 oc14 kV14 dc14 pm14 cd14 ct14 oc15 kV15 dc15 pm15 cd15 ct15 oc16 kV16 dc16 pm16 cd16 ct16 oc17 kV17 dc17 pm17 cd17 ct17 : Value}
    {td1 : Addr} {tc1 : Value} {tt1 : Option Addr} {tn1 : Nat} {ts1 : Array (Option Value)}
    (aC : PySem.W.nsIn K mainGlobals "Bank" = some (some (.ref CB)))
    (a0 : PySem.W.findIn K (.ref CB) "__init__" = some (some (.ref f0)))
    (l0 : K.lookup f0 = some ⟨oc0, od0, .func (PySem.W.fnOf "__init__" "Bank.__init__" (defArgs s_init) (defBody s_init) (defScope s_init) .none kV0 dc0 pm0 an0 cd0 ct0), sl0⟩)
    (c0 : PySem.W.codeIn K cd0 "Bank.__init__" = true)
    (k0 : PySem.W.keepIn K (.ref f0) = true)
    (n0 : PySem.W.isFn K (.ref f0) = true)
    (a1 : PySem.W.findIn K (.ref CB) "put" = some (some (.ref f1)))
    (l1 : K.lookup f1 = some ⟨oc1, od1, .func (PySem.W.fnOf "put" "Bank.put" (defArgs s_put) (defBody s_put) (defScope s_put) (.ref td1) kV1 dc1 pm1 an1 cd1 ct1), sl1⟩)
    (t1 : K.lookup td1 = some ⟨tc1, tt1, .seq #[.none] tn1, ts1⟩)
    (c1 : PySem.W.codeIn K cd1 "Bank.put" = true)
    (k1 : PySem.W.keepIn K (.ref f1) = true)
    (n1 : PySem.W.isFn K (.ref f1) = true)
    (a2 : PySem.W.findIn K (.ref CB) "put_part" = some (some (.ref f2)))
    (l2 : K.lookup f2 = some ⟨oc2, od2, .func (PySem.W.fnOf "put_part" "Bank.put_part" (defArgs s_put_part) (defBody s_put_part) (defScope s_put_part) .none kV2 dc2 pm2 an2 cd2 ct2), sl2⟩)
    (c2 : PySem.W.codeIn K cd2 "Bank.put_part" = true)
    (k2 : PySem.W.keepIn K (.ref f2) = true)
    (n2 : PySem.W.isFn K (.ref f2) = true)
    (a3 : PySem.W.findIn K (.ref CB) "put_term" = some (some (.ref f3)))
    (l3 : K.lookup f3 = some ⟨oc3, od3, .func (PySem.W.fnOf "put_term" "Bank.put_term" (defArgs s_put_term) (defBody s_put_term) (defScope s_put_term) .none kV3 dc3 pm3 an3 cd3 ct3), sl3⟩)
    (c3 : PySem.W.codeIn K cd3 "Bank.put_term" = true)
    (k3 : PySem.W.keepIn K (.ref f3) = true)
    (n3 : PySem.W.isFn K (.ref f3) = true)
    (a4 : PySem.W.findIn K (.ref CB) "cut" = some (some (.ref f4)))
    (l4 : K.lookup f4 = some ⟨oc4, od4, .func (PySem.W.fnOf "cut" "Bank.cut" (defArgs s_cut) (defBody s_cut) (defScope s_cut) .none kV4 dc4 pm4 an4 cd4 ct4), sl4⟩)
    (c4 : PySem.W.codeIn K cd4 "Bank.cut" = true)
    (k4 : PySem.W.keepIn K (.ref f4) = true)
    (n4 : PySem.W.isFn K (.ref f4) = true)
    (a5 : PySem.W.nsIn K mainGlobals "_law_at" = some (some (.ref f5)))
    (l5 : K.lookup f5 = some ⟨oc5, od5, .func (PySem.W.fnOf "_law_at" "_law_at" (defArgs s_at) (defBody s_at) (defScope s_at) .none kV5 dc5 pm5 an5 cd5 ct5), sl5⟩)
    (c5 : PySem.W.codeIn K cd5 "_law_at" = true)
    (k5 : PySem.W.keepIn K (.ref f5) = true)
    (a6 : PySem.W.nsIn K mainGlobals "_law_draw" = some (some (.ref f6)))
    (l6 : K.lookup f6 = some ⟨oc6, od6, .func (PySem.W.fnOf "_law_draw" "_law_draw" (defArgs s_draw) (defBody s_draw) (defScope s_draw) .none kV6 dc6 pm6 an6 cd6 ct6), sl6⟩)
    (c6 : PySem.W.codeIn K cd6 "_law_draw" = true)
    (k6 : PySem.W.keepIn K (.ref f6) = true)
    (a7 : PySem.W.nsIn K mainGlobals "_law_word" = some (some (.ref f7)))
    (l7 : K.lookup f7 = some ⟨oc7, od7, .func (PySem.W.fnOf "_law_word" "_law_word" (defArgs s_word) (defBody s_word) (defScope s_word) .none kV7 dc7 pm7 an7 cd7 ct7), sl7⟩)
    (c7 : PySem.W.codeIn K cd7 "_law_word" = true)
    (k7 : PySem.W.keepIn K (.ref f7) = true)
    (a8 : PySem.W.nsIn K mainGlobals "_law_leaf" = some (some (.ref f8)))
    (l8 : K.lookup f8 = some ⟨oc8, od8, .func (PySem.W.fnOf "_law_leaf" "_law_leaf" (defArgs s_leaf) (defBody s_leaf) (defScope s_leaf) .none kV8 dc8 pm8 an8 cd8 ct8), sl8⟩)
    (c8 : PySem.W.codeIn K cd8 "_law_leaf" = true)
    (k8 : PySem.W.keepIn K (.ref f8) = true)
    (a9 : PySem.W.nsIn K mainGlobals "_law_term" = some (some (.ref f9)))
    (l9 : K.lookup f9 = some ⟨oc9, od9, .func (PySem.W.fnOf "_law_term" "_law_term" (defArgs s_term) (defBody s_term) (defScope s_term) .none kV9 dc9 pm9 an9 cd9 ct9), sl9⟩)
    (c9 : PySem.W.codeIn K cd9 "_law_term" = true)
    (k9 : PySem.W.keepIn K (.ref f9) = true)
    (a10 : PySem.W.nsIn K mainGlobals "_law_terms" = some (some (.ref f10)))
    (l10 : K.lookup f10 = some ⟨oc10, od10, .func (PySem.W.fnOf "_law_terms" "_law_terms" (defArgs s_terms) (defBody s_terms) (defScope s_terms) .none kV10 dc10 pm10 an10 cd10 ct10), sl10⟩)
    (c10 : PySem.W.codeIn K cd10 "_law_terms" = true)
    (k10 : PySem.W.keepIn K (.ref f10) = true)
    (a11 : PySem.W.nsIn K mainGlobals "_law_whole" = some (some (.ref f11)))
    (l11 : K.lookup f11 = some ⟨oc11, od11, .func (PySem.W.fnOf "_law_whole" "_law_whole" (defArgs s_whole) (defBody s_whole) (defScope s_whole) .none kV11 dc11 pm11 an11 cd11 ct11), sl11⟩)
    (c11 : PySem.W.codeIn K cd11 "_law_whole" = true)
    (k11 : PySem.W.keepIn K (.ref f11) = true)
    (a12 : PySem.W.nsIn K mainGlobals "_law_arm" = some (some (.ref f12)))
    (l12 : K.lookup f12 = some ⟨oc12, od12, .func (PySem.W.fnOf "_law_arm" "_law_arm" (defArgs s_arm) (defBody s_arm) (defScope s_arm) .none kV12 dc12 pm12 an12 cd12 ct12), sl12⟩)
    (c12 : PySem.W.codeIn K cd12 "_law_arm" = true)
    (k12 : PySem.W.keepIn K (.ref f12) = true)
    (a13 : PySem.W.nsIn K mainGlobals "_law_pattern" = some (some (.ref f13)))
    (l13 : K.lookup f13 = some ⟨oc13, od13, .func (PySem.W.fnOf "_law_pattern" "_law_pattern" (defArgs s_pattern) (defBody s_pattern) (defScope s_pattern) .none kV13 dc13 pm13 an13 cd13 ct13), sl13⟩)
    (c13 : PySem.W.codeIn K cd13 "_law_pattern" = true)
    (k13 : PySem.W.keepIn K (.ref f13) = true)
    (a14 : PySem.W.nsIn K mainGlobals "_law_filled" = some (some (.ref f14)))
    (l14 : K.lookup f14 = some ⟨oc14, od14, .func (PySem.W.fnOf "_law_filled" "_law_filled" (defArgs s_filled) (defBody s_filled) (defScope s_filled) .none kV14 dc14 pm14 an14 cd14 ct14), sl14⟩)
    (c14 : PySem.W.codeIn K cd14 "_law_filled" = true)
    (k14 : PySem.W.keepIn K (.ref f14) = true)
    (a15 : PySem.W.nsIn K mainGlobals "_law_refused" = some (some (.ref f15)))
    (l15 : K.lookup f15 = some ⟨oc15, od15, .func (PySem.W.fnOf "_law_refused" "_law_refused" (defArgs s_refused) (defBody s_refused) (defScope s_refused) .none kV15 dc15 pm15 an15 cd15 ct15), sl15⟩)
    (c15 : PySem.W.codeIn K cd15 "_law_refused" = true)
    (k15 : PySem.W.keepIn K (.ref f15) = true)
    (a16 : PySem.W.nsIn K mainGlobals "_law_lacking" = some (some (.ref f16)))
    (l16 : K.lookup f16 = some ⟨oc16, od16, .func (PySem.W.fnOf "_law_lacking" "_law_lacking" (defArgs s_lacking) (defBody s_lacking) (defScope s_lacking) .none kV16 dc16 pm16 an16 cd16 ct16), sl16⟩)
    (c16 : PySem.W.codeIn K cd16 "_law_lacking" = true)
    (k16 : PySem.W.keepIn K (.ref f16) = true)
    (a17 : PySem.W.nsIn K mainGlobals "law" = some (some (.ref f17)))
    (l17 : K.lookup f17 = some ⟨oc17, od17, .func (PySem.W.fnOf "law" "law" (defArgs s_law) (defBody s_law) (defScope s_law) .none kV17 dc17 pm17 an17 cd17 ct17), sl17⟩)
    (c17 : PySem.W.codeIn K cd17 "law" = true)
    (k17 : PySem.W.keepIn K (.ref f17) = true)
    (rMk : PySem.W.makesIn K CB = true)
    (rKp : PySem.W.keepIn K (.ref CB) = true)
    (rPg : PySem.W.plainGet K CB Str.empty = true)
    (rHd : PySem.W.hasDictIn K CB = true)
    (rPo : PySem.W.plainOver K CB = true)
    (rSa : PySem.W.findIn K (.ref CB) "__setattr__" = some (some (.builtin "object.__setattr__")))
    (rN_room : PySem.W.findIn K (.ref CB) "room" = some none)
    (rN_terms : PySem.W.findIn K (.ref CB) "terms" = some none)
    (rN_places : PySem.W.findIn K (.ref CB) "places" = some none)
    (x_Full : PySem.W.nsIn K mainGlobals "Full" = some (some (.ref c_Full)))
    (x_SameError : PySem.W.nsIn K mainGlobals "SameError" = some (some (.ref c_SameError)))
    (xEx : PySem.W.excIn K c_Full [.type "ValueError", .type "Exception", .type "BaseException", .type "object"] "ValueError.__new__" = true)
    (m_Full : PySem.W.exmOne K (.ref c_Full) (.ref c_Full) = some true)
    (z0 : PySem.W.nsIn K mainGlobals "len" = some none)
    (z1 : PySem.W.nsIn K mainGlobals "min" = some none)
    (z2 : PySem.W.nsIn K mainGlobals "max" = some none)
    (z3 : PySem.W.nsIn K mainGlobals "sum" = some none)
    (z4 : PySem.W.nsIn K mainGlobals "range" = some none)
    (z5 : PySem.W.nsIn K mainGlobals "enumerate" = some none)
    (z6 : PySem.W.nsIn K mainGlobals "isinstance" = some none)
    (z7 : PySem.W.nsIn K mainGlobals "tuple" = some none)
    (z8 : PySem.W.nsIn K mainGlobals "int" = some none)
    (z9 : PySem.W.nsIn K mainGlobals "bool" = some none)
    (z10 : PySem.W.nsIn K mainGlobals "str" = some none)
    (z11 : PySem.W.nsIn K mainGlobals "list" = some none)
    (z12 : PySem.W.nsIn K mainGlobals "dict" = some none) :
    ∃ fd : FuncData, (∀ (s : Shared) (v : Value), BindsTo s fd ⟨[v], []⟩ [("_law_script", v)]) ∧ ∀ base : Heap, K.In base → base.Ns mainGlobals mg → FnOk l.prog w K mg base CX0 8 fa fd ["_law_script"] (spLaw K) := by
  have e := hfa.symm.trans (PySem.W.mg_of X G a17)
  cases e
  have B : Blt mg := ⟨PySem.W.mg_none_of X G z0, PySem.W.mg_none_of X G z1, PySem.W.mg_none_of X G z2, PySem.W.mg_none_of X G z3, PySem.W.mg_none_of X G z4, PySem.W.mg_none_of X G z5, PySem.W.mg_none_of X G z6, PySem.W.mg_none_of X G z7, PySem.W.mg_none_of X G z8, PySem.W.mg_none_of X G z9, PySem.W.mg_none_of X G z10, PySem.W.mg_none_of X G z11⟩
  have b_dict := PySem.W.mg_none_of X G z12
  have oFull : Exc K mg "Full" c_Full := ⟨PySem.W.mg_of X G x_Full, xEx⟩
  have Z : TopBk K mg CB c_Full := ⟨⟨rPg, rHd, rPo, rSa⟩, rN_room, rN_terms, rN_places, oFull⟩
  have F_init := fun_mk (st := s_init) l0 c0 k0
  have D_init : DefC K mg "Bank" CB "Bank.__init__" s_init ["self", "room"] := ⟨_, _, F_init, PySem.W.mg_of X G aC, ⟨rMk, a0, n0, rKp⟩, F_init.binds fun _ _ _ _ _ _ us hl => len2_ (fun _ _ => rfl) us hl⟩
  have D_put : DefM3 K CB "put" "Bank.put" s_put ["self", "pattern", "binds"] [.non] ["binds"] := by
    refine ⟨f1, _, [.none], ⟨⟨_, _, _, _, _, _, _, _, _, _, rfl, l1, c1⟩⟩, ⟨a1, n1, k1⟩, ?_, .cons rfl .nil, ?_, ?_⟩
    · intro s us KX hl
      have hl2 : us.length = 2 := by simpa using hl
      match us, hl2 with
      | [u0, u1], _ => exact PySem.W.binds_K KX rfl t1 rfl rfl rfl
    · intro s us KX hl
      have hl2 : us.length = 3 := by simpa using hl
      match us, hl2 with
      | [u0, u1, u2], _ => exact PySem.W.binds_K KX rfl t1 rfl rfl rfl
    · refine ⟨fun s us ws KX hz => ?_, g21_rel⟩
      obtain ⟨a, b, c, rfl, rfl⟩ := g21_len hz
      exact PySem.W.binds_K KX rfl t1 rfl rfl rfl
  have F_put_part := fun_mk (st := s_put_part) l2 c2 k2
  have D_put_part : DefM K CB "put_part" "Bank.put_part" s_put_part ["self", "pattern", "binds"] := ⟨_, _, F_put_part, ⟨a2, n2, k2⟩, F_put_part.binds fun _ _ _ _ _ _ us hl => len3_ (fun _ _ _ => rfl) us hl⟩
  have F_put_term := fun_mk (st := s_put_term) l3 c3 k3
  have D_put_term : DefM K CB "put_term" "Bank.put_term" s_put_term ["self", "term"] := ⟨_, _, F_put_term, ⟨a3, n3, k3⟩, F_put_term.binds fun _ _ _ _ _ _ us hl => len2_ (fun _ _ => rfl) us hl⟩
  have F_cut := fun_mk (st := s_cut) l4 c4 k4
  have D_cut : DefM K CB "cut" "Bank.cut" s_cut ["self", "many"] := ⟨_, _, F_cut, ⟨a4, n4, k4⟩, F_cut.binds fun _ _ _ _ _ _ us hl => len2_ (fun _ _ => rfl) us hl⟩
  have F_at := fun_mk (st := s_at) l5 c5 k5
  have D_at : Def K mg "_law_at" s_at ["_law_script", "_law_k"] := ⟨_, _, F_at, PySem.W.mg_of X G a5, F_at.binds fun _ _ _ _ _ _ us hl => len2_ (fun _ _ => rfl) us hl⟩
  have F_draw := fun_mk (st := s_draw) l6 c6 k6
  have D_draw : Def K mg "_law_draw" s_draw ["_law_cell", "_law_factor", "_law_many"] := ⟨_, _, F_draw, PySem.W.mg_of X G a6, F_draw.binds fun _ _ _ _ _ _ us hl => len3_ (fun _ _ _ => rfl) us hl⟩
  have F_word := fun_mk (st := s_word) l7 c7 k7
  have D_word : Def K mg "_law_word" s_word ["_law_script", "_law_which"] := ⟨_, _, F_word, PySem.W.mg_of X G a7, F_word.binds fun _ _ _ _ _ _ us hl => len2_ (fun _ _ => rfl) us hl⟩
  have F_leaf := fun_mk (st := s_leaf) l8 c8 k8
  have D_leaf : Def K mg "_law_leaf" s_leaf ["_law_script", "_law_cell"] := ⟨_, _, F_leaf, PySem.W.mg_of X G a8, F_leaf.binds fun _ _ _ _ _ _ us hl => len2_ (fun _ _ => rfl) us hl⟩
  have F_term := fun_mk (st := s_term) l9 c9 k9
  have D_term : Def K mg "_law_term" s_term ["_law_script", "_law_cell", "_law_many"] := ⟨_, _, F_term, PySem.W.mg_of X G a9, F_term.binds fun _ _ _ _ _ _ us hl => len3_ (fun _ _ _ => rfl) us hl⟩
  have F_terms := fun_mk (st := s_terms) l10 c10 k10
  have D_terms : Def K mg "_law_terms" s_terms ["_law_script"] := ⟨_, _, F_terms, PySem.W.mg_of X G a10, F_terms.binds fun _ _ _ _ _ _ us hl => len1_ (fun _ => rfl) us hl⟩
  have F_whole := fun_mk (st := s_whole) l11 c11 k11
  have D_whole : Def K mg "_law_whole" s_whole ["_law_found"] := ⟨_, _, F_whole, PySem.W.mg_of X G a11, F_whole.binds fun _ _ _ _ _ _ us hl => len1_ (fun _ => rfl) us hl⟩
  have F_arm := fun_mk (st := s_arm) l12 c12 k12
  have D_arm : Def K mg "_law_arm" s_arm ["_law_script", "_law_rows", "_law_number", "_law_j", "_law_deeper", "_law_given"] := ⟨_, _, F_arm, PySem.W.mg_of X G a12, F_arm.binds fun _ _ _ _ _ _ us hl => len6_ (fun _ _ _ _ _ _ => rfl) us hl⟩
  have F_pattern := fun_mk (st := s_pattern) l13 c13 k13
  have D_pattern : Def K mg "_law_pattern" s_pattern ["_law_script", "_law_rows", "_law_term_here", "_law_given"] := ⟨_, _, F_pattern, PySem.W.mg_of X G a13, F_pattern.binds fun _ _ _ _ _ _ us hl => len4_ (fun _ _ _ _ => rfl) us hl⟩
  have F_filled := fun_mk (st := s_filled) l14 c14 k14
  have D_filled : Def K mg "_law_filled" s_filled ["_law_script", "_law_rows", "_law_room", "_law_many"] := ⟨_, _, F_filled, PySem.W.mg_of X G a14, F_filled.binds fun _ _ _ _ _ _ us hl => len4_ (fun _ _ _ _ => rfl) us hl⟩
  have F_refused := fun_mk (st := s_refused) l15 c15 k15
  have D_refused : Def K mg "_law_refused" s_refused ["_law_bank", "_law_pattern_here", "_law_given"] := ⟨_, _, F_refused, PySem.W.mg_of X G a15, F_refused.binds fun _ _ _ _ _ _ us hl => len3_ (fun _ _ _ => rfl) us hl⟩
  have F_lacking := fun_mk (st := s_lacking) l16 c16 k16
  have D_lacking : Def K mg "_law_lacking" s_lacking ["_law_script", "_law_rows"] := ⟨_, _, F_lacking, PySem.W.mg_of X G a16, F_lacking.binds fun _ _ _ _ _ _ us hl => len2_ (fun _ _ => rfl) us hl⟩
  have F_law := fun_mk (st := s_law) l17 c17 k17
  refine ⟨PySem.W.fnOf "law" "law" (defArgs s_law) (defBody s_law) (defScope s_law) .none kV17 dc17 pm17 an17 cd17 ct17, fun s v => .of_eq rfl, fun base _ _ => ?_⟩
  have h_init := ok_init (P := l.prog) (w := w) (base := base) Z D_init
  have h_put_term := ok_put_term (P := l.prog) (w := w) (base := base) B Z D_put_term
  have h_put_part := ok_put_part B Z h_put_term D_put_part 3
  have h_cutN := ok_cutN (P := l.prog) (w := w) (base := base) B Z D_cut
  have h_put := ok_putE B Z m_Full h_put_part h_cutN D_put
  have h_at := ok_at (P := l.prog) (w := w) (base := base) B D_at
  have h_draw := ok_draw (P := l.prog) (w := w) (base := base) D_draw
  have h_word := ok_wordS B h_at D_word
  have h_leaf := ok_leafS h_draw h_word D_leaf
  have h_term := ok_term B h_draw h_word h_leaf D_term
  have h_terms := ok_terms B h_term D_terms
  have h_whole := ok_whole (P := l.prog) (w := w) (base := base) B D_whole
  have h_arm := ok_arm B h_word D_arm
  have h_pattern := ok_pattern B h_at h_arm D_pattern
  have h_filled := ok_filled B Z h_init h_pattern h_put D_filled
  have h_refused := ok_refused Z m_Full h_put D_refused
  have h_lacking := ok_lacking B Z h_at h_word h_pattern h_filled h_refused h_put D_lacking
  exact ok_law B b_dict Z h_terms h_whole h_init h_pattern h_put h_lacking F_law
theorem walk {l : PySem.W.OpenLaw} {q : Program} {loose : List Str} {XP : (Str → Option Value) → Heap → Prop} {YP : World → Heap → Prop} {d : DefRec} {K : Params → PySem.W.Frag} (hn : l.most = some 63) (hdf : d.params.defaults = [])
    (hY : ∀ (w : World) (h : Heap), YP w h → (K w.params).In h)
    (F : ∀ (w : World) (mg : Str → Option Value) (fa : Addr) (h : Heap), (K w.params).In h → h.Ns mainGlobals mg → mg d.name = some (.ref fa) →
      ∃ fd : FuncData, (∀ (s : Shared) (u : Value), BindsTo s fd ⟨[u], []⟩ [("_law_script", u)]) ∧ ∀ base : Heap, (K w.params).In base → base.Ns mainGlobals mg → FnOk l.prog w (K w.params) mg base CX0 8 fa fd ["_law_script"] (spLaw (K w.params))) :
    PySem.W.WalkO q loose XP YP l.row.toRowW d [] (fun f vs => PySem.call f vs) :=
  L2.walk_of (n := 63) (k := 8) (x := "_law_script") (CX := fun _ => CX0) (sp := fun w => spLaw (K w.params)) hn (by decide) hdf ⟨rfl, by decide, by decide⟩ hY F (fun _ _ a ns hl _ hS => ⟨a, ns, rfl, hS, hl, fun _ => rfl⟩) fun _ _ _ _ _ z => z
end K12
open PySem PySem.W PyProof.Rows
set_option maxRecDepth 100000 in
set_option maxHeartbeats 0 in
theorem PySem.Challenge.cw_samewise_k12_holes_put_holds : PySem.Challenge.rw_samewise_k12_holes_put.Holds := by
  w_on; o_law; k_head; (case hw => w_witness2)
  k_fill
  refine K12.walk (l := PySem.Challenge.rw_samewise_k12_holes_put) rfl rfl (fun w h Y => PySem.W.kIn_of Y) ?F
  case F =>
    intro w mg fa h KX G hmg
    refine' K12.all_mk KX G hmg ?aC ?a0 ?l0 ?c0 ?k0 ?n0 ?a1 ?l1 ?t1 ?c1 ?k1 ?n1 ?a2 ?l2 ?c2 ?k2 ?n2 ?a3 ?l3 ?c3 ?k3 ?n3 ?a4 ?l4 ?c4 ?k4 ?n4 ?a5 ?l5 ?c5 ?k5 ?a6 ?l6 ?c6 ?k6 ?a7 ?l7 ?c7 ?k7 ?a8 ?l8 ?c8 ?k8 ?a9 ?l9 ?c9 ?k9 ?a10 ?l10 ?c10 ?k10 ?a11 ?l11 ?c11 ?k11 ?a12 ?l12 ?c12 ?k12 ?a13 ?l13 ?c13 ?k13 ?a14 ?l14 ?c14 ?k14 ?a15 ?l15 ?c15 ?k15 ?a16 ?l16 ?c16 ?k16 ?a17 ?l17 ?c17 ?k17 ?rMk ?rKp ?rPg ?rHd ?rPo ?rSa ?rN_room ?rN_terms ?rN_places ?x_Full ?x_SameError ?xEx ?m_Full ?z0 ?z1 ?z2 ?z3 ?z4 ?z5 ?z6 ?z7 ?z8 ?z9 ?z10 ?z11 ?z12
    (case aC => k_is)
    (case a0 => k_is)
    (case l0 => k_is)
    (case c0 => k_is)
    (case k0 => k_is)
    (case n0 => k_is)
    (case a1 => k_is)
    (case l1 => k_is)
    (case t1 => k_is)
    (case c1 => k_is)
    (case k1 => k_is)
    (case n1 => k_is)
    (case a2 => k_is)
    (case l2 => k_is)
    (case c2 => k_is)
    (case k2 => k_is)
    (case n2 => k_is)
    (case a3 => k_is)
    (case l3 => k_is)
    (case c3 => k_is)
    (case k3 => k_is)
    (case n3 => k_is)
    (case a4 => k_is)
    (case l4 => k_is)
    (case c4 => k_is)
    (case k4 => k_is)
    (case n4 => k_is)
    (case a5 => k_is)
    (case l5 => k_is)
    (case c5 => k_is)
    (case k5 => k_is)
    (case a6 => k_is)
    (case l6 => k_is)
    (case c6 => k_is)
    (case k6 => k_is)
    (case a7 => k_is)
    (case l7 => k_is)
    (case c7 => k_is)
    (case k7 => k_is)
    (case a8 => k_is)
    (case l8 => k_is)
    (case c8 => k_is)
    (case k8 => k_is)
    (case a9 => k_is)
    (case l9 => k_is)
    (case c9 => k_is)
    (case k9 => k_is)
    (case a10 => k_is)
    (case l10 => k_is)
    (case c10 => k_is)
    (case k10 => k_is)
    (case a11 => k_is)
    (case l11 => k_is)
    (case c11 => k_is)
    (case k11 => k_is)
    (case a12 => k_is)
    (case l12 => k_is)
    (case c12 => k_is)
    (case k12 => k_is)
    (case a13 => k_is)
    (case l13 => k_is)
    (case c13 => k_is)
    (case k13 => k_is)
    (case a14 => k_is)
    (case l14 => k_is)
    (case c14 => k_is)
    (case k14 => k_is)
    (case a15 => k_is)
    (case l15 => k_is)
    (case c15 => k_is)
    (case k15 => k_is)
    (case a16 => k_is)
    (case l16 => k_is)
    (case c16 => k_is)
    (case k16 => k_is)
    (case a17 => k_is)
    (case l17 => k_is)
    (case c17 => k_is)
    (case k17 => k_is)
    (case rMk => k_is)
    (case rKp => k_is)
    (case rPg => k_is)
    (case rHd => k_is)
    (case rPo => k_is)
    (case rSa => k_is)
    (case rN_room => k_is)
    (case rN_terms => k_is)
    (case rN_places => k_is)
    (case x_Full => k_is)
    (case x_SameError => k_is)
    (case xEx => k_exc)
    (case m_Full => kts_exm)
    (case z0 => k_is)
    (case z1 => k_is)
    (case z2 => k_is)
    (case z3 => k_is)
    (case z4 => k_is)
    (case z5 => k_is)
    (case z6 => k_is)
    (case z7 => k_is)
    (case z8 => k_is)
    (case z9 => k_is)
    (case z10 => k_is)
    (case z11 => k_is)
    (case z12 => k_is)
#print axioms PySem.Challenge.cw_samewise_k12_holes_put_holds
