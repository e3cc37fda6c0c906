import PyProof.Rows.All
import Wide.All
import OpenK.AllK
import Wide.FinOn
import Lean
import PyProof.EqAt
import PyProof.EqKinds
import PyProof.TupleCall
import KE.KTryMore
import KE.KIntText
import KE.RegKTryMore
import PySem.Challenge.RW_samewise_k64_taken
set_option Elab.async false
set_option linter.all false
set_option maxRecDepth 100000
set_option maxHeartbeats 4000000
namespace L2
open PySem PySem.Spec PyProof.Rows

noncomputable abbrev Key := Sum Int Str
noncomputable def keyIs : Key → Value → Bool
  | .inl k, v => Value.isInt k v
  | .inr x, v => Value.isStrOf x v
noncomputable def keyH (w : World) : Key → Int
  | .inl k => hashInt k
  | .inr x => hashStr w x
theorem keyIs_shape : ∀ {k : Key} {v : Value}, keyIs k v = true → (∃ i t, k = Sum.inl i ∧ v = Value.int i t) ∨ (∃ x t, k = Sum.inr x ∧ v = Value.str x t)
  | .inl i, v, h => by
    obtain ⟨t, e⟩ := Value.isInt_shape (k := i) (v := v) h
    exact .inl ⟨i, t, rfl, e⟩
  | .inr x, v, h => by
    obtain ⟨t, e⟩ := Value.isStrOf_shape (x := x) (v := v) h
    exact .inr ⟨x, t, rfl, e⟩
theorem keyIs_int (i : Int) (t : Tok) : keyIs (.inl i) (.int i t) = true := by simp [keyIs, Value.isInt]
theorem keyIs_str (x : Str) (t : Tok) : keyIs (.inr x) (.str x t) = true := by simp [keyIs, Value.isStrOf]
theorem key_ll (a b : Int) : decide ((Sum.inl a : Key) = Sum.inl b) = (a == b) := by
  by_cases e : a = b
  · subst e; simp
  · have h : ¬ (Sum.inl a : Key) = Sum.inl b := fun q => e (Sum.inl.inj q)
    rw [decide_eq_false h]
    exact (beq_eq_false_iff_ne.mpr e).symm
theorem key_rr (a b : Str) : decide ((Sum.inr a : Key) = Sum.inr b) = decide (a = b) := by
  by_cases e : a = b
  · subst e; simp
  · have h : ¬ (Sum.inr a : Key) = Sum.inr b := fun q => e (Sum.inr.inj q)
    rw [decide_eq_false h, decide_eq_false e]
theorem key_lr (a : Int) (b : Str) : decide ((Sum.inl a : Key) = Sum.inr b) = false := decide_eq_false (fun q => nomatch q)
theorem key_rl (a : Str) (b : Int) : decide ((Sum.inr a : Key) = Sum.inl b) = false := decide_eq_false (fun q => nomatch q)

noncomputable def mixKind (prog : Program) (w : World) : PySem.KeyKind prog w Key where
  is := keyIs
  hash := keyH w
  inj := fun v a b ha hb => by
    rcases keyIs_shape ha with ⟨i, t, rfl, rfl⟩ | ⟨x, t, rfl, rfl⟩
    · rcases keyIs_shape hb with ⟨j, u, rfl, e⟩ | ⟨y, u, rfl, e⟩
      · injection e with e1 _; rw [e1]
      · exact nomatch e
    · rcases keyIs_shape hb with ⟨j, u, rfl, e⟩ | ⟨y, u, rfl, e⟩
      · exact nomatch e
      · injection e with e1 _; rw [e1]
  byValue := fun k v h => by
    rcases keyIs_shape h with ⟨i, t, rfl, rfl⟩ | ⟨x, t, rfl, rfl⟩ <;> rfl
  pyHash := fun hv h => by
    rcases keyIs_shape hv with ⟨i, t, rfl, rfl⟩ | ⟨x, t, rfl, rfl⟩
    · exact wpAny_pyHash_int h
    · exact wpAny_pyHash_str h
  eqBool := fun hu hv h => by
    rcases keyIs_shape hu with ⟨i, t, rfl, rfl⟩ | ⟨x, t, rfl, rfl⟩
    · rcases keyIs_shape hv with ⟨j, u, rfl, rfl⟩ | ⟨y, u, rfl, rfl⟩
      · rw [key_ll] at h; exact wpAny_eqBool_int h
      · rw [key_lr] at h; exact SeqAt.EqAt.int_str i t y u _ _ _ _ h
    · rcases keyIs_shape hv with ⟨j, u, rfl, rfl⟩ | ⟨y, u, rfl, rfl⟩
      · rw [key_rl] at h; exact SeqAt.EqAt.str_int x t j u _ _ _ _ h
      · rw [key_rr] at h; exact wpAny_eqBool_str h
  «strs» := fun k x t v h => by
    rcases keyIs_shape h with ⟨i, u, rfl, e⟩ | ⟨y, u, rfl, e⟩
    · exact nomatch e
    · injection e with e1 _
      subst e1
      cases v <;> rfl

theorem mixKind_int (prog : Program) (w : World) (i : Int) (t : Tok) : (mixKind prog w).is (.inl i) (.int i t) = true := keyIs_int i t
theorem mixKind_str (prog : Program) (w : World) (x : Str) (t : Tok) : (mixKind prog w).is (.inr x) (.str x t) = true := keyIs_str x t
end L2

namespace L2
open PySem PySem.Spec PyProof.Rows

inductive V where
  | non | bl (b : Bool) | int (i : Int) | str (x : Str) | byt (b : Array UInt8) | flt (b : UInt64) | ref (a : Addr) | ty (n : String)
  deriving DecidableEq

noncomputable def RelV : V → Value → Prop
  | .non, u => u = Value.none
  | .bl b, u => u = Value.bool b
  | .int i, u => ∃ t, u = Value.int i t
  | .str x, u => ∃ t, u = Value.str x t
  | .byt b, u => ∃ t, u = Value.bytes b t
  | .flt b, u => ∃ t, u = Value.float b t
  | .ref a, u => u = Value.ref a
  | .ty n, u => u = Value.type n

noncomputable abbrev Vals : List V → List Value → Prop := Paired RelV
theorem Vals.length {xs : List V} {us : List Value} (r : Vals xs us) : xs.length = us.length := Paired.length r
theorem Vals.get : ∀ {xs : List V} {us : List Value} {i : Nat} {x : V}, Vals xs us → xs[i]? = some x → ∃ u, us[i]? = some u ∧ RelV x u
  | _, _, _, _, .nil, e => by simp at e
  | _, _, 0, _, .cons r _, e => by simp at e; subst e; exact ⟨_, rfl, r⟩
  | _, _, i + 1, x, .cons _ t, e => by
    obtain ⟨u, h1, h2⟩ := Vals.get (i := i) (x := x) t (by simpa using e)
    exact ⟨u, by simpa using h1, h2⟩
theorem Vals.set {x : V} {u : Value} (r : RelV x u) : ∀ {xs : List V} {us : List Value} (i : Nat), Vals xs us → Vals (xs.set i x) (us.set i u)
  | _, _, _, .nil => .nil
  | _, _, 0, .cons _ t => .cons r t
  | _, _, i + 1, .cons q t => .cons q (Vals.set r i t)
theorem Vals.append : ∀ {xs ys : List V} {us ws : List Value}, Vals xs us → Vals ys ws → Vals (xs ++ ys) (us ++ ws)
  | _, _, _, _, .nil, s => s
  | _, _, _, _, .cons r t, s => .cons r (Vals.append t s)
theorem Vals.take : ∀ {xs : List V} {us : List Value} (n : Nat), Vals xs us → Vals (xs.take n) (us.take n)
  | _, _, 0, _ => .nil
  | _, _, _ + 1, .nil => .nil
  | _, _, n + 1, .cons r t => .cons r (Vals.take n t)
theorem Vals.drop : ∀ {xs : List V} {us : List Value} (n : Nat), Vals xs us → Vals (xs.drop n) (us.drop n)
  | _, _, 0, r => r
  | _, _, _ + 1, .nil => .nil
  | _, _, n + 1, .cons _ t => Vals.drop n t

noncomputable def RelO : Option V → Option Value → Prop
  | some v, some u => RelV v u
  | none, none => True
  | _, _ => False
noncomputable def KV {κ : Type} : List (κ × V) → List (κ × Value) → Prop := Paired fun (p : κ × V) (q : κ × Value) => p.1 = q.1 ∧ RelV p.2 q.2

noncomputable def kV : Key → V
  | .inl i => .int i
  | .inr x => .str x

inductive HO where
    | lst (xs : List V)
    | tup (xs : List V)
    | dK (kvs : List (Key × V)) | dT (kvs : List (List Key × V))
    | set (S : Int → Bool) (n : Nat)
    | ins (C dx : Addr) (fs : List (Str × V))
    | own (x : Addr)
    | xd (fs : List (Str × V))
    | met (f x : Addr)
    | rng (lo hi : Int)
    | frz (o : Obj) (u : HO)
    | tbl (ps : Array Value)
    | ext (φ : Heap → Prop)

noncomputable abbrev Hp := Addr → Option HO
noncomputable def upd (H : Hp) (a : Addr) (o : HO) : Hp := fun b => if b = a then some o else H b
theorem upd_same {H : Hp} {a : Addr} {o : HO} : upd H a o a = some o := by unfold upd; rw [if_pos rfl]
theorem upd_ne {H : Hp} {a b : Addr} {o : HO} (h : b ≠ a) : upd H a o b = H b := by unfold upd; rw [if_neg h]
theorem upd_upd {H : Hp} {a : Addr} {o u : HO} : upd (upd H a o) a u = upd H a u := by
  funext b; unfold upd; split <;> rfl
theorem ne_of {H : Hp} {a b : Addr} {o u : HO} (h : H a = some o) (h' : H b = some u) (d : o ≠ u) : a ≠ b := by
  intro e; subst e; rw [h] at h'; exact d (Option.some.inj h')
theorem ne_of_none {H : Hp} {a b : Addr} {o : HO} (h : H a = some o) (h' : H b = none) : a ≠ b := by
  intro e; subst e; rw [h] at h'; cases h'

section
variable (P : Program) (w : World)
noncomputable def ObjOk (H : Hp) (h : Heap) (a : Addr) : HO → Prop
  | .lst xs => xs.length ≤ sizeLine ∧ ∃ (its : List Value) (n : Nat), Vals xs its ∧ h.get? a = some { cls := .type "list", data := .seq its.toArray n }
  | .tup xs => xs.length ≤ sizeLine ∧ ∃ its : List Value, Vals xs its ∧ IsTup h a its.toArray
  | .dK kvs => kvs.length ≤ sizeLine ∧ (a == sysModules) = false ∧ ∃ vs, KV kvs vs ∧ h.DictOf (mixKind P w) a vs
  | .dT kvs => kvs.length ≤ sizeLine ∧ (a == sysModules) = false ∧ ∃ xs : List (List Key × Addr × Value),
      Paired (fun (p : List Key × V) (q : List Key × Addr × Value) => p.1 = q.1 ∧ H q.2.1 = some (.tup (p.1.map kV)) ∧ RelV p.2 q.2.2) kvs xs ∧
      ∃ o es ep, h.get? a = some o ∧ o.ExactDict ∧ o.data = .dict es ep ∧ es.toList = xs.map (entryOfKey (tupleKind (mixKind P w))) ∧ (xs.map (·.1)).Nodup
  | .set S n => h.SetOf (intKind P w) a S n
  | .ins C dx fs => H dx = some (.own a) ∧ fs.length ≤ 1000 ∧ dx ≠ a ∧ h.get? a = some (PySem.W.instObj C dx) ∧
      ∃ mA, h.Ns1 dx mA ∧ (∀ f, RelO (fs.lookup f) (mA f)) ∧ PySem.Within mA (fs.map (·.1))
  | .own _ => ∃ o, h.get? a = some o
  | .xd fs => ∃ mA, h.Ns1 a mA ∧ ∀ f, RelO (fs.lookup f) (mA f)
  | .rng lo hi => ∃ t u v, h.get? a = some { cls := .type "range", data := .fields #[.int lo t, .int hi u, .int 1 v] }
  | .frz o u => h.get? a = some o ∧ ObjOk H h a u
  | .tbl ps => h.get? a = some { cls := .none, data := .fields ps }
  | .met f x => h.get? a = some (PySem.W.methodObj (.ref f) (.ref x))
  | .ext φ => φ h ∧ (∃ o, h.get? a = some o) ∧ ∀ h1 h2 : Heap, φ h1 → (∀ o, h1.get? a = some o → h2.get? a = some o) → φ h2
noncomputable def HOk (H : Hp) (h : Heap) : Prop := ∀ a o, H a = some o → ObjOk P w H h a o
end

section
variable {P : Program} {w : World} {H H' : Hp} {h h' : Heap} {a : Addr} {o : HO}
theorem ObjOk.lt (x : ObjOk P w H h a o) : a < h.objs.size := by
  cases o with
  | lst xs => obtain ⟨_, _, _, _, e⟩ := x; exact Heap.lt_size e
  | tup xs => obtain ⟨_, _, _, p⟩ := x; exact p.lt
  | dK kvs => obtain ⟨_, _, _, _, o, _, _, e, _⟩ := x; exact Heap.lt_size e
  | dT kvs => obtain ⟨_, _, _, _, o, _, _, e, _⟩ := x; exact Heap.lt_size e
  | set S n => obtain ⟨o, _, _, _, e, _⟩ := x; exact Heap.lt_size e
  | ins C dx fs => obtain ⟨_, _, _, e, _⟩ := x; exact Heap.lt_size e
  | own y => obtain ⟨_, e⟩ := x; exact Heap.lt_size e
  | xd fs => obtain ⟨_, ⟨_, _, _, e, _⟩, _⟩ := x; exact Heap.lt_size e
  | rng lo hi => obtain ⟨_, _, _, e⟩ := x; exact Heap.lt_size e
  | frz ob u => obtain ⟨e, _⟩ := x; exact Heap.lt_size e
  | tbl ps => exact Heap.lt_size (show h.get? a = some _ from x)
  | met f y => exact Heap.lt_size (show h.get? a = some _ from x)
  | ext φ => obtain ⟨_, ⟨_, e⟩, _⟩ := x; exact Heap.lt_size e
theorem Paired.mapP {α β : Type} {F G : α → β → Prop} : ∀ {l₁ : List α} {l₂ : List β}, Paired F l₁ l₂ → (∀ a b, F a b → G a b) → Paired G l₁ l₂
  | _, _, .nil, _ => .nil
  | _, _, .cons r t, f => .cons (f _ _ r) (Paired.mapP t f)
theorem ObjOk.stay (x : ObjOk P w H h a o) (k : ∀ b u, (b = a ∨ H b = some (.own a)) → h.get? b = some u → h'.get? b = some u)
    (ho : ∀ b, H b = some (.own a) → H' b = some (.own a)) (ht : ∀ b xs, H b = some (.tup xs) → H' b = some (.tup xs)) : ObjOk P w H' h' a o := by
  induction o with
  | lst xs => obtain ⟨z, its, n, r, e⟩ := x; exact ⟨z, its, n, r, k _ _ (.inl rfl) e⟩
  | tup xs => obtain ⟨z, its, r, ob, e, c⟩ := x; exact ⟨z, its, r, ob, k _ _ (.inl rfl) e, c⟩
  | dK kvs => obtain ⟨z, y, vs, r, ob, es, ep, e, c⟩ := x; exact ⟨z, y, vs, r, ob, es, ep, k _ _ (.inl rfl) e, c⟩
  | dT kvs =>
    obtain ⟨z, y, xs, r, ob, es, ep, e, c⟩ := x
    exact ⟨z, y, xs, Paired.mapP r fun p q z => ⟨z.1, ht _ _ z.2.1, z.2.2⟩, ob, es, ep, k _ _ (.inl rfl) e, c⟩
  | set S n => obtain ⟨ob, es, ep, t, e, c⟩ := x; exact ⟨ob, es, ep, t, k _ _ (.inl rfl) e, c⟩
  | ins C dx fs =>
    obtain ⟨d, z, ne, e, mA, ⟨od, es, ep, e2, c⟩, r⟩ := x
    exact ⟨ho _ d, z, ne, k _ _ (.inl rfl) e, mA, ⟨od, es, ep, k _ _ (.inr d) e2, c⟩, r⟩
  | own y => obtain ⟨ob, e⟩ := x; exact ⟨ob, k _ _ (.inl rfl) e⟩
  | xd fs => obtain ⟨mA, ⟨od, es, ep, e, c⟩, r⟩ := x; exact ⟨mA, ⟨od, es, ep, k _ _ (.inl rfl) e, c⟩, r⟩
  | rng lo hi => obtain ⟨t, u, v, e⟩ := x; exact ⟨t, u, v, k _ _ (.inl rfl) e⟩
  | frz ob u ih => obtain ⟨e, q⟩ := x; exact ⟨k _ _ (.inl rfl) e, ih q⟩
  | tbl ps =>
    have e : h.get? a = some { cls := .none, data := .fields ps } := x
    show h'.get? a = some { cls := .none, data := .fields ps }
    exact k a _ (.inl rfl) e
  | met f y =>
    have e : h.get? a = some (PySem.W.methodObj (.ref f) (.ref y)) := x
    show h'.get? a = some (PySem.W.methodObj (.ref f) (.ref y))
    exact k a _ (.inl rfl) e
  | ext φ => obtain ⟨p, ⟨o, e⟩, st⟩ := x; exact ⟨st _ _ p fun o q => k _ _ (.inl rfl) q, ⟨o, k _ _ (.inl rfl) e⟩, st⟩
theorem HOk.lt (x : HOk P w H h) (e : H a = some o) : a < h.objs.size := (x a o e).lt
theorem HOk.fresh (x : HOk P w H h) (e : h.objs.size ≤ a) : H a = none := by
  cases q : H a with
  | none => rfl
  | some u => exact absurd (Nat.lt_of_lt_of_le (x.lt q) e) (Nat.lt_irrefl _)
theorem HOk.kept (x : HOk P w H h) (k : ∀ b u, h.get? b = some u → h'.get? b = some u) : HOk P w H h' := fun a o e =>
  (x a o e).stay (fun b u _ q => k b u q) (fun _ q => q) fun _ _ q => q
theorem HOk.laid (x : HOk P w H h) (k : ∀ b u, h.get? b = some u → h'.get? b = some u) (hp : h.objs.size ≤ a) (new : ObjOk P w (upd H a o) h' a o) : HOk P w (upd H a o) h' := fun b u e => by
  have hn := x.fresh hp
  by_cases hb : b = a
  · subst hb; rw [upd_same] at e; cases e; exact new
  · rw [upd_ne hb] at e
    exact (x b u e).stay (fun c v _ q => k c v q) (fun c q => by rw [upd_ne (ne_of_none q hn)]; exact q) fun c xs q => by rw [upd_ne (ne_of_none q hn)]; exact q
end

noncomputable def Rd (H : Hp) (a : Addr) (u : HO) : Prop := H a = some u ∨ ∃ o, H a = some (.frz o u)
theorem Rd.ok {P : Program} {w : World} {H : Hp} {h : Heap} {a : Addr} {u : HO} (r : Rd H a u) (x : HOk P w H h) : ObjOk P w H h a u := by
  rcases r with r | ⟨o, r⟩
  · exact x a u r
  · obtain ⟨_, q⟩ := x a _ r
    exact q
noncomputable def Mut : Option HO → Prop
  | some (.lst _) => True
  | some (.dK _) => True
  | some (.dT _) => True
  | some (.set _ _) => True
  | some (.ins _ _ _) => True
  | some (.ext _) => True
  | _ => False
section
variable {P : Program} {w : World} {H : Hp} {h h' : Heap} {x e : Addr} {o' : HO}
theorem HOk.write (ok : HOk P w H h) (mu : Mut (H x)) (he : e = x ∨ H e = some (.own x)) (k : ∀ b u, b ≠ e → h.get? b = some u → h'.get? b = some u) (heo : ∃ u, h'.get? e = some u)
    (new : ObjOk P w (upd H x o') h' x o') : HOk P w (upd H x o') h' := fun b u q => by
  have nown : ∀ c y, H c = some (.own y) → c ≠ x := fun c y r z => by subst z; rw [r] at mu; exact mu
  have ntup : ∀ c xs, H c = some (.tup xs) → c ≠ x := fun c xs r z => by subst z; rw [r] at mu; exact mu
  by_cases hb : b = x
  · subst hb; rw [upd_same] at q; cases q; exact new
  · rw [upd_ne hb] at q
    by_cases hbe : b = e
    · have q' : H b = some (.own x) := by
        rcases he with z | z
        · exact absurd (hbe.trans z) hb
        · rw [hbe]; exact z
      rw [q] at q'; cases q'
      obtain ⟨v, hv⟩ := heo
      exact ⟨v, by rw [hbe]; exact hv⟩
    · refine (ok b u q).stay (fun c v hc r => k c v ?_ r) (fun c r => by rw [upd_ne (nown c b r)]; exact r) fun c xs r => by rw [upd_ne (ntup c xs r)]; exact r
      rcases hc with rfl | hc
      · exact hbe
      · rintro rfl
        rcases he with z | z
        · exact nown c b hc z
        · rw [hc] at z; cases z; exact hb rfl
end

structure Un (fs ex : List Addr) (H H' : Hp) (h h' : Heap) : Prop where
  keep : ∀ b o, h.get? b = some o → H b = none → b ∉ fs → b ∉ ex → h'.get? b = some o
  slot : ∀ b o, h.get? b = some o → H b = none → b ∈ fs → b ∉ ex → ∃ sl, h'.get? b = some { o with slots := sl }
  free : ∀ b o, h.get? b = some o → H b = none → b ∉ ex → H' b = none
  there : ∀ b o, h.get? b = some o → b ∉ ex → ∃ o', h'.get? b = some o'
  tups : ∀ b xs, H b = some (.tup xs) → H' b = some (.tup xs)
  frzs : ∀ b o u, H b = some (.frz o u) → H' b = some (.frz o u)
  tbls : ∀ b ps, H b = some (.tbl ps) → ∃ more, H' b = some (.tbl (ps ++ more))
section
variable {fs fs' ex ex' : List Addr} {H H1 H2 : Hp} {h h1 h2 h' : Heap} {a x e : Addr} {o : HO}
theorem Un.any (u : Un fs ex H H1 h h1) {b : Addr} {ob : Obj} (q : h.get? b = some ob) (n : H b = none) (hx : b ∉ ex) : ∃ sl, h1.get? b = some { ob with slots := sl } := by
  by_cases hb : b ∈ fs
  · exact u.slot b ob q n hb hx
  · exact ⟨ob.slots, u.keep b ob q n hb hx⟩
theorem Un.kept (k : ∀ b u, h.get? b = some u → h'.get? b = some u) : Un fs ex H H h h' :=
  ⟨fun b ob q _ _ _ => k b ob q, fun b ob q _ _ _ => ⟨ob.slots, k b ob q⟩, fun _ _ _ n _ => n, fun b ob q _ => ⟨ob, k b ob q⟩, fun _ _ q => q, fun _ _ _ q => q, fun _ ps q => ⟨#[], by rw [q]; simp⟩⟩
theorem Un.refl : Un fs ex H H h h := Un.kept fun _ _ q => q
theorem Un.laid (k : ∀ b u, h.get? b = some u → h'.get? b = some u) (hp : h.objs.size ≤ a) (hn : H a = none) : Un fs ex H (upd H a o) h h' where
  keep := fun b u q _ _ _ => k b u q
  slot := fun b u q _ _ _ => ⟨u.slots, k b u q⟩
  free := fun b u q n _ => by rw [upd_ne (Nat.ne_of_lt (Nat.lt_of_lt_of_le (Heap.lt_size q) hp))]; exact n
  there := fun b u q _ => ⟨u, k b u q⟩
  tups := fun b xs q => by rw [upd_ne (ne_of_none q hn)]; exact q
  frzs := fun b u xs q => by rw [upd_ne (ne_of_none q hn)]; exact q
  tbls := fun b ps q => ⟨#[], by rw [upd_ne (ne_of_none q hn), q]; simp⟩
theorem Un.write (mu : Mut (H x)) (he : e = x ∨ H e = some (.own x)) (k : ∀ b u, b ≠ e → h.get? b = some u → h'.get? b = some u) (heo : ∃ u, h'.get? e = some u) : Un fs ex H (upd H x o) h h' := by
  have hx : ∀ b, H b = none → b ≠ x := fun b n z => by subst z; rw [n] at mu; exact mu
  have hb : ∀ b, H b = none → b ≠ e := fun b n z => by
    subst z
    rcases he with r | r
    · exact hx b n r
    · rw [n] at r; cases r
  have hm : ∀ b u, H b = some u → ¬ Mut (some u) → b ≠ x := fun b u q nm z => by subst z; rw [q] at mu; exact nm mu
  refine ⟨fun b u q n _ _ => k b u (hb b n) q, fun b u q n _ _ => ⟨u.slots, k b u (hb b n) q⟩, fun b u q n _ => by rw [upd_ne (hx b n)]; exact n, fun b u q _ => ?_,
    fun b xs q => by rw [upd_ne (hm b _ q fun z => z)]; exact q, fun b u xs q => by rw [upd_ne (hm b _ q fun z => z)]; exact q, fun b ps q => ⟨#[], by rw [upd_ne (hm b _ q fun z => z), q]; simp⟩⟩
  by_cases hbe : b = e
  · subst hbe; exact heo
  · exact ⟨u, k b u hbe q⟩
end

noncomputable def trk (h : Heap) (H : Hp) : List Addr := (List.range h.objs.size).filter fun a => (H a).isSome
noncomputable def hidT (h : Heap) (H : Hp) : Heap := PySem.W.hideAll h (trk h H)
theorem hidT_size (h : Heap) (H : Hp) : (hidT h H).objs.size = h.objs.size := PySem.W.hideAll_size _ _
theorem hidT_get {h : Heap} {H : Hp} {b : Addr} {o : Obj} (e : h.get? b = some o) (n : H b = none) : (hidT h H).get? b = some o :=
  PySem.W.hideAll_get _ e fun hm => by
    have q : (H b).isSome = true := (List.mem_filter.mp hm).2
    rw [n] at q; simp at q
theorem of_hidT {h : Heap} {H : Hp} {b : Addr} {o : Obj} (e : (hidT h H).get? b = some o) : h.get? b = some o ∧ H b = none := by
  have e' : h.get? b = some o := PySem.W.of_hideAll (trk h H) e
  refine ⟨e', ?_⟩
  cases q : H b with
  | none => rfl
  | some x =>
    have hm : b ∈ trk h H := List.mem_filter.mpr ⟨List.mem_range.mpr (Heap.lt_size e'), by simp [q]⟩
    have z : (hidT h H).get? b = none := PySem.W.hideAll_none (trk h H) hm
    rw [z] at e; cases e

end L2

namespace L2
open PySem PySem.Spec PyProof.Rows

structure Mod (K : PySem.W.Frag) (mg : Str → Option Value) (base : Heap) : Prop where
  kin : K.In base
  glob : base.Ns mainGlobals mg
  blt : ∃ mb, base.Ns builtinsNs mb ∧ ∀ x : Str, x ≠ "__name__" → mb x = bootBuiltins x
  nolimit : base.NoLimit

structure Cx where
  prog : Program
  w : World
  K : PySem.W.Frag
  mg : Str → Option Value
  base : Heap
  A : Around
  N : List Str
  s₀ : Shared
  H₀ : Hp
  env : Env
  outer : List Env
  stack : List Env
  ex : List Addr
  fn : Str → Bool
  calm : Bool
  pn : List (Addr × Obj)
  xe : Value → Shared → Prop
noncomputable def frs (l : List Env) : List Addr := l.filterMap (·.frame)
noncomputable abbrev Cx.fs (X : Cx) : List Addr := frs X.outer

noncomputable def Vis (sc : Scope) (x : Str) : Prop := sc.names.lookup x = some .local ∨ sc.names.lookup x = some .cell ∨ sc.names.lookup x = some .free
noncomputable def Loc (sc : Scope) (x : Str) : Prop := sc.names.lookup x = some .local ∨ sc.names.lookup x = some .cell
noncomputable def Look (env : Env) (h : Heap) (m : Str → Option Value) (x : Str) (u : Value) : Prop :=
  (env.kindOf x = some .local ∧ m x = some u) ∨ ((env.kindOf x = some .cell ∨ env.kindOf x = some .free) ∧ ∃ c, env.cells.lookup x = some c ∧ h.IsCell c (some u))

structure Cx.Ok (X : Cx) : Prop where
  mod : Mod X.K X.mg X.base
  kind : X.env.scope.kind = .function
  glob : X.env.globals = mainGlobals
  blt : X.env.builtins = builtinsNs
  above : X.s₀.heap.objs.size ≤ X.env.locals
  inj : ∀ x y c, X.env.cells.lookup x = some c → X.env.cells.lookup y = some c → x = y
  has : ∀ x, (X.env.kindOf x = some .cell ∨ X.env.kindOf x = some .free) → ∃ c, X.env.cells.lookup x = some c
  cab : ∀ x c, X.fn x = true → X.env.cells.lookup x = some c → X.s₀.heap.objs.size ≤ c
  hd : X.calm = true → X.A.handled = none
  frames : X.A.frames = some X.stack
  stk : X.stack = X.outer ∨ (X.stack = X.env :: X.outer ∧ X.env.frame = some X.env.locals)
  exf : ∀ b ∈ X.ex, b ≠ X.env.locals ∧ ∀ x c, X.env.cells.lookup x = some c → c ≠ b
  bs : ∀ b o, X.base.get? b = some o → X.s₀.heap.get? b = some o ∧ X.H₀ b = none
  bsz : X.base.objs.size ≤ X.s₀.heap.objs.size
  noex : ∀ b o, X.base.get? b = some o → b ∉ X.ex
  exfs : ∀ b ∈ X.ex, b ∉ X.fs
  funs : X.s₀.heap.FunFrames X.base X.outer
  frf : ∀ b ∈ X.fs, X.H₀ b = none

structure Inv (X : Cx) (pins : List (Addr × Obj)) (σ : List (Option V)) (H : Hp) (s : Shared) : Prop where
  ok : X.Ok
  os : s.os = X.s₀.os
  bare : AllBare s.gens
  base : Un X.fs X.ex X.H₀ H X.s₀.heap s.heap
  loc : ∃ m, s.heap.Ns X.env.locals m ∧ ∀ (i : Nat) (x : Str) (v : V), X.N[i]? = some x → σ[i]? = some (some v) → Vis X.env.scope x → ∃ u, RelV v u ∧ Look X.env s.heap m x u
  cell : ∀ x c, X.env.cells.lookup x = some c → ∃ v, s.heap.IsCell c v
  free : H X.env.locals = none
  freeC : ∀ x c, X.env.cells.lookup x = some c → H c = none
  pin : ∀ p ∈ X.pn ++ pins, s.heap.get? p.1 = some p.2 ∧ H p.1 = none ∧ p.1 ≠ X.env.locals ∧ p.1 ∉ X.fs ∧ ∀ v, p.2.data ≠ .cell v
  hok : HOk X.prog X.w H s.heap
  len : σ.length = X.N.length

section
variable {X : Cx} {pins : List (Addr × Obj)} {σ : List (Option V)} {H H' : Hp} {s : Shared} {h' : Heap}

theorem Cx.Ok.nofr (ok : X.Ok) {b : Addr} {o : Obj} (e : X.base.get? b = some o) : b ∉ X.fs := fun hb => by
  have := (ok.funs.mem hb).1
  rw [e] at this; cases this
theorem Inv.bs (I : Inv X pins σ H s) : ∀ b o, X.base.get? b = some o → s.heap.get? b = some o ∧ H b = none := fun b o e =>
  ⟨I.base.keep b o (I.ok.bs b o e).1 (I.ok.bs b o e).2 (I.ok.nofr e) (I.ok.noex b o e), I.base.free b o (I.ok.bs b o e).1 (I.ok.bs b o e).2 (I.ok.noex b o e)⟩
theorem Inv.bk (I : Inv X pins σ H s) : ∀ b o, X.base.get? b = some o → s.heap.get? b = some o := fun b o e => (I.bs b o e).1
theorem Inv.mod (I : Inv X pins σ H s) : Mod X.K X.mg X.base := I.ok.mod
theorem Inv.kIn (I : Inv X pins σ H s) : X.K.In s.heap := I.ok.mod.kin.keeps I.bk
theorem Inv.lt (I : Inv X pins σ H s) : X.env.locals < s.heap.objs.size := let ⟨_, hn, _⟩ := I.loc; hn.lt
theorem Inv.sz (I : Inv X pins σ H s) : X.s₀.heap.objs.size ≤ s.heap.objs.size := Nat.le_trans I.ok.above (Nat.le_of_lt I.lt)
theorem Inv.nofs (I : Inv X pins σ H s) {a : Addr} (h : s.heap.objs.size ≤ a) : a ∉ X.fs := fun hb => by
  obtain ⟨_, o, ho, _⟩ := I.ok.funs.mem hb
  exact absurd (Nat.lt_of_lt_of_le (Heap.lt_size ho) (Nat.le_trans I.sz h)) (Nat.lt_irrefl _)
theorem Inv.cne (I : Inv X pins σ H s) : ∀ x c, X.env.cells.lookup x = some c → c ≠ X.env.locals := fun x c e z => by
  obtain ⟨v, o, ho, hd⟩ := I.cell x c e
  obtain ⟨m, ⟨o', es, ep, ho', hd', _⟩, _⟩ := I.loc
  rw [z, ho'] at ho; cases ho; rw [hd'] at hd; cases hd
theorem Inv.funs (I : Inv X pins σ H s) : s.heap.FunFrames X.base X.outer := by
  have all : ∀ (l : List Env), (∀ b ∈ frs l, b ∈ X.fs) → X.s₀.heap.FunFrames X.base l → s.heap.FunFrames X.base l := by
    intro l
    induction l with
    | nil => intro _ _; trivial
    | cons env r ih =>
      intro hs hl
      obtain ⟨hk, ⟨L, o, hf, hn, ho, hd⟩, hr⟩ := hl
      have hL : L ∈ X.fs := hs L (by unfold frs; rw [List.filterMap_cons, hf]; exact List.mem_cons_self)
      obtain ⟨sl, e⟩ := I.base.slot L o ho (I.ok.frf L hL) hL fun z => I.ok.exfs L z hL
      exact ⟨hk, ⟨L, _, hf, hn, e, hd⟩, ih (fun b hb => hs b (by unfold frs; rw [List.filterMap_cons, hf]; exact List.mem_cons_of_mem _ hb)) hr⟩
  exact all X.outer (fun _ hb => hb) I.ok.funs

theorem Inv.stack (I : Inv X pins σ H s) : s.heap.FunFrames X.base X.stack := by
  rcases I.ok.stk with e | ⟨e, hf⟩
  · rw [e]; exact I.funs
  · rw [e]
    obtain ⟨m, hn, _⟩ := I.loc
    refine .cons (by rw [I.ok.kind]; decide) hf hn ?_ I.funs
    exact Heap.get?_none_of_le (Nat.le_trans I.ok.bsz I.ok.above)
theorem Inv.stkSub (I : Inv X pins σ H s) : ∀ b ∈ frs X.stack, b ∈ X.env.locals :: X.fs := fun b hb => by
  rcases I.ok.stk with e | ⟨e, hf⟩
  · rw [e] at hb; exact List.mem_cons_of_mem _ hb
  · rw [e] at hb
    unfold frs at hb
    rw [List.filterMap_cons, hf] at hb
    exact hb
theorem Inv.stkFree (I : Inv X pins σ H s) : ∀ b ∈ frs X.stack, H b = none := fun b hb => by
  rcases List.mem_cons.mp (I.stkSub b hb) with e | hb
  · rw [e]; exact I.free
  · obtain ⟨_, o, ho, _⟩ := I.ok.funs.mem hb
    exact I.base.free b o ho (I.ok.frf b hb) fun z => I.ok.exfs b z hb

theorem Inv.step {g' : Array GenState} {t' : Nat} {d' : Drawn} {ch : List Addr} (I : Inv X pins σ H s)
    (hch : ∀ b ∈ ch, (b ∈ X.ex ∨ X.s₀.heap.objs.size ≤ b) ∧ b ≠ X.env.locals ∧ (∀ x c, X.env.cells.lookup x = some c → c ≠ b) ∧ ∀ p ∈ X.pn ++ pins, p.1 ≠ b)
    (keep : ∀ b o, b ≠ X.env.locals → b ∉ X.fs → b ∉ ch → s.heap.get? b = some o → H b = none → h'.get? b = some o)
    (slot : ∀ b o, b ≠ X.env.locals → b ∈ X.fs → b ∉ ch → s.heap.get? b = some o → H b = none → ∃ sl, h'.get? b = some { o with slots := sl }) (free : ∀ b o, b ∉ ch → s.heap.get? b = some o → H b = none → H' b = none)
    (there : ∀ b o, b ∉ ch → s.heap.get? b = some o → ∃ o', h'.get? b = some o')
    (tups : ∀ b xs, H b = some (.tup xs) → H' b = some (.tup xs)) (frzs : ∀ b o u, H b = some (.frz o u) → H' b = some (.frz o u)) (tbls : ∀ b ps, H b = some (.tbl ps) → ∃ more, H' b = some (.tbl (ps ++ more)))
    (ns : ∀ m, s.heap.Ns X.env.locals m → h'.Ns X.env.locals m) (hok : HOk X.prog X.w H' h') (hg : AllBare g') :
    Inv X pins σ H' { s with heap := h', gens := g', drawn := d', toks := t' } := by
  have neL : ∀ b o, X.s₀.heap.get? b = some o → b ≠ X.env.locals := fun b o e => Nat.ne_of_lt (Nat.lt_of_lt_of_le (Heap.lt_size e) I.ok.above)
  have neC : ∀ b o, X.s₀.heap.get? b = some o → b ∉ X.ex → b ∉ ch := fun b o e hx hb => by
    rcases (hch b hb).1 with z | z
    · exact hx z
    · exact absurd (Nat.lt_of_lt_of_le (Heap.lt_size e) z) (Nat.lt_irrefl _)
  have cellK : ∀ x c, X.env.cells.lookup x = some c → ∀ v, s.heap.IsCell c v → h'.IsCell c v := fun x c e v ⟨o, ho, hd⟩ => by
    have nch : c ∉ ch := fun z => (hch c z).2.2.1 x c e rfl
    by_cases hc : c ∈ X.fs
    · obtain ⟨sl, q⟩ := slot c o (I.cne x c e) hc nch ho (I.freeC x c e)
      exact ⟨_, q, hd⟩
    · exact ⟨o, keep c o (I.cne x c e) hc nch ho (I.freeC x c e), hd⟩
  refine ⟨I.ok, I.os, hg, ⟨fun b o e n hb hx => ?_, fun b o e n hb hx => ?_, fun b o e n hx => ?_, fun b o e hx => ?_, fun b xs e => tups b xs (I.base.tups b xs e), fun b o xs e => frzs b o xs (I.base.frzs b o xs e), fun b ps e => ?_⟩, ?_, fun x c e => ?_, ?_, fun x c e => ?_, fun p hp => ?_, hok, I.len⟩
  · exact keep b o (neL b o e) hb (neC b o e hx) (I.base.keep b o e n hb hx) (I.base.free b o e n hx)
  · obtain ⟨sl, e1⟩ := I.base.slot b o e n hb hx
    obtain ⟨sl', e2⟩ := slot b _ (neL b o e) hb (neC b o e hx) e1 (I.base.free b o e n hx)
    exact ⟨sl', e2⟩
  · obtain ⟨o', e1⟩ := I.base.there b o e hx
    exact free b o' (neC b o e hx) e1 (I.base.free b o e n hx)
  · obtain ⟨o', e1⟩ := I.base.there b o e hx
    exact there b o' (neC b o e hx) e1
  · obtain ⟨m1, e1⟩ := I.base.tbls b ps e
    obtain ⟨m2, e2⟩ := tbls b _ e1
    exact ⟨m1 ++ m2, by rw [e2, Array.append_assoc]⟩
  · obtain ⟨m, hn, hl⟩ := I.loc
    refine ⟨m, ns m hn, fun i x v e1 e2 e3 => ?_⟩
    obtain ⟨u, r, l⟩ := hl i x v e1 e2 e3
    refine ⟨u, r, ?_⟩
    rcases l with l | ⟨k, c, e, z⟩
    · exact .inl l
    · exact .inr ⟨k, c, e, cellK x c e _ z⟩
  · obtain ⟨v, z⟩ := I.cell x c e
    exact ⟨v, cellK x c e v z⟩
  · obtain ⟨m, ⟨o, _, _, ho, _⟩, _⟩ := I.loc
    exact free _ o (fun z => (hch _ z).2.1 rfl) ho I.free
  · obtain ⟨v, o, ho, hd⟩ := I.cell x c e
    exact free c o (fun z => (hch c z).2.2.1 x c e rfl) ho (I.freeC x c e)
  · obtain ⟨e, n, ne, nf, d⟩ := I.pin p hp
    have nch : p.1 ∉ ch := fun z => (hch p.1 z).2.2.2 p hp rfl
    exact ⟨keep p.1 p.2 ne nf nch e n, free p.1 p.2 nch e n, ne, nf, d⟩
theorem Inv.un {t' : Nat} (I : Inv X pins σ H s) (u : Un X.fs [] H H' s.heap h') (hok : HOk X.prog X.w H' h') : Inv X pins σ H' { s with heap := h', toks := t' } := by
  obtain ⟨m, ⟨o, es, ep, ho, r⟩, _⟩ := id I.loc
  obtain ⟨sl, hL⟩ := u.any ho I.free (by simp)
  exact I.step (g' := s.gens) (d' := s.drawn) (ch := []) (fun _ z => nomatch z) (fun b o _ hb _ e n => u.keep b o e n hb (by simp)) (fun b o _ hb _ e n => u.slot b o e n hb (by simp)) (fun b o _ e n => u.free b o e n (by simp)) (fun b o _ e => u.there b o e (by simp)) u.tups u.frzs u.tbls (fun m' hm => by
    obtain ⟨o', es', ep', ho', r'⟩ := hm
    rw [ho] at ho'; cases ho'
    exact ⟨_, es', ep', hL, r'⟩) hok I.bare
theorem Inv.call {g' : Array GenState} {t' : Nat} {d' : Drawn} {ch : List Addr} (I : Inv X pins σ H s) (u : Un (frs X.stack) ch H H' s.heap h') (hok : HOk X.prog X.w H' h') (hg : AllBare g')
    (hch : ∀ b ∈ ch, (b ∈ X.ex ∨ X.s₀.heap.objs.size ≤ b) ∧ b ≠ X.env.locals ∧ (∀ x c, X.env.cells.lookup x = some c → c ≠ b) ∧ ∀ p ∈ X.pn ++ pins, p.1 ≠ b) :
    Inv X pins σ H' { s with heap := h', gens := g', drawn := d', toks := t' } := by
  obtain ⟨m, ⟨o, es, ep, ho, r⟩, _⟩ := id I.loc
  obtain ⟨sl, hL⟩ := u.any ho I.free fun z => (hch _ z).2.1 rfl
  exact I.step (ch := ch) hch (fun b o hL hb hc e n => u.keep b o e n (fun z => (List.mem_cons.mp (I.stkSub b z)).elim hL hb) hc) (fun b o _ _ hc e n => u.any e n hc) (fun b o hc e n => u.free b o e n hc) (fun b o hc e => u.there b o e hc) u.tups u.frzs u.tbls (fun m' hm => by
    obtain ⟨o', es', ep', ho', r'⟩ := hm
    rw [ho] at ho'; cases ho'
    exact ⟨_, es', ep', hL, r'⟩) hok hg
theorem Inv.turned {t' : Nat} {it : Addr} (I : Inv X pins σ H s) (k : ∀ b o, b ≠ it → s.heap.get? b = some o → h'.get? b = some o) (hn : H it = none) (hL : it ≠ X.env.locals)
    (h1 : it ∈ X.ex ∨ X.s₀.heap.objs.size ≤ it) (h2 : ∀ x c, X.env.cells.lookup x = some c → c ≠ it) (h3 : ∀ p ∈ X.pn ++ pins, p.1 ≠ it) : Inv X pins σ H { s with heap := h', toks := t' } := by
  have nit : ∀ b u, H b = some u → b ≠ it := fun b u e z => by rw [z, hn] at e; cases e
  refine I.step (g' := s.gens) (d' := s.drawn) (ch := [it]) (fun b hb => ?_) (fun b o _ _ hc e _ => k b o (fun z => hc (by simp [z])) e) (fun b o _ _ hc e _ => ⟨o.slots, k b o (fun z => hc (by simp [z])) e⟩) (fun _ _ _ _ n => n)
    (fun b o hc e => ⟨o, k b o (fun z => hc (by simp [z])) e⟩) (fun _ _ e => e) (fun _ _ _ e => e) (fun b ps e => ⟨#[], by rw [e]; simp⟩) (fun m hm => ?_) (fun b u e => ?_) I.bare
  · have e : b = it := by simpa using hb
    subst e
    exact ⟨h1, hL, h2, h3⟩
  · obtain ⟨o, es, ep, ho, r⟩ := hm
    exact ⟨o, es, ep, k _ o (Ne.symm hL) ho, r⟩
  · refine (I.hok b u e).stay (fun c v hc q => k c v ?_ q) (fun _ q => q) fun _ _ q => q
    rcases hc with z | z
    · rw [z]; exact nit b u e
    · exact nit c _ z
theorem Inv.tok (I : Inv X pins σ H s) (t : Nat) : Inv X pins σ H { s with toks := t } := I.un (h' := s.heap) (t' := t) Un.refl I.hok
theorem Inv.kept {t' : Nat} (I : Inv X pins σ H s) (k : ∀ b u, s.heap.get? b = some u → h'.get? b = some u) : Inv X pins σ H { s with heap := h', toks := t' } := I.un (Un.kept k) (I.hok.kept k)
theorem Inv.laid {a : Addr} {o : HO} {t' : Nat} (I : Inv X pins σ H s) (k : ∀ b u, s.heap.get? b = some u → h'.get? b = some u) (hp : s.heap.objs.size ≤ a) (new : ObjOk X.prog X.w (upd H a o) h' a o) :
    Inv X pins σ (upd H a o) { s with heap := h', toks := t' } := I.un (Un.laid k hp (I.hok.fresh hp)) (I.hok.laid k hp new)
theorem Inv.write {x e : Addr} {o : HO} {t' : Nat} (I : Inv X pins σ H s) (mu : Mut (H x)) (he : e = x ∨ H e = some (.own x)) (k : ∀ b u, b ≠ e → s.heap.get? b = some u → h'.get? b = some u) (heo : ∃ u, h'.get? e = some u)
    (new : ObjOk X.prog X.w (upd H x o) h' x o) : Inv X pins σ (upd H x o) { s with heap := h', toks := t' } := I.un (Un.write mu he k heo) (I.hok.write mu he k heo new)
theorem Inv.pins_of {pins' : List (Addr × Obj)} (I : Inv X pins σ H s) (h : ∀ p ∈ pins', s.heap.get? p.1 = some p.2 ∧ H p.1 = none ∧ p.1 ≠ X.env.locals ∧ p.1 ∉ X.fs ∧ ∀ v, p.2.data ≠ .cell v) : Inv X pins' σ H s :=
  ⟨I.ok, I.os, I.bare, I.base, I.loc, I.cell, I.free, I.freeC, fun p hp => (List.mem_append.mp hp).elim (fun z => I.pin p (List.mem_append_left _ z)) (h p), I.hok, I.len⟩

theorem nodup_ix {N : List Str} (hN : N.Nodup) {i j : Nat} {x : Str} (a : N[i]? = some x) (b : N[j]? = some x) : i = j := by
  obtain ⟨h1, e1⟩ := List.getElem?_eq_some_iff.mp a
  obtain ⟨h2, e2⟩ := List.getElem?_eq_some_iff.mp b
  exact (List.getElem_inj hN).mp (e1.trans e2.symm)

theorem store_ok2 {M : Model} {A : Around} {E : Value → Shared → Prop} {i : Nat} {x : Str} {v : V} {u : Value} {Q : Unit → Shared → Prop} (I : Inv X pins σ H s) (hN : X.N.Nodup) (hi : X.N[i]? = some x) (hx : Loc X.env.scope x) (r : RelV v u)
    (h : ∀ s', Inv X pins (σ.set i (some v)) H s' → (∃ a, Heap.SameBut a s.heap s'.heap ∧ (a = X.env.locals ∨ X.env.cells.lookup x = some a)) → Q () s') (hf : X.fn x = true ∨ X.env.scope.names.lookup x = some .local := by first | exact .inl rfl | exact .inr rfl | assumption) : wpAny M A (storeName X.env x u) Q E s := by
  obtain ⟨m, hn, hl⟩ := id I.loc
  have hcls : (X.env.scope.kind == .class || (X.env.scope.kind == .module && X.env.locals != X.env.globals)) = false := by rw [I.ok.kind]; rfl
  have hiσ : i < σ.length := by rw [I.len]; exact (List.getElem?_eq_some_iff.mp hi).1
  have cne := I.cne
  have tracked : ∀ {a : Addr} {h' : Heap}, (∃ o, s.heap.get? a = some o ∧ H a = none) → Heap.SameBut a s.heap h' → HOk X.prog X.w H h' := fun {a h'} ha hs b ob e => by
    obtain ⟨_, _, hfree⟩ := ha
    refine (I.hok b ob e).stay (fun c w' hc q => (hs.2 c ?_).trans q) (fun _ q => q) fun _ _ q => q
    rintro rfl
    rcases hc with rfl | hc
    · rw [hfree] at e; cases e
    · rw [hfree] at hc; cases hc
  rcases hx with hk | hk
  · refine wpAny_storeName_local hk hn (fun h' hn' hs => ?_) hcls
    obtain ⟨oL, _, _, hoL, _⟩ := id hn
    refine h _ ⟨I.ok, I.os, I.bare, ⟨fun b o e n hb hx => ?_, fun b o e n hb hx => ?_, I.base.free, fun b o e hx => ?_, I.base.tups, I.base.frzs, I.base.tbls⟩, ⟨_, hn', fun j y v' e1 e2 e3 => ?_⟩, fun y c e => ?_, I.free, I.freeC, fun p hp => ?_, tracked ⟨oL, hoL, I.free⟩ hs, by simpa using I.len⟩ ⟨_, hs, .inl rfl⟩
    · exact (hs.2 b (Nat.ne_of_lt (Nat.lt_of_lt_of_le (Heap.lt_size e) I.ok.above))).trans (I.base.keep b o e n hb hx)
    · obtain ⟨sl, e1⟩ := I.base.slot b o e n hb hx
      exact ⟨sl, (hs.2 b (Nat.ne_of_lt (Nat.lt_of_lt_of_le (Heap.lt_size e) I.ok.above))).trans e1⟩
    · obtain ⟨o', e1⟩ := I.base.there b o e hx
      exact ⟨o', (hs.2 b (Nat.ne_of_lt (Nat.lt_of_lt_of_le (Heap.lt_size e) I.ok.above))).trans e1⟩
    · by_cases hj : j = i
      · subst hj
        rw [hi] at e1; cases e1
        rw [List.getElem?_set_self hiσ] at e2
        cases e2
        exact ⟨u, r, .inl ⟨hk, by simp⟩⟩
      · rw [List.getElem?_set_ne (Ne.symm hj)] at e2
        obtain ⟨u', r', q⟩ := hl j y v' e1 e2 e3
        refine ⟨u', r', ?_⟩
        rcases q with ⟨k, e⟩ | ⟨k, c, e, z⟩
        · refine .inl ⟨k, ?_⟩
          have : y ≠ x := fun e => hj (nodup_ix hN e1 (e ▸ hi))
          simp [this, e]
        · exact .inr ⟨k, c, e, z.sameBut hs (cne y c e)⟩
    · obtain ⟨w', z⟩ := I.cell y c e
      exact ⟨w', z.sameBut hs (cne y c e)⟩
    · obtain ⟨e, n, ne, nf, d⟩ := I.pin p hp
      exact ⟨(hs.2 p.1 ne).trans e, n, ne, nf, d⟩
  · have hfn : X.fn x = true := by
      rcases hf with z | z
      · exact z
      · rw [z] at hk; cases hk
    obtain ⟨c, hc⟩ := I.ok.has x (.inl hk)
    obtain ⟨w', z⟩ := I.cell x c hc
    refine wpAny_storeName_cell I.ok.kind hk hc z (fun h' hc' hs => ?_)
    obtain ⟨oc, hoc, hocd⟩ := id z
    refine h { s with heap := h' } ⟨I.ok, I.os, I.bare, ⟨fun b o e n hb hx => ?_, fun b o e n hb hx => ?_, I.base.free, fun b o e hx => ?_, I.base.tups, I.base.frzs, I.base.tbls⟩, ⟨m, hn.sameBut hs (Ne.symm (cne x c hc)), fun j y v' e1 e2 e3 => ?_⟩, fun y c' e => ?_, I.free, I.freeC, fun p hp => ?_, tracked ⟨oc, hoc, I.freeC x c hc⟩ hs, by simpa using I.len⟩ ⟨c, hs, .inr hc⟩
    · exact (hs.2 b (Nat.ne_of_lt (Nat.lt_of_lt_of_le (Heap.lt_size e) (I.ok.cab x c hfn hc)))).trans (I.base.keep b o e n hb hx)
    · obtain ⟨sl, e1⟩ := I.base.slot b o e n hb hx
      exact ⟨sl, (hs.2 b (Nat.ne_of_lt (Nat.lt_of_lt_of_le (Heap.lt_size e) (I.ok.cab x c hfn hc)))).trans e1⟩
    · obtain ⟨o', e1⟩ := I.base.there b o e hx
      exact ⟨o', (hs.2 b (Nat.ne_of_lt (Nat.lt_of_lt_of_le (Heap.lt_size e) (I.ok.cab x c hfn hc)))).trans e1⟩
    · by_cases hj : j = i
      · subst hj
        rw [hi] at e1; cases e1
        rw [List.getElem?_set_self hiσ] at e2
        cases e2
        exact ⟨u, r, .inr ⟨.inl hk, c, hc, hc'⟩⟩
      · rw [List.getElem?_set_ne (Ne.symm hj)] at e2
        obtain ⟨u', r', q⟩ := hl j y v' e1 e2 e3
        refine ⟨u', r', ?_⟩
        rcases q with q | ⟨k, c', e, z'⟩
        · exact .inl q
        · refine .inr ⟨k, c', e, z'.sameBut hs ?_⟩
          rintro rfl
          exact hj (nodup_ix hN e1 (I.ok.inj _ _ _ e hc ▸ hi))
    · by_cases hcc : c' = c
      · subst hcc; exact ⟨_, hc'⟩
      · obtain ⟨w2, z2⟩ := I.cell y c' e
        exact ⟨w2, z2.sameBut hs hcc⟩
    · obtain ⟨e, n, ne, nf, d⟩ := I.pin p hp
      refine ⟨(hs.2 p.1 ?_).trans e, n, ne, nf, d⟩
      intro q
      rw [q, hoc] at e
      have q' : oc = p.2 := Option.some.inj e
      exact d w' (by rw [← q']; exact hocd)
theorem store_ok {M : Model} {A : Around} {E : Value → Shared → Prop} {i : Nat} {x : Str} {v : V} {u : Value} {Q : Unit → Shared → Prop} (I : Inv X pins σ H s) (hN : X.N.Nodup) (hi : X.N[i]? = some x) (hx : Loc X.env.scope x) (r : RelV v u)
    (h : ∀ s', Inv X pins (σ.set i (some v)) H s' → Q () s') (hf : X.fn x = true ∨ X.env.scope.names.lookup x = some .local := by first | exact .inl rfl | exact .inr rfl | assumption) : wpAny M A (storeName X.env x u) Q E s :=
  store_ok2 I hN hi hx r (fun s' I' _ => h s' I') hf
theorem Inv.call' {s' : Shared} {ch : List Addr} (I : Inv X pins σ H s) (ho : s'.os = s.os) (u : Un (frs X.stack) ch H H' s.heap s'.heap) (hok : HOk X.prog X.w H' s'.heap) (hg : AllBare s'.gens)
    (hch : ∀ b ∈ ch, (b ∈ X.ex ∨ X.s₀.heap.objs.size ≤ b) ∧ b ≠ X.env.locals ∧ (∀ x c, X.env.cells.lookup x = some c → c ≠ b) ∧ ∀ p ∈ X.pn ++ pins, p.1 ≠ b) : Inv X pins σ H' s' := by
  obtain ⟨h', g', d', t', o'⟩ := s'
  have e : o' = s.os := ho
  subst e
  exact I.call (g' := g') (t' := t') (d' := d') u hok hg hch
end

noncomputable abbrev XK := Value → Option Addr → Hp → Prop
noncomputable abbrev St := List (Option V)
noncomputable abbrev VK := V → Hp → Prop
noncomputable abbrev TE := St → Hp → VK → Prop
noncomputable abbrev TT := St → Hp → (Bool → Hp → Prop) → Prop
noncomputable abbrev TA := St → Hp → (List V → Hp → Prop) → Prop
structure Ends where
  nx : St → Hp → Prop
  rt : VK
  bk : St → Hp → Prop := fun _ _ => False
  ct : St → Hp → Prop := fun _ _ => False
noncomputable abbrev TS := Ends → St → Hp → Prop

noncomputable def EP (X : Cx) (pins : List (Addr × Obj)) (σ : St) (Q : VK) (u : Value) (s' : Shared) : Prop := ∃ v H', Inv X pins σ H' s' ∧ RelV v u ∧ Q v H'
noncomputable def TP (X : Cx) (pins : List (Addr × Obj)) (σ : St) (Q : Bool → Hp → Prop) (b : Bool) (s' : Shared) : Prop := ∃ H', Inv X pins σ H' s' ∧ Q b H'
noncomputable def AP (X : Cx) (pins : List (Addr × Obj)) (σ : St) (Q : List V → Hp → Prop) (us : List Value) (s' : Shared) : Prop := ∃ vs H', Inv X pins σ H' s' ∧ Vals vs us ∧ Q vs H'
noncomputable def SP (X : Cx) (pins : List (Addr × Obj)) (D : Ends) (f : Flow) (s' : Shared) : Prop :=
  match f with
  | .next => ∃ σ' H', Inv X pins σ' H' s' ∧ D.nx σ' H'
  | .brk => ∃ σ' H', Inv X pins σ' H' s' ∧ D.bk σ' H'
  | .cont => ∃ σ' H', Inv X pins σ' H' s' ∧ D.ct σ' H'
  | .ret u => ∃ v σ' H', Inv X pins σ' H' s' ∧ RelV v u ∧ D.rt v H'

noncomputable def PE (X : Cx) (e : Expr) (t : TE) : Prop :=
  ∀ (pins : List (Addr × Obj)) (s : Shared) (σ : St) (H : Hp) (Q : VK), Inv X pins σ H s → t σ H Q → wpAny (model X.prog X.w) X.A (eval e X.env) (EP X pins σ Q) X.xe s
noncomputable def PT (X : Cx) (e : Expr) (t : TT) : Prop :=
  ∀ (pins : List (Addr × Obj)) (s : Shared) (σ : St) (H : Hp) (Q : Bool → Hp → Prop), Inv X pins σ H s → t σ H Q → wpAny (model X.prog X.w) X.A (isTrue e X.env (eval e X.env)) (TP X pins σ Q) X.xe s
noncomputable def PW (X : Cx) (e : Expr) (t : TT) : Prop :=
  ∀ (whole : Sem Value) (pins : List (Addr × Obj)) (s : Shared) (σ : St) (H : Hp) (Q : Bool → Hp → Prop), Inv X pins σ H s → t σ H Q → wpAny (model X.prog X.w) X.A (isTrue e X.env whole) (TP X pins σ Q) X.xe s
theorem PW.pt {X : Cx} {e : Expr} {t : TT} (h : PW X e t) : PT X e t := h _
noncomputable def PA (X : Cx) (es : List Expr) (t : TA) : Prop :=
  ∀ (pos : Pos) (pins : List (Addr × Obj)) (s : Shared) (σ : St) (H : Hp) (Q : List V → Hp → Prop), Inv X pins σ H s → t σ H Q → wpAny (model X.prog X.w) X.A (spliced (backTo pos (starEach es X.env))) (AP X pins σ Q) X.xe s
noncomputable def PS (X : Cx) (st : Stmt) (t : TS) : Prop :=
  ∀ (pins : List (Addr × Obj)) (s : Shared) (σ : St) (H : Hp) (D : Ends), Inv X pins σ H s → t D σ H → wpAny (model X.prog X.w) X.A (exec st X.env) (SP X pins D) X.xe s
noncomputable def PSs (X : Cx) (st : List Stmt) (t : TS) : Prop :=
  ∀ (pins : List (Addr × Obj)) (s : Shared) (σ : St) (H : Hp) (D : Ends), Inv X pins σ H s → t D σ H → wpAny (model X.prog X.w) X.A (execs st X.env) (SP X pins D) X.xe s
theorem thn {α : Type} {t : Sem α} {Q Q' : α → Shared → Prop} {M : Model} {A : Around} {E : Value → Shared → Prop} {s : Shared} (h : wpAny M A t Q E s) (hQ : ∀ a s, Q a s → Q' a s) : wpAny M A t Q' E s := wpAny_mono h hQ fun _ _ x => x
end L2

namespace L2
open PySem PySem.Spec PyProof.Rows
section
variable {X : Cx}


inductive TVar (i : Nat) (σ : St) (H : Hp) (Q : VK) : Prop
  | mk (v : V) (e : σ[i]? = some (some v)) (q : Q v H) : TVar i σ H Q
noncomputable def tVar (i : Nat) : TE := fun σ H Q => TVar i σ H Q
noncomputable def tC (v : V) : TE := fun _ H Q => Q v H
theorem pe_var {i : Nat} {x : Str} {pos : Pos} (hN : X.N[i]? = some x) (hv : Vis X.env.scope x) (hd : (x == ("__debug__" : Str)) = false := by decide) (hcd : (x == ("__classdict__" : Str)) = false := by decide) : PE X (.Name x pos) (tVar i) := by
  intro pins s σ H Q I h
  obtain ⟨v, e, h⟩ := h
  obtain ⟨m, hn, hl⟩ := I.loc
  obtain ⟨u, r, l⟩ := hl i x v hN e hv
  have fin : EP X pins σ Q u s := ⟨v, H, I, r, h⟩
  rcases l with ⟨hk, hm⟩ | ⟨hk, c, hc, hcell⟩
  · exact wpAny_Name (wpAny_loadName_local I.ok.kind hk hn hm fin) hd
  · rcases hk with hk | hk
    · exact wpAny_Name (wpAny_loadName_cell I.ok.kind hk hc hcell fin) hd
    · exact wpAny_Name (wpAny_loadName_free I.ok.kind hk hc hcell fin hcd) hd
theorem pe_int {i j pos} : PE X (.Constant (.int i) j pos) (tC (.int i)) := fun _ _ _ H _ I h => wpAny_Constant_int ⟨.int i, H, I.tok _, ⟨_, rfl⟩, h⟩
theorem pe_bl {b j pos} : PE X (.Constant (.bool b) j pos) (tC (.bl b)) := fun _ _ _ H _ I h => Constant_bool ⟨.bl b, H, I, rfl, h⟩
theorem pe_non {j pos} : PE X (.Constant .none j pos) (tC .non) := fun _ _ _ H _ I h => Constant_none ⟨.non, H, I, rfl, h⟩
theorem pe_str {x j pos} : PE X (.Constant (.str x) j pos) (tC (.str x)) := fun _ _ _ H _ I h => Calls.Constant_str ⟨.str x, H, I.tok _, ⟨_, rfl⟩, h⟩

noncomputable def Gl (X : Cx) (x : Str) : Prop := X.env.kindOf x = some .globalImplicit
theorem ld_glob {E : Value → Shared → Prop} {pins : List (Addr × Obj)} {s : Shared} {σ : St} {H : Hp} {x : Str} {u : Value} {pos : Pos} {Q : Value → Shared → Prop} (I : Inv X pins σ H s) (hg : Gl X x) (hm : X.mg x = some u) (h : Q u s)
    (hd : (x == ("__debug__" : Str)) = false := by decide) : wpAny (model X.prog X.w) X.A (eval (.Name x pos) X.env) Q E s :=
  Calls.Name_function_global I.ok.kind hg (Calls.loadGlobal_global (by rw [I.ok.glob]; exact I.mod.glob.keeps I.bk) hm h) hd
theorem ld_blt {E : Value → Shared → Prop} {pins : List (Addr × Obj)} {s : Shared} {σ : St} {H : Hp} {x : Str} {u : Value} {pos : Pos} {Q : Value → Shared → Prop} (I : Inv X pins σ H s) (hg : Gl X x) (hm : X.mg x = none) (hv : bootBuiltins x = some u) (h : Q u s)
    (hn : x ≠ "__name__" := by decide) (hd : (x == ("__debug__" : Str)) = false := by decide) : wpAny (model X.prog X.w) X.A (eval (.Name x pos) X.env) Q E s := by
  obtain ⟨mb, h1, h2⟩ := I.mod.blt
  exact Calls.Name_function_global I.ok.kind hg (Calls.loadGlobal_builtin (by rw [I.ok.glob]; exact I.mod.glob.keeps I.bk) hm (by rw [I.ok.blt]; exact h1.keeps I.bk) ((h2 x hn).trans hv) h) hd
theorem pe_glob {x : Str} {v : V} {u : Value} {pos : Pos} (hg : Gl X x) (hm : X.mg x = some u) (r : RelV v u) (hd : (x == ("__debug__" : Str)) = false := by decide) : PE X (.Name x pos) (tC v) :=
  fun _ _ _ H _ I h => ld_glob I hg hm ⟨v, H, I, r, h⟩ hd
theorem pe_bltn {x : Str} {v : V} {u : Value} {pos : Pos} (hg : Gl X x) (hm : X.mg x = none) (hv : bootBuiltins x = some u) (r : RelV v u) (hn : x ≠ "__name__" := by decide) (hd : (x == ("__debug__" : Str)) = false := by decide) : PE X (.Name x pos) (tC v) :=
  fun _ _ _ H _ I h => ld_blt I hg hm hv ⟨v, H, I, r, h⟩ hn hd

variable {a b : Expr} {ta tb : TE} {pos : Pos}

noncomputable def PC (X : Cx) (op : CmpOp) (a b : Expr) (t : TE) : Prop :=
  ∀ (pins : List (Addr × Obj)) (s : Shared) (σ : St) (H : Hp) (Q : VK), Inv X pins σ H s → t σ H Q →
    wpAny (model X.prog X.w) X.A (eval a X.env) (fun v s₁ => wpAny (model X.prog X.w) X.A (eval b X.env) (fun u s₂ => wpAny (model X.prog X.w) X.A (compareOp op v u) (EP X pins σ Q) X.xe s₂) X.xe s₁) X.xe s
inductive J_tB (Q : Bool → Hp → Prop) (x : V) (H1 : Hp) : Prop
  | mk : ∀ c, (x = .bl c) → (Q c H1) → J_tB Q x H1
noncomputable def tB (t : TE) : TT := fun σ H Q => t σ H fun x H1 => J_tB Q x H1
theorem pe_cmp {op : CmpOp} {t : TE} (h : PC X op a b t) (h1 : behindInMarks op b = false := by first | exact nobehind _ (by decide) (by decide) | rfl) : PE X (.Compare a [op] [b] pos) t := fun pins s σ H Q I hw => wpAny_Compare1 (h pins s σ H Q I hw) h1
theorem pt_cmp {op : CmpOp} {t : TE} (h : PC X op a b t) (h1 : behindInMarks op b = false := by first | exact nobehind _ (by decide) (by decide) | rfl) : PT X (.Compare a [op] [b] pos) (tB t) := by
  intro pins s σ H Q I hw
  refine wpAny_isTrue_Compare1 (thn (h pins s σ H _ I hw) fun v s1 h1 => thn h1 fun u s2 h2 => thn h2 fun c s3 ⟨x, H1, I1, r1, q1⟩ => ?_) h1
  obtain ⟨d, rfl, q⟩ := q1
  cases r1
  exact wpAny_truthy_bool ⟨H1, I1, q⟩
theorem pt_val {e : Expr} {t : TE} (h : PE X e t) (he : ∀ whole, isTrue e X.env whole = (do let v ← whole; standAt e.pos; holding [v] (truthy v)) := by intro _; rfl) : PT X e (tB t) := by
  intro pins s σ H Q I hw
  refine isTrue_plain (thn (h pins s σ H _ I hw) fun v s1 ⟨x, H1, I1, r1, q1⟩ => ?_) (he _)
  obtain ⟨d, rfl, q⟩ := q1
  cases r1
  exact wpAny_truthy_bool ⟨H1, I1, q⟩

variable {tA tB' : TT} {rest : List Expr}
noncomputable def tAnd (t u : TT) : TT := fun σ H Q => t σ H fun c H1 => if c = true then u σ H1 Q else Q false H1
noncomputable def tOr (t u : TT) : TT := fun σ H Q => t σ H fun c H1 => if c = true then Q true H1 else u σ H1 Q
theorem pw_and1 (ha : PT X a tA) : PW X (.BoolOp .And [a] pos) tA := by
  intro wh pins s σ H Q I h
  refine isTrue_and (thn (ha pins s σ H Q I h) fun c s1 e => ?_)
  cases c with
  | true => exact isTrue_and_nil e
  | false => exact e
theorem pw_or1 (ha : PT X a tA) : PW X (.BoolOp .Or [a] pos) tA := by
  intro wh pins s σ H Q I h
  refine isTrue_or (thn (ha pins s σ H Q I h) fun c s1 e => ?_)
  cases c with
  | false => exact isTrue_or_nil e
  | true => exact e
theorem pw_and (ha : PT X a tA) (hb : PW X (.BoolOp .And (b :: rest) pos) tB') : PW X (.BoolOp .And (a :: b :: rest) pos) (tAnd tA tB') := by
  intro wh pins s σ H Q I h
  refine isTrue_and (thn (ha pins s σ H _ I h) fun c s1 ⟨H1, I1, q1⟩ => ?_)
  cases c with
  | true => exact hb wh pins s1 σ H1 Q I1 q1
  | false => exact ⟨H1, I1, q1⟩
theorem pw_or (ha : PT X a tA) (hb : PW X (.BoolOp .Or (b :: rest) pos) tB') : PW X (.BoolOp .Or (a :: b :: rest) pos) (tOr tA tB') := by
  intro wh pins s σ H Q I h
  refine isTrue_or (thn (ha pins s σ H _ I h) fun c s1 ⟨H1, I1, q1⟩ => ?_)
  cases c with
  | true => exact ⟨H1, I1, q1⟩
  | false => exact hb wh pins s1 σ H1 Q I1 q1
noncomputable def tAndV (ta tb : TE) : TE := fun σ H Q => ta σ H fun x H1 => ∃ c, x = .bl c ∧ if c = true then tb σ H1 Q else Q (.bl false) H1
inductive J_tNotV (Q : VK) (x : V) (H1 : Hp) : Prop
  | mk : ∀ c, (x = .bl c) → (Q (.bl (!c)) H1) → J_tNotV Q x H1
noncomputable def tNotV (ta : TE) : TE := fun σ H Q => ta σ H fun x H1 => J_tNotV Q x H1
theorem pe_one {op} {t : TE} (h : PE X a t) : PE X (.BoolOp op [a] pos) t := fun pins s σ H Q I hw => BoolOp_one (h pins s σ H Q I hw)
theorem pe_and (ha : PE X a ta) (hb : PE X (.BoolOp .And (b :: rest) pos) tb) : PE X (.BoolOp .And (a :: b :: rest) pos) (tAndV ta tb) := by
  intro pins s σ H Q I h
  refine BoolOp_and (thn (ha pins s σ H _ I h) fun v s1 ⟨x, H1, I1, r1, q1⟩ => ?_)
  obtain ⟨c, rfl, q1⟩ := q1
  cases r1
  refine wpAny_truthy_bool ?_
  cases c with
  | true => exact hb pins s1 σ H1 Q I1 q1
  | false => exact ⟨.bl false, H1, I1, rfl, q1⟩
theorem pe_not (ha : PE X a ta) : PE X (.UnaryOp .Not a pos) (tNotV ta) := by
  intro pins s σ H Q I h
  refine UnaryOp_ (thn (ha pins s σ H _ I h) fun v s1 ⟨x, H1, I1, r1, q1⟩ => ?_)
  obtain ⟨c, rfl, q1⟩ := q1
  cases r1
  exact not_of (wpAny_truthy_bool ⟨.bl (!c), H1, I1, rfl, q1⟩)
end
end L2

namespace L2
open PySem PySem.Spec PyProof.Rows

noncomputable def SqL (K : PySem.W.Frag) (H : Hp) (a : Addr) (xs : List V) : Prop :=
  Rd H a (.lst xs) ∨
    ∃ (o : Obj) (its : Array Value) (n : Nat), K.lookup a = some o ∧ o.cls = .type "list" ∧ o.dict = none ∧ o.data = .seq its n ∧ its.size ≤ sizeLine ∧ Vals xs its.toList
noncomputable def SqT (K : PySem.W.Frag) (H : Hp) (a : Addr) (xs : List V) : Prop :=
  Rd H a (.tup xs) ∨
    ∃ (o : Obj) (its : Array Value) (n : Nat), K.lookup a = some o ∧ o.cls = .type "tuple" ∧ o.data = .seq its n ∧ its.size ≤ sizeLine ∧ Vals xs its.toList
noncomputable def absV : Value → Option V
  | .none => some .non
  | .bool b => some (.bl b)
  | .int i _ => some (.int i)
  | .str x _ => some (.str x)
  | .bytes b _ => some (.byt b)
  | .float b _ => some (.flt b)
  | .ref a => some (.ref a)
  | .type n => some (.ty n)
  | _ => none
theorem RelV.abs {x : V} {u : Value} (r : RelV x u) : absV u = some x := by
  cases x with
  | non => cases r; rfl
  | bl _ => cases r; rfl
  | int _ => obtain ⟨t, rfl⟩ := r; rfl
  | str _ => obtain ⟨t, rfl⟩ := r; rfl
  | byt _ => obtain ⟨t, rfl⟩ := r; rfl
  | flt _ => obtain ⟨t, rfl⟩ := r; rfl
  | ref _ => cases r; rfl
  | ty _ => cases r; rfl
theorem RelV.inj {x y : V} {u : Value} (r : RelV x u) (q : RelV y u) : x = y := Option.some.inj (r.abs.symm.trans q.abs)
theorem Vals.inj : ∀ {xs ys : List V} {us : List Value}, Vals xs us → Vals ys us → xs = ys
  | _, _, _, .nil, .nil => rfl
  | _, _, _, .cons r t, .cons r' t' => by rw [r.inj r', Vals.inj t t']
section
variable {X : Cx} {pins : List (Addr × Obj)} {σ : St} {H : Hp} {s : Shared} {a : Addr} {xs ys : List V}
theorem SqL.of {K : PySem.W.Frag} (h : H a = some (.lst xs)) : SqL K H a xs := .inl (.inl h)
theorem SqT.of {K : PySem.W.Frag} (h : H a = some (.tup xs)) : SqT K H a xs := .inl (.inl h)
theorem Inv.list (I : Inv X pins σ H s) (h : SqL X.K H a xs) : ∃ its : List Value, Vals xs its ∧ PlainL s.heap a its.toArray ∧ xs.length ≤ sizeLine := by
  rcases h with h | ⟨o, its, n, hk, hc, hd, hs, hz, r⟩
  · obtain ⟨z, its, n, r, e⟩ := h.ok I.hok
    exact ⟨its, r, ⟨_, n, e, rfl, rfl, rfl⟩, z⟩
  · refine ⟨its.toList, r, ⟨o, n, I.kIn a o hk, hc, hd, by simpa using hs⟩, ?_⟩
    have e := r.length
    simp only [Array.length_toList] at e
    omega
theorem Inv.tuple (I : Inv X pins σ H s) (h : SqT X.K H a xs) : ∃ its : List Value, Vals xs its ∧ IsTup s.heap a its.toArray ∧ xs.length ≤ sizeLine := by
  rcases h with h | ⟨o, its, n, hk, hc, hs, hz, r⟩
  · obtain ⟨z, its, r, p⟩ := h.ok I.hok
    exact ⟨its, r, p, z⟩
  · refine ⟨its.toList, r, ⟨o, I.kIn a o hk, hc, n, by simpa using hs⟩, ?_⟩
    have e := r.length
    simp only [Array.length_toList] at e
    omega
theorem Inv.list_inj (I : Inv X pins σ H s) (h : SqL X.K H a xs) (h' : SqL X.K H a ys) : xs = ys := by
  obtain ⟨its, r, ⟨o, n, e, _, _, d⟩, _⟩ := I.list h
  obtain ⟨its', r', ⟨o', n', e', _, _, d'⟩, _⟩ := I.list h'
  rw [e] at e'; cases e'
  rw [d] at d'
  injection d' with d1 _
  have : its = its' := by simpa using congrArg Array.toList d1
  subst this
  exact r.inj r'
theorem Inv.tuple_inj (I : Inv X pins σ H s) (h : SqT X.K H a xs) (h' : SqT X.K H a ys) : xs = ys := by
  obtain ⟨its, r, ⟨o, e, _, n, d⟩, _⟩ := I.tuple h
  obtain ⟨its', r', ⟨o', e', _, n', d'⟩, _⟩ := I.tuple h'
  rw [e] at e'; cases e'
  rw [d] at d'
  injection d' with d1 _
  have : its = its' := by simpa using congrArg Array.toList d1
  subst this
  exact r.inj r'
end

noncomputable abbrev Cx.wish (X : Cx) (E : Value → Shared → Prop) : Cx := { X with xe := E }
noncomputable abbrev Cx.nox (X : Cx) : Cx := X.wish fun _ _ => False
theorem Cx.Ok.wish {X : Cx} (ok : X.Ok) (E : Value → Shared → Prop) : (X.wish E).Ok :=
  ⟨ok.mod, ok.kind, ok.glob, ok.blt, ok.above, ok.inj, ok.has, ok.cab, ok.hd, ok.frames, ok.stk, ok.exf, ok.bs, ok.bsz, ok.noex, ok.exfs, ok.funs, ok.frf⟩
theorem Cx.Ok.unwish {X : Cx} {E : Value → Shared → Prop} (ok : (X.wish E).Ok) : X.Ok :=
  ⟨ok.mod, ok.kind, ok.glob, ok.blt, ok.above, ok.inj, ok.has, ok.cab, ok.hd, ok.frames, ok.stk, ok.exf, ok.bs, ok.bsz, ok.noex, ok.exfs, ok.funs, ok.frf⟩
section
variable {X : Cx} {pins : List (Addr × Obj)} {σ : St} {H : Hp} {s : Shared} {E : Value → Shared → Prop}
theorem Inv.wish (I : Inv X pins σ H s) (E : Value → Shared → Prop) : Inv (X.wish E) pins σ H s := ⟨I.ok.wish E, I.os, I.bare, I.base, I.loc, I.cell, I.free, I.freeC, I.pin, I.hok, I.len⟩
theorem Inv.unwish (I : Inv (X.wish E) pins σ H s) : Inv X pins σ H s := ⟨I.ok.unwish, I.os, I.bare, I.base, I.loc, I.cell, I.free, I.freeC, I.pin, I.hok, I.len⟩
theorem SP.unwish {D : Ends} {f : Flow} {s' : Shared} (h : SP (X.wish E) pins D f s') : SP X pins D f s' := by
  cases f with
  | next => obtain ⟨σ', H', I, q⟩ := h; exact ⟨σ', H', I.unwish, q⟩
  | brk => obtain ⟨σ', H', I, q⟩ := h; exact ⟨σ', H', I.unwish, q⟩
  | cont => obtain ⟨σ', H', I, q⟩ := h; exact ⟨σ', H', I.unwish, q⟩
  | ret u => obtain ⟨v, σ', H', I, r, q⟩ := h; exact ⟨v, σ', H', I.unwish, r, q⟩
theorem PSs.nox {st : List Stmt} {t : TS} (h : PSs X.nox st t) : PSs X st t := fun pins s σ H D I hw =>
  wpAny_mono (h pins s σ H D (I.wish _) hw) (fun _ _ q => q.unwish) fun _ _ z => False.elim z
end

section
variable {X : Cx} {st : Stmt} {rest : List Stmt} {t u : TS} {e : Expr} {te : TE} {pos : Pos}
noncomputable def tNext : TS := fun D σ H => D.nx σ H
noncomputable def tSeq (t u : TS) : TS := fun D σ H => t { D with nx := u D } σ H
theorem pss_nil : PSs X [] tNext := fun _ _ σ H _ I h => wpAny_execs_nil ⟨σ, H, I, h⟩
theorem pss_cons (h1 : PS X st t) (h2 : PSs X rest u) : PSs X (st :: rest) (tSeq t u) := by
  intro pins s σ H D I h
  refine wpAny_execs_cons (thn (h1 pins s σ H { D with nx := u D } I h) fun f s1 q => ?_)
  cases f with
  | next =>
    obtain ⟨σ', H', I', q⟩ := q
    exact h2 pins s1 σ' H' D I' q
  | ret v => exact q
  | brk => exact q
  | cont => exact q
theorem pss_one (h1 : PS X st t) : PSs X [st] t := by
  intro pins s σ H D I h
  refine wpAny_execs_cons (thn (h1 pins s σ H D I h) fun f s1 q => ?_)
  cases f with
  | next => exact wpAny_execs_nil q
  | ret v => exact q
  | brk => exact q
  | cont => exact q
theorem ps_pass : PS X (.Pass pos) tNext := fun _ _ σ H _ I h => wpAny_Pass ⟨σ, H, I, h⟩
theorem Inv.quiet {pins : List (Addr × Obj)} {σ : St} {H : Hp} {s : Shared} (I : Inv X pins σ H s) : interactive X.env = false := by simp [interactive, I.ok.kind]
noncomputable def tDrop (te : TE) : TS := fun D σ H => te σ H fun _ H1 => D.nx σ H1
theorem ps_expr (he : PE X e te) (hs : swapsWith e none pos.line X.env = pure false := by rfl) : PS X (.Expr e pos) (tDrop te) := by
  intro pins s σ H D I h
  exact wpAny_Expr_any (thn (he pins s σ H _ I h) fun v s1 ⟨x, H1, I1, r1, q1⟩ => ⟨σ, H1, I1, q1⟩) I.quiet hs
noncomputable def tRet (te : TE) : TS := fun D σ H => te σ H D.rt
theorem ps_ret (he : PE X e te) : PS X (.Return (some e) pos) (tRet te) := by
  intro pins s σ H D I h
  exact wpAny_Return_some (thn (he pins s σ H _ I h) fun v s1 ⟨x, H1, I1, r1, q1⟩ => ⟨x, σ, H1, I1, r1, q1⟩)
noncomputable def tIfS (c : TT) (t u : TS) : TS := fun D σ H => c σ H fun b H1 => if b = true then t D σ H1 else u D σ H1
theorem ps_if {c : Expr} {a b : List Stmt} {tc : TT} (hc : PT X c tc) (ha : PSs X a t) (hb : PSs X b u) : PS X (.If c a b pos) (tIfS tc t u) := by
  intro pins s σ H D I h
  refine wpAny_If (thn (hc pins s σ H _ I h) fun d s1 ⟨H1, I1, q1⟩ => ?_)
  cases d with
  | true => exact ha pins s1 σ H1 D I1 q1
  | false => exact hb pins s1 σ H1 D I1 q1
end

noncomputable abbrev TG := V → St → Hp → (St → Hp → Prop) → Prop
noncomputable abbrev TGs := List V → St → Hp → (St → Hp → Prop) → Prop
noncomputable def PG (X : Cx) (target : Expr) (t : TG) : Prop :=
  ∀ (pins : List (Addr × Obj)) (s : Shared) (σ : St) (H : Hp) (v : V) (u : Value) (Q : St → Hp → Prop), Inv X pins σ H s → RelV v u → t v σ H Q →
    wpAny (model X.prog X.w) X.A (assign target X.env u) (fun _ s' => ∃ σ' H', Inv X pins σ' H' s' ∧ Q σ' H') X.xe s
noncomputable def PGs (X : Cx) (ts : List Expr) (t : TGs) : Prop :=
  ∀ (pins : List (Addr × Obj)) (s : Shared) (σ : St) (H : Hp) (vs : List V) (us : List Value) (Q : St → Hp → Prop), Inv X pins σ H s → Vals vs us → t vs σ H Q →
    wpAny (model X.prog X.w) X.A (assignInOrder ((assignEach ts X.env).map (·.2)) us) (fun _ s' => ∃ σ' H', Inv X pins σ' H' s' ∧ Q σ' H') X.xe s
noncomputable abbrev TSet := V → V → V → Hp → (Hp → Prop) → Prop
noncomputable def PSet (X : Cx) (t : TSet) : Prop :=
  ∀ (pins : List (Addr × Obj)) (s : Shared) (σ : St) (H : Hp) (o i v : V) (ov iv u : Value) (Q : Hp → Prop), Inv X pins σ H s → RelV o ov → RelV i iv → RelV v u → t o i v H Q →
    wpAny (model X.prog X.w) X.A (setItem ov iv u) (fun _ s' => ∃ H', Inv X pins σ H' s' ∧ Q H') X.xe s
noncomputable abbrev TIp := V → V → Hp → VK → Prop
noncomputable def PIp (X : Cx) (op : Operator) (t : TIp) : Prop :=
  ∀ (pins : List (Addr × Obj)) (s : Shared) (σ : St) (H : Hp) (x y : V) (v u : Value) (Q : VK), Inv X pins σ H s → RelV x v → RelV y u → t x y H Q →
    wpAny (model X.prog X.w) X.A (inplaceOp op v u) (EP X pins σ Q) X.xe s
section
variable {X : Cx} {pos : Pos}
noncomputable def gName (i : Nat) : TG := fun v σ H Q => Q (σ.set i (some v)) H
theorem pg_name {i : Nat} {x : Str} (hN : X.N.Nodup) (hi : X.N[i]? = some x) (hx : Loc X.env.scope x) (hf : X.fn x = true ∨ X.env.scope.names.lookup x = some .local := by first | exact .inl rfl | exact .inr rfl | assumption) : PG X (.Name x pos) (gName i) := by
  intro pins s σ H v u Q I r h
  exact wpAny_assign_Name (store_ok I hN hi hx r (fun s' I' => ⟨_, H, I', h⟩) hf)
noncomputable def gNil : TGs := fun vs σ H Q => vs = [] ∧ Q σ H
inductive J_gCons (t : TG) (u : TGs) (vs : List V) (σ : St) (H : Hp) (Q : St → Hp → Prop) : Prop
  | mk : ∀ v r, (vs = v :: r) → (t v σ H fun σ' H' => u r σ' H' Q) → J_gCons t u vs σ H Q
noncomputable def gCons (t : TG) (u : TGs) : TGs := fun vs σ H Q => J_gCons t u vs σ H Q
theorem pgs_nil : PGs X [] gNil := by
  intro pins s σ H vs us Q I r h
  obtain ⟨e, h⟩ := h
  subst e
  cases r
  exact assignInOrder_nil ⟨σ, H, I, h⟩
theorem pgs_cons {e : Expr} {es : List Expr} {t : TG} {u : TGs} (h1 : PG X e t) (h2 : PGs X es u)
    (hs : (assignEach (e :: es) X.env).map (·.2) = assign e X.env :: (assignEach es X.env).map (·.2) := by rfl) : PGs X (e :: es) (gCons t u) := by
  intro pins s σ H vs us Q I r h
  obtain ⟨v, vr, e1, h⟩ := h
  subst e1
  cases r with
  | cons r rr =>
    rw [hs]
    refine assignInOrder_cons (thn (h1 pins s σ H _ _ _ I r h) fun _ s1 ⟨σ1, H1, I1, q1⟩ => ?_)
    exact h2 pins s1 σ1 H1 _ _ Q I1 rr q1
inductive J_gTup (K : PySem.W.Frag) (n : Nat) (t : TGs) (v : V) (σ : St) (H : Hp) (Q : St → Hp → Prop) : Prop
  | mk : ∀ a xs, (v = .ref a) → (SqT K H a xs) → (xs.length = n) → (t xs σ H Q) → J_gTup K n t v σ H Q
noncomputable def gTup (K : PySem.W.Frag) (n : Nat) (t : TGs) : TG := fun v σ H Q => J_gTup K n t v σ H Q
theorem pg_tup {es : List Expr} {k : Nat} {t : TGs} {n : Nat} (hc : X.calm = true) (h : PGs X es t)
    (hn : (assignEach es X.env).length = n := by rfl) (hst : (assignEach es X.env).findIdx? (·.1) = none := by rfl) : PG X (.Tuple es k pos) (gTup X.K n t) := by
  intro pins s σ H v u Q I r hw
  obtain ⟨a, xs, e1, hq, hl, hw⟩ := hw
  subst e1
  cases r
  obtain ⟨its, rv, ht, hz⟩ := I.tuple hq
  refine assign_Tuple_tuple (I.ok.hd hc) ht (by simp [hn, ← hl, rv.length]) hst fun h' hx => ?_
  have I1 : Inv X pins σ H { s with heap := h' } := I.kept (t' := s.toks) fun b o e => hx b o (Nat.ne_of_lt (Heap.lt_size e)) e
  exact h pins _ σ H xs _ Q I1 (by simpa using rv) hw
noncomputable def gSub (to ti : TE) (t : TSet) : TG := fun v σ H Q => to σ H fun o H1 => ti σ H1 fun i H2 => t o i v H2 fun H3 => Q σ H3
theorem pg_sub {o i : Expr} {to ti : TE} {t : TSet} (ho : PE X o to) (hi : PE X i ti) (hs : PSet X t)
    (ha : ∀ v, assign (.Subscript o i pos) X.env v = (do
      let ov ← holding [v] (eval o X.env)
      let iv ← holding [v, ov] (eval i X.env)
      standAt pos
      holding [v, ov, iv] (setItem ov iv v)
      release [v, ov, iv] []) := by intro _; rfl) : PG X (.Subscript o i pos) (gSub to ti t) := by
  intro pins s σ H v u Q I r h
  rw [ha]
  refine wpAny_bind (wpAny_holding (thn (ho pins s σ H _ I h) fun ov s1 ⟨x, H1, I1, r1, q1⟩ => ?_))
  refine wpAny_bind (wpAny_holding (thn (hi pins s1 σ H1 _ I1 q1) fun iv s2 ⟨y, H2, I2, r2, q2⟩ => ?_))
  refine wpAny_bind (wpAny_standAt (wpAny_bind (wpAny_holding (thn (hs pins s2 σ H2 x y v ov iv u _ I2 r1 r2 r q2) fun _ s3 ⟨H3, I3, q3⟩ => ?_))))
  exact wpAny_release ⟨σ, H3, I3, q3⟩
noncomputable def tAsg (te : TE) (g : TG) : TS := fun D σ H => te σ H fun x H1 => g x σ H1 D.nx
theorem ps_asg {tg e : Expr} {te : TE} {g : TG} (he : PE X e te) (hg : PG X tg g) (hs : swapsWithSole [tg] e pos.line X.env = pure false := by rfl) (hw : swappedStores [tg] e X.env = pure none := by rfl)
    (h1 : (assignEach [tg] X.env).map (·.2) = [assign tg X.env] := by rfl) : PS X (.Assign [tg] e pos) (tAsg te g) := by
  intro pins s σ H D I h
  refine wpAny_Assign_stores (thn (he pins s σ H _ I h) fun v s1 ⟨x, H1, I1, r1, q1⟩ => ?_) hs hw
  rw [h1]
  exact thn (hg pins s1 σ H1 x v _ I1 r1 q1) fun _ s2 q => q
theorem ps_set {i : Nat} {x : Str} {e : Expr} {te : TE} {pos' : Pos} (hN : X.N.Nodup) (hi : X.N[i]? = some x) (hx : Loc X.env.scope x) (he : PE X e te) (hs : swapsWith e (some (.Name x pos')) pos.line X.env = pure false := by rfl) (hf : X.fn x = true ∨ X.env.scope.names.lookup x = some .local := by first | exact .inl rfl | exact .inr rfl | assumption) :
    PS X (.Assign [.Name x pos'] e pos) (tAsg te (gName i)) := by
  intro pins s σ H D I h
  refine wpAny_Assign_Name (thn (he pins s σ H _ I h) fun v s1 ⟨y, H1, I1, r1, q1⟩ => ?_) hs
  exact store_ok I1 hN hi hx r1 (fun s2 I2 => ⟨_, H1, I2, q1⟩) hf
inductive J_tAug (i : Nat) (te : TE) (ti : TIp) (D : Ends) (σ : St) (H : Hp) : Prop
  | mk : ∀ x, (σ[i]? = some (some x)) → (te σ H fun y H1 => ti x y H1 fun z H2 => D.nx (σ.set i (some z)) H2) → J_tAug i te ti D σ H
noncomputable def tAug (i : Nat) (te : TE) (ti : TIp) : TS := fun D σ H => J_tAug i te ti D σ H
theorem ps_aug {i : Nat} {x : Str} {e : Expr} {te : TE} {op : Operator} {ti : TIp} {pos' : Pos} (hN : X.N.Nodup) (hi : X.N[i]? = some x) (hx : Loc X.env.scope x) (he : PE X e te) (ho : PIp X op ti) (hf : X.fn x = true ∨ X.env.scope.names.lookup x = some .local := by first | exact .inl rfl | exact .inr rfl | assumption) :
    PS X (.AugAssign (.Name x pos') op e pos) (tAug i te ti) := by
  intro pins s σ H D I h
  obtain ⟨v, e1, h⟩ := h
  obtain ⟨m, hn, hl⟩ := I.loc
  have vis : Vis X.env.scope x := by rcases hx with k | k; exact .inl k; exact .inr (.inl k)
  obtain ⟨u, r, l⟩ := hl i x v hi e1 vis
  refine wpAny_AugAssign_Name ?_
  have go : wpAny (model X.prog X.w) X.A (eval e X.env) (fun w s₂ => wpAny (model X.prog X.w) X.A (inplaceOp op u w) (fun r s₃ => wpAny (model X.prog X.w) X.A (storeName X.env x r) (fun _ => SP X pins D .next) X.xe s₃) X.xe s₂) X.xe s := by
    refine thn (he pins s σ H _ I h) fun w s1 ⟨y, H1, I1, r1, q1⟩ => ?_
    refine thn (ho pins s1 σ H1 v y u w _ I1 r r1 q1) fun z s2 ⟨zv, H2, I2, r2, q2⟩ => ?_
    exact store_ok I2 hN hi hx r2 (fun s3 I3 => ⟨_, H2, I3, q2⟩) hf
  rcases l with ⟨hk, hm⟩ | ⟨hk, c, hc, hcell⟩
  · exact wpAny_loadName_local I.ok.kind hk hn hm go
  · rcases hk with hk | hk
    · exact wpAny_loadName_cell I.ok.kind hk hc hcell go
    · rcases hx with k | k
      · have : X.env.scope.names.lookup x = some .free := hk
        rw [k] at this; cases this
      · have : X.env.scope.names.lookup x = some .free := hk
        rw [k] at this; cases this
noncomputable def ipI (f : Int → Int → Int) : TIp := fun x y H Q => ∃ i j, x = .int i ∧ y = .int j ∧ Q (.int (f i j)) H
theorem ip_add : PIp X .Add (ipI fun i j => i + j) := by
  intro pins s σ H x y v u Q I r1 r2 h
  obtain ⟨i, j, e1, e2, q⟩ := h
  subst e1; subst e2
  obtain ⟨t, rfl⟩ := r1
  obtain ⟨t', rfl⟩ := r2
  exact iadd_int ⟨.int _, H, I.tok _, ⟨_, rfl⟩, q⟩
end

section
variable {X : Cx} {pos : Pos}
noncomputable def tWhile (c : TT) (tb : TS) : TS := fun D σ H => ∃ W : Nat → St → Hp → Prop, (∃ m, W m σ H) ∧ ∀ m σ H, W m σ H →
  c σ H fun b H1 => if b = true then ∃ N : St → Hp → Prop, (∀ σ' H', N σ' H' → ∃ m', m' < m ∧ W m' σ' H') ∧ tb { D with nx := N, ct := N, bk := D.nx } σ H1 else D.nx σ H1
theorem ps_while {c : Expr} {body : List Stmt} {tc : TT} {tb : TS} (hp : PassesOwn (model X.prog X.w) X.A X.env X.xe) (hc : PT X c tc) (hb : PSs X body tb) : PS X (.While c body [] pos) (tWhile tc tb) := by
  intro pins s σ H D I h
  obtain ⟨W, ⟨m0, w0⟩, turn⟩ := h
  refine wpAny_While (codeAny_whileLoop (fun n s' => ∃ σ' H', Inv X pins σ' H' s' ∧ W n σ' H') ?_ m0 ⟨σ, H, I, w0⟩)
  rintro n s1 ⟨σ1, H1, I1, w1⟩
  refine wpAny_passesOwn hp (thn (hc pins s1 σ1 H1 _ I1 (turn n σ1 H1 w1)) fun b s2 ⟨H2, I2, q2⟩ => ?_)
  cases b with
  | true =>
    obtain ⟨N, hN, q2⟩ := q2
    rw [if_pos rfl]
    refine wpAny_passesOwn hp (thn (hb pins s2 σ1 H2 _ I2 q2) fun f s3 q3 => ?_)
    cases f with
    | next =>
      obtain ⟨σ3, H3, I3, n3⟩ := q3
      obtain ⟨m', hm, w3⟩ := hN σ3 H3 n3
      exact ⟨m', hm, σ3, H3, I3, w3⟩
    | cont =>
      obtain ⟨σ3, H3, I3, n3⟩ := q3
      obtain ⟨m', hm, w3⟩ := hN σ3 H3 n3
      exact ⟨m', hm, σ3, H3, I3, w3⟩
    | brk => exact q3
    | ret v => exact q3
  | false =>
    rw [if_neg Bool.false_ne_true]
    exact wpAny_execs_nil ⟨σ1, H2, I2, q2⟩
end

structure It where
  go : Nat → Hp → Prop
  yld : Nat → Hp → V → Hp → Prop
  stop : Nat → Hp → Prop
noncomputable def FpOk (X : Cx) (pins : List (Addr × Obj)) (H : Hp) (b : Addr) : Prop :=
  H b = none ∧ b ≠ X.env.locals ∧ b ∉ X.fs ∧ (b ∈ X.ex ∨ X.s₀.heap.objs.size ≤ b) ∧ (∀ x c, X.env.cells.lookup x = some c → c ≠ b) ∧ ∀ p ∈ X.pn ++ pins, p.1 ≠ b
theorem Inv.fpOk {X : Cx} {pins : List (Addr × Obj)} {σ : St} {H H' : Hp} {s : Shared} {b : Addr} (I : Inv X pins σ H s) (hb : s.heap.objs.size ≤ b) (hn : H' b = none) : FpOk X pins H' b := by
  refine ⟨hn, Nat.ne_of_gt (Nat.lt_of_lt_of_le I.lt hb), I.nofs hb, .inr (Nat.le_trans I.sz hb), fun x c e z => ?_, fun p hp z => ?_⟩
  · obtain ⟨v, q⟩ := I.cell x c e
    exact absurd (Nat.lt_of_lt_of_le q.lt (by rw [z]; exact hb)) (Nat.lt_irrefl _)
  · exact absurd (Nat.lt_of_lt_of_le (Heap.lt_size (I.pin p hp).1) (by rw [z]; exact hb)) (Nat.lt_irrefl _)
structure Turn (P : Program) (w : World) (K : PySem.W.Frag) (tg : Expr) (J : It) (fp : List Addr) (it : Addr) (tn : Nat → Heap → Prop) : Prop where
  mem : it ∈ fp
  obj : ∀ i h, tn i h → ∀ b ∈ fp, ∃ o, h.get? b = some o ∧ ∀ v, o.data ≠ .cell v
  keep : ∀ i h h', tn i h → (∀ b ∈ fp, ∀ o, h.get? b = some o → h'.get? b = some o) → tn i h'
  item : ∀ (X : Cx), X.prog = P → X.w = w → X.K = K → X.calm = true → ∀ (i : Nat) (pins : List (Addr × Obj)) (s : Shared) (σ : St) (H : Hp) (E : Value → Shared → Prop), Inv X pins σ H s → (∀ b ∈ fp, FpOk X pins H b) → tn i s.heap → J.go i H →
    wpAny (model P w) X.A (pyNext (.ref it)) (fun r s1 => ∃ u, r = some u ∧
      wpAny (model P w) X.A (letOwnedTupleGo tg (.ref it) u) (fun _ s2 => ∃ x H', Inv X pins σ H' s2 ∧ RelV x u ∧ J.yld i H x H' ∧ tn (i + 1) s2.heap ∧ ∀ b ∈ fp, H' b = none) E s1) E s
  done : ∀ (X : Cx), X.prog = P → X.w = w → X.K = K → X.calm = true → ∀ (i : Nat) (pins : List (Addr × Obj)) (s : Shared) (σ : St) (H : Hp) (E : Value → Shared → Prop), Inv X pins σ H s → (∀ b ∈ fp, FpOk X pins H b) → tn i s.heap → J.stop i H →
    wpAny (model P w) X.A (pyNext (.ref it)) (fun r s1 => r = none ∧ Inv X pins σ H s1) E s
  self : ∀ (A : Around) (i : Nat) (s : Shared) (Q : Value → Shared → Prop) (E : Value → Shared → Prop), tn i s.heap → Q (.ref it) s → wpAny (model P w) A (pyIter (.ref it)) Q E s
noncomputable abbrev TI := St → Hp → (It → Hp → Prop) → Prop
noncomputable def PIE (X : Cx) (pins : List (Addr × Obj)) (σ : St) (tg : Expr) (R : It → Hp → Prop) (itv : Value) (s2 : Shared) : Prop :=
  ∃ (it : Addr) (fp : List Addr) (tn : Nat → Heap → Prop) (J : It) (H' : Hp), itv = .ref it ∧ Inv X pins σ H' s2 ∧ Turn X.prog X.w X.K tg J fp it tn ∧ tn 0 s2.heap ∧ (∀ b ∈ fp, FpOk X pins H' b) ∧ R J H'
noncomputable def PI (X : Cx) (tg iter : Expr) (wi : TI) : Prop :=
  ∀ (pins : List (Addr × Obj)) (s : Shared) (σ : St) (H : Hp) (R : It → Hp → Prop), Inv X pins σ H s → wi σ H R →
    wpAny (model X.prog X.w) X.A (eval iter X.env) (fun v s1 => wpAny (model X.prog X.w) X.A (pyIter v) (PIE X pins σ tg R) X.xe s1) X.xe s

theorem go_of {M : Model} {A : Around} {E : Value → Shared → Prop} {s : Shared} {tg : Expr} {it : Addr} {u : Value} {o : Obj} {n : String} {vs : Array Value} {Q : Unit → Shared → Prop} (ho : s.heap.get? it = some o) (hc : o.cls = .type n) (hd : o.data = .fields vs)
    (hn : ["enumerate", "zip", "dict_itemiterator", "dict_reverseitemiterator", "odict_iterator", "itertools.zip_longest", "itertools.pairwise"].contains n = false) (hQ : Q () s) : wpAny M A (letOwnedTupleGo tg (.ref it) u) Q E s := by
  unfold letOwnedTupleGo
  cases tg <;> first
    | exact wpAny_pure hQ
    | (cases u <;> first
        | exact wpAny_pure hQ
        | (refine wpAny_bind (wpAny_load ho ?_)
           rw [hc, hd]
           show wpAny M A (if (["enumerate", "zip", "dict_itemiterator", "dict_reverseitemiterator", "odict_iterator", "itertools.zip_longest", "itertools.pairwise"].contains n && vs[0]? == some (rawInt _)) = true then _ else _) Q E s
           rw [if_neg (by intro h; rw [hn, Bool.false_and] at h; cases h)]
           exact wpAny_pure hQ))

noncomputable def Itl (K : PySem.W.Frag) (a : Addr) : It :=
  ⟨fun i H => ∃ xs x, SqL K H a xs ∧ xs[i]? = some x, fun i H x H' => H' = H ∧ ∀ xs, SqL K H a xs → xs[i]? = some x, fun i H => ∃ xs, SqL K H a xs ∧ xs.length ≤ i⟩
noncomputable def Itt (K : PySem.W.Frag) (a : Addr) : It :=
  ⟨fun i H => ∃ xs x, SqT K H a xs ∧ xs[i]? = some x, fun i H x H' => H' = H ∧ ∀ xs, SqT K H a xs → xs[i]? = some x, fun i H => ∃ xs, SqT K H a xs ∧ xs.length ≤ i⟩
noncomputable def Itr (lo : Int) (n : Nat) : It := ⟨fun i _ => i < n, fun i H x H' => H' = H ∧ x = .int (lo + i), fun i _ => n ≤ i⟩
theorem turn_list {P : Program} {w : World} {K : PySem.W.Frag} {tg : Expr} (a it : Addr) : Turn P w K tg (Itl K a) [it] it (fun i h => h.IsListIter it a i) where
  mem := by simp
  obj := fun i h st b hb => by
    have e : b = it := by simpa using hb
    subst e
    obtain ⟨o, e, c, d⟩ := st
    exact ⟨o, e, fun v z => by rw [d] at z; cases z⟩
  keep := fun i h h' st k => st.at fun o e => k it (by simp) o e
  item := by
    intro X hP hw hK hc i pins s σ H E I hf st hg
    subst hP hw hK
    obtain ⟨xs, x, hq, hx⟩ := hg
    obtain ⟨its, rv, p, hz⟩ := I.list hq
    obtain ⟨u, hu, ru⟩ := rv.get hx
    obtain ⟨f0, f1, f2, f3, f4, f5⟩ := hf it (by simp)
    refine wpAny_pyNext_list_item st p.isList (x := u) (by simpa using hu) fun h' st' sb => ?_
    have I1 : Inv X pins σ H { s with heap := h' } := I.turned (t' := s.toks) (fun b o hb e => (sb.2 b hb).trans e) f0 f1 f3 f4 f5
    obtain ⟨o, e, c, d⟩ := id st'
    exact ⟨u, rfl, go_of (s := { s with heap := h' }) e c d (by decide) ⟨x, H, I1, ru, ⟨rfl, fun ys hy => by rw [I.list_inj hy hq]; exact hx⟩, st', fun b hb => (hf b hb).1⟩⟩
  done := by
    intro X hP hw hK hc i pins s σ H E I hf st hg
    subst hP hw hK
    obtain ⟨xs, hq, hx⟩ := hg
    obtain ⟨its, rv, p, hz⟩ := I.list hq
    obtain ⟨f0, f1, f2, f3, f4, f5⟩ := hf it (by simp)
    have hl := rv.length
    exact wpAny_pyNext_list_end (I.ok.hd hc) st p.isList (by simp; omega) fun h' eb => ⟨rfl, I.turned (t' := s.toks) (fun b o hb e => eb b o hb e) f0 f1 f3 f4 f5⟩
  self := fun _ _ _ _ _ st h => wpAny_pyIter_listiter st h
theorem turn_tuple {P : Program} {w : World} {K : PySem.W.Frag} {tg : Expr} (a it : Addr) : Turn P w K tg (Itt K a) [it] it (fun i h => h.IsTupleIter it a i) where
  mem := by simp
  obj := fun i h st b hb => by
    have e : b = it := by simpa using hb
    subst e
    obtain ⟨o, e, c, d⟩ := st
    exact ⟨o, e, fun v z => by rw [d] at z; cases z⟩
  keep := fun i h h' st k => st.at fun o e => k it (by simp) o e
  item := by
    intro X hP hw hK hc i pins s σ H E I hf st hg
    subst hP hw hK
    obtain ⟨xs, x, hq, hx⟩ := hg
    obtain ⟨its, rv, p, hz⟩ := I.tuple hq
    obtain ⟨u, hu, ru⟩ := rv.get hx
    obtain ⟨f0, f1, f2, f3, f4, f5⟩ := hf it (by simp)
    refine wpAny_pyNext_tuple_item st (show s.heap.IsTuple a its.toArray from p) (x := u) (by simpa using hu) fun h' st' sb => ?_
    have I1 : Inv X pins σ H { s with heap := h' } := I.turned (t' := s.toks) (fun b o hb e => (sb.2 b hb).trans e) f0 f1 f3 f4 f5
    obtain ⟨o, e, c, d⟩ := id st'
    exact ⟨u, rfl, go_of (s := { s with heap := h' }) e c d (by decide) ⟨x, H, I1, ru, ⟨rfl, fun ys hy => by rw [I.tuple_inj hy hq]; exact hx⟩, st', fun b hb => (hf b hb).1⟩⟩
  done := by
    intro X hP hw hK hc i pins s σ H E I hf st hg
    subst hP hw hK
    obtain ⟨xs, hq, hx⟩ := hg
    obtain ⟨its, rv, p, hz⟩ := I.tuple hq
    obtain ⟨f0, f1, f2, f3, f4, f5⟩ := hf it (by simp)
    have hl := rv.length
    exact wpAny_pyNext_tuple_end (I.ok.hd hc) st (show s.heap.IsTuple a its.toArray from p) (by simp; omega) fun h' eb => ⟨rfl, I.turned (t' := s.toks) (fun b o hb e => eb b o hb e) f0 f1 f3 f4 f5⟩
  self := fun _ _ _ _ _ st h => wpAny_pyIter_tupleiter st h
theorem turn_range {P : Program} {w : World} {K : PySem.W.Frag} {tg : Expr} (it : Addr) (lo : Int) (n : Nat) : Turn P w K tg (Itr lo n) [it] it (fun i h => IsRangeIter h it (lo + (i : Nat) * 1) ((n : Int) - (i : Nat)) 1) where
  mem := by simp
  obj := fun i h st b hb => by
    have e : b = it := by simpa using hb
    subst e
    exact ⟨_, st, fun v z => by
      have z' : Data.fields _ = Data.cell v := z
      cases z'⟩
  keep := fun i h h' st k => k it (by simp) _ st
  item := by
    intro X hP hw hK hc i pins s σ H E I hf st hg
    subst hP hw hK
    obtain ⟨f0, f1, f2, f3, f4, f5⟩ := hf it (by simp)
    have W := Walks.range (prog := X.prog) (w := X.w) (I.ok.hd hc) it lo 1 n
    refine W.item i s _ _ hg st fun v h' tk hv st' kk => ?_
    obtain ⟨t, rfl⟩ := hv
    have I1 : Inv X pins σ H { s with heap := h', toks := tk } := I.turned (fun b o hb e => kk b o (by simpa using hb) e) f0 f1 f3 f4 f5
    refine ⟨_, rfl, go_of (s := { s with heap := h', toks := tk }) (n := "range_iterator") st' rfl rfl (by decide) ⟨.int (lo + i), H, I1, ⟨t, ?_⟩, ⟨rfl, rfl⟩, st', fun b hb => (hf b hb).1⟩⟩
    rw [Int.mul_one]
  done := by
    intro X hP hw hK hc i pins s σ H E I hf st hg
    subst hP hw hK
    obtain ⟨f0, f1, f2, f3, f4, f5⟩ := hf it (by simp)
    exact wpAny_pyNext_range_end (I.ok.hd hc) st (by have : n ≤ i := hg; omega) fun h' eb => ⟨rfl, I.turned (t' := s.toks) (fun b o hb e => eb b o hb e) f0 f1 f3 f4 f5⟩
  self := fun _ _ _ _ _ st h => wpAny_pyIter_rangeiter st h
end L2

namespace L2
open PySem PySem.Spec PyProof.Rows
section
variable {X : Cx} {tg : Expr}
inductive J_iList (K : PySem.W.Frag) (R : It → Hp → Prop) (x : V) (H1 : Hp) : Prop
  | mk : ∀ a, (x = .ref a) → ((∃ xs, SqL K H1 a xs)) → (R (Itl K a) H1) → J_iList K R x H1
noncomputable def iList (K : PySem.W.Frag) (tl : TE) : TI := fun σ H R => tl σ H fun x H1 => J_iList K R x H1
inductive J_iTup (K : PySem.W.Frag) (R : It → Hp → Prop) (x : V) (H1 : Hp) : Prop
  | mk : ∀ a, (x = .ref a) → ((∃ xs, SqT K H1 a xs)) → (R (Itt K a) H1) → J_iTup K R x H1
noncomputable def iTup (K : PySem.W.Frag) (tl : TE) : TI := fun σ H R => tl σ H fun x H1 => J_iTup K R x H1
theorem pi_list {l : Expr} {tl : TE} (hl : PE X l tl) : PI X tg l (iList X.K tl) := by
  intro pins s σ H R I h
  refine thn (hl pins s σ H _ I h) fun v s1 ⟨x, H1, I1, r1, q1⟩ => ?_
  obtain ⟨a, e, ⟨xs, hq⟩, q⟩ := q1
  subst e
  cases r1
  obtain ⟨its, rv, p, hz⟩ := I1.list hq
  refine wpAny_pyIter_list p.isList ?_
  refine ⟨s1.heap.objs.size, [s1.heap.objs.size], _, _, H1, rfl, I1.kept (t' := s1.toks) fun b o e => Heap.get?_push_of_some _ e, turn_list a _, ⟨_, Heap.get?_push_size _ rfl, rfl, rfl⟩, fun b hb => ?_, q⟩
  have e : b = s1.heap.objs.size := by simpa using hb
  subst e
  exact I1.fpOk (Nat.le_refl _) (I1.hok.fresh (Nat.le_refl _))
theorem pi_tup {l : Expr} {tl : TE} (hl : PE X l tl) : PI X tg l (iTup X.K tl) := by
  intro pins s σ H R I h
  refine thn (hl pins s σ H _ I h) fun v s1 ⟨x, H1, I1, r1, q1⟩ => ?_
  obtain ⟨a, e, ⟨xs, hq⟩, q⟩ := q1
  subst e
  cases r1
  obtain ⟨its, rv, p, hz⟩ := I1.tuple hq
  refine wpAny_pyIter_tuple (show s1.heap.IsTuple a its.toArray from p) ?_
  refine ⟨s1.heap.objs.size, [s1.heap.objs.size], _, _, H1, rfl, I1.kept (t' := s1.toks) fun b o e => Heap.get?_push_of_some _ e, turn_tuple a _, ⟨_, Heap.get?_push_size _ rfl, rfl, rfl⟩, fun b hb => ?_, q⟩
  have e : b = s1.heap.objs.size := by simpa using hb
  subst e
  exact I1.fpOk (Nat.le_refl _) (I1.hok.fresh (Nat.le_refl _))
theorem range_it {pins : List (Addr × Obj)} {σ : St} {H : Hp} {s : Shared} {R : It → Hp → Prop} {E : Value → Shared → Prop} {lo hi : Int} {t u v : Tok} {tk : Nat} (I : Inv X pins σ H s) (h1 : -(2 ^ 62) ≤ lo) (h2 : lo < 2 ^ 62) (h3 : -(2 ^ 62) ≤ hi) (h4 : hi < 2 ^ 62)
    (q : R (Itr lo (hi - lo).toNat) H) : wpAny (model X.prog X.w) X.A (pyIter (.ref s.heap.objs.size)) (PIE X pins σ tg R) E { s with heap := s.heap.push { cls := .type "range", data := .fields #[.int lo t, .int hi u, .int 1 v] }, toks := tk } := by
  refine wpAny_pyIter_range (IsRange.new ..) (small_one h1 h2 h3 h4) ?_
  have I1 : Inv X pins σ H { s with heap := s.heap.push { cls := .type "range", data := .fields #[.int lo t, .int hi u, .int 1 v] }, toks := tk } := I.kept fun b o e => Heap.get?_push_of_some _ e
  refine ⟨(s.heap.push { cls := .type "range", data := .fields #[.int lo t, .int hi u, .int 1 v] }).objs.size, [(s.heap.push { cls := .type "range", data := .fields #[.int lo t, .int hi u, .int 1 v] }).objs.size], _, _, H, rfl,
    I1.kept (t' := tk) fun b o e => Heap.get?_push_of_some _ e, turn_range _ lo (hi - lo).toNat, ?_, fun b hb => ?_, q⟩
  · have e1 : lo + ((0 : Nat) : Int) * 1 = lo := by simp
    have e2 : (((hi - lo).toNat : Nat) : Int) - ((0 : Nat) : Int) = Builtin.Range.rangeSize lo hi 1 := by rw [rangeSize_one]; split <;> omega
    show IsRangeIter _ _ (lo + ((0 : Nat) : Int) * 1) ((((hi - lo).toNat : Nat) : Int) - ((0 : Nat) : Int)) 1
    rw [e1, e2]
    exact Heap.get?_push_size _ rfl
  · have e : b = (s.heap.push { cls := .type "range", data := .fields #[.int lo t, .int hi u, .int 1 v] }).objs.size := by simpa using hb
    subst e
    exact I1.fpOk (Nat.le_refl _) (I1.hok.fresh (Nat.le_refl _))
inductive J_iRng1 (R : It → Hp → Prop) (vs : List V) (H1 : Hp) : Prop
  | mk : ∀ (j : Int), (vs = [.int j]) → (-(2 ^ 62) ≤ j) → (j < 2 ^ 62) → (R (Itr 0 j.toNat) H1) → J_iRng1 R vs H1
noncomputable def iRng1 (ta : TA) : TI := fun σ H R => ta σ H fun vs H1 => J_iRng1 R vs H1
inductive J_iRng2 (R : It → Hp → Prop) (vs : List V) (H1 : Hp) : Prop
  | mk : ∀ (i j : Int), (vs = [.int i, .int j]) → ((-(2 ^ 62) ≤ i ∧ i < 2 ^ 62 ∧ -(2 ^ 62) ≤ j ∧ j < 2 ^ 62)) → (R (Itr i (j - i).toNat) H1) → J_iRng2 R vs H1
noncomputable def iRng2 (ta : TA) : TI := fun σ H R => ta σ H fun vs H1 => J_iRng2 R vs H1
theorem pi_range1 {a : Expr} {ta : TA} {p pos : Pos} (hg : Gl X "range") (hm : X.mg "range" = none) (ha : PA X [a] ta) (hs : starEach [a] X.env = [(false, eval a X.env)] := by rfl) : PI X tg (.Call (.Name "range" p) [a] [] pos) (iRng1 ta) := by
  intro pins s σ H R I h
  refine Call_ (ld_blt I hg hm boot_range (PyProof.Rows.callWith_type1 (thn (ha pos pins s σ H _ I h) fun us s1 ⟨vs, H1, I1, r1, q1⟩ => ?_) hs rfl))
  obtain ⟨j, e, q1, q2, q⟩ := q1
  subst e
  cases r1 with
  | cons r rr =>
    cases rr
    obtain ⟨t, rfl⟩ := r
    exact call_range_1 (range_it I1 (by omega) (by omega) q1 q2 (by simpa using q))
theorem pi_range2 {a b : Expr} {ta : TA} {p pos : Pos} (hg : Gl X "range") (hm : X.mg "range" = none) (ha : PA X [a, b] ta) (hs : starEach [a, b] X.env = [(false, eval a X.env), (false, eval b X.env)] := by rfl) (hs2 : starEach [b] X.env = [(false, eval b X.env)] := by rfl) :
    PI X tg (.Call (.Name "range" p) [a, b] [] pos) (iRng2 ta) := by
  intro pins s σ H R I h
  refine Call_ (ld_blt I hg hm boot_range (PyProof.Rows.callWith_type1 (thn (ha pos pins s σ H _ I h) fun us s1 ⟨vs, H1, I1, r1, q1⟩ => ?_) (by rw [hs, hs2]) (by rw [hs2]; rfl)))
  obtain ⟨i, j, e, ⟨q1, q2, q3, q4⟩, q⟩ := q1
  subst e
  cases r1 with
  | cons r rr =>
    cases rr with
    | cons r' rr =>
      cases rr
      obtain ⟨t, rfl⟩ := r
      obtain ⟨t', rfl⟩ := r'
      exact call_range_2 (range_it I1 q1 q2 q3 q4 q)

noncomputable def tFor (wi : TI) (g : TG) (tb : TS) : TS := fun D σ H => wi σ H fun J H1 => ∃ W : Nat → Nat → St → Hp → Prop, (∃ m, W 0 m σ H1) ∧ ∀ i m σ H, W i m σ H →
  (J.stop i H ∧ D.nx σ H) ∨ (J.go i H ∧ ∃ N : St → Hp → Prop, (∀ σ' H', N σ' H' → ∃ m', m' < m ∧ W (i + 1) m' σ' H') ∧ ∀ x H', J.yld i H x H' → g x σ H' fun σ2 H2 => tb { D with nx := N, ct := N, bk := D.nx } σ2 H2)
noncomputable def pinsAt (fp : List Addr) (h : Heap) : List (Addr × Obj) := fp.filterMap fun b => (h.get? b).map fun o => (b, o)
theorem mem_pinsAt {fp : List Addr} {h : Heap} {b : Addr} {o : Obj} (hb : b ∈ fp) (e : h.get? b = some o) : (b, o) ∈ pinsAt fp h := List.mem_filterMap.mpr ⟨b, hb, by rw [e]; rfl⟩
theorem of_pinsAt {fp : List Addr} {h : Heap} {p : Addr × Obj} (hp : p ∈ pinsAt fp h) : p.1 ∈ fp ∧ h.get? p.1 = some p.2 := by
  obtain ⟨b, hb, e⟩ := List.mem_filterMap.mp hp
  cases q : h.get? b with
  | none => rw [q] at e; cases e
  | some o =>
    rw [q] at e
    have e' : (b, o) = p := Option.some.inj e
    subst e'
    exact ⟨hb, q⟩
theorem Inv.pinned {pins : List (Addr × Obj)} {σ : St} {H : Hp} {s : Shared} {fp : List Addr} (I : Inv X pins σ H s) (hf : ∀ b ∈ fp, FpOk X pins H b) (ho : ∀ b ∈ fp, ∃ o, s.heap.get? b = some o ∧ ∀ v, o.data ≠ .cell v) : Inv X (pins ++ pinsAt fp s.heap) σ H s :=
  I.pins_of fun p hp => (List.mem_append.mp hp).elim (fun z => I.pin p (List.mem_append_right _ z)) fun z => by
    obtain ⟨hb, e⟩ := of_pinsAt z
    obtain ⟨f0, f1, f2, _⟩ := hf p.1 hb
    obtain ⟨o, e', d⟩ := ho p.1 hb
    rw [e] at e'; cases e'
    exact ⟨e, f0, f1, f2, d⟩
theorem Inv.unpinned {pins pl : List (Addr × Obj)} {σ : St} {H : Hp} {s : Shared} (I : Inv X (pins ++ pl) σ H s) : Inv X pins σ H s := I.pins_of fun p hp => I.pin p (List.mem_append_right _ (List.mem_append_left _ hp))
theorem ps_for {iter : Expr} {body : List Stmt} {wi : TI} {g : TG} {tb : TS} {pos : Pos} (hp : PassesOwn (model X.prog X.w) X.A X.env X.xe) (hc : X.calm = true) (hi : PI X tg iter wi) (hg : PG X tg g) (hb : PSs X body tb)
    (hs : ∀ x, foldedSetIterable iter X.env x = pure x := by intro _; rfl) : PS X (.For tg iter body [] pos) (tFor wi g tb) := by
  intro pins s σ H D I h
  refine wpAny_For (thn (hi pins s σ H _ I h) fun v s1 h1 => thn h1 fun itv s2 h2 => ?_) hs
  obtain ⟨it, fp, tn, J, H2, e, I2, T, st2, f2, W, ⟨m0, w0⟩, turn⟩ := h2
  subst e
  -- what stays true of the iterator's objects through the loop
  have stat : ∀ {H' : Hp}, (∀ b ∈ fp, H' b = none) → ∀ b ∈ fp, FpOk X pins H' b := fun hn b hb => ⟨hn b hb, (f2 b hb).2⟩
  refine codeAny_forLoop_any (fun n s' => ∃ i σ' H', Inv X pins σ' H' s' ∧ tn i s'.heap ∧ (∀ b ∈ fp, H' b = none) ∧ W i n σ' H') ?_ m0 ⟨0, σ, H2, I2, st2, fun b hb => (f2 b hb).1, w0⟩
  rintro n s3 ⟨i, σ3, H3, I3, st3, fr3, w3⟩
  rcases turn i n σ3 H3 w3 with ⟨stop, qn⟩ | ⟨go, N, hN, step⟩
  · refine wpAny_passesOwn hp (thn (T.done X rfl rfl rfl hc i pins s3 σ3 H3 X.xe I3 (stat fr3) st3 stop) fun r s4 ⟨hr, I4⟩ => ?_)
    subst hr
    exact wpAny_execs_nil ⟨σ3, H3, I4, qn⟩
  · refine wpAny_passesOwn hp (thn (T.item X rfl rfl rfl hc i pins s3 σ3 H3 X.xe I3 (stat fr3) st3 go) fun r s4 ⟨u, hr, h4⟩ => ?_)
    subst hr
    refine wpAny_passesOwn hp (thn h4 fun _ s5 ⟨x, H5, I5, r5, y5, st5, fr5⟩ => ?_)
    have I5' := I5.pinned (stat fr5) (T.obj _ _ st5)
    refine wpAny_passesOwn hp (thn (hg _ s5 σ3 H5 x u _ I5' r5 (step x H5 y5)) fun _ s6 ⟨σ6, H6, I6, q6⟩ => ?_)
    refine wpAny_passesOwn hp (thn (hb _ s6 σ6 H6 _ I6 q6) fun f s7 q7 => ?_)
    have again : ∀ {σ7 : St} {H7 : Hp}, Inv X (pins ++ pinsAt fp s5.heap) σ7 H7 s7 → N σ7 H7 → ∃ m, m < n ∧ ∃ i σ' H', Inv X pins σ' H' s7 ∧ tn i s7.heap ∧ (∀ b ∈ fp, H' b = none) ∧ W i m σ' H' := fun {σ7 H7} I7 n7 => by
      obtain ⟨m', hm, w7⟩ := hN σ7 H7 n7
      refine ⟨m', hm, i + 1, σ7, H7, I7.unpinned, T.keep _ _ _ st5 fun b hb o e => (I7.pin (b, o) (List.mem_append_right _ (List.mem_append_right _ (mem_pinsAt hb e)))).1, fun b hb => ?_, w7⟩
      obtain ⟨o, e, d⟩ := T.obj _ _ st5 b hb
      exact (I7.pin (b, o) (List.mem_append_right _ (List.mem_append_right _ (mem_pinsAt hb e)))).2.1
    cases f with
    | next => obtain ⟨σ7, H7, I7, n7⟩ := q7; exact again I7 n7
    | cont => obtain ⟨σ7, H7, I7, n7⟩ := q7; exact again I7 n7
    | brk => obtain ⟨σ7, H7, I7, q7⟩ := q7; exact ⟨σ7, H7, I7.unpinned, q7⟩
    | ret v => obtain ⟨x7, σ7, H7, I7, r7, q7⟩ := q7; exact ⟨x7, σ7, H7, I7.unpinned, r7, q7⟩
end

theorem for_list {K : PySem.W.Frag} {a : Addr} {xs : List V} {g : TG} {tb : TS} {D : Ends} {σ : St} {H : Hp} (Pv : Nat → St → Hp → Prop) (h0 : Pv 0 σ H) (hl : ∀ i σ H, i ≤ xs.length → Pv i σ H → SqL K H a xs)
    (hs : ∀ i x σ H, xs[i]? = some x → Pv i σ H → g x σ H fun σ2 H2 => tb { D with nx := Pv (i + 1), ct := Pv (i + 1), bk := D.nx } σ2 H2) (hd : ∀ σ H, Pv xs.length σ H → D.nx σ H) :
    ∃ W : Nat → Nat → St → Hp → Prop, (∃ m, W 0 m σ H) ∧ ∀ i m σ H, W i m σ H →
      ((Itl K a).stop i H ∧ D.nx σ H) ∨ ((Itl K a).go i H ∧ ∃ N : St → Hp → Prop, (∀ σ' H', N σ' H' → ∃ m', m' < m ∧ W (i + 1) m' σ' H') ∧ ∀ x H', (Itl K a).yld i H x H' → g x σ H' fun σ2 H2 => tb { D with nx := N, ct := N, bk := D.nx } σ2 H2) := by
  refine ⟨fun i m σ H => m = xs.length - i ∧ i ≤ xs.length ∧ Pv i σ H, ⟨xs.length, by simp, Nat.zero_le _, h0⟩, ?_⟩
  rintro i m σ H ⟨rfl, hi, p⟩
  have q := hl i σ H hi p
  by_cases hlt : i < xs.length
  · refine .inr ⟨⟨xs, xs[i], q, by simp [hlt]⟩, Pv (i + 1), fun σ' H' p' => ⟨xs.length - (i + 1), by omega, rfl, hlt, p'⟩, fun x H' y => ?_⟩
    obtain ⟨e, y⟩ := y
    subst e
    exact hs i x σ _ (y xs q) p
  · have e : i = xs.length := by omega
    subst e
    exact .inl ⟨⟨xs, q, Nat.le_refl _⟩, hd σ H p⟩
theorem for_tup {K : PySem.W.Frag} {a : Addr} {xs : List V} {g : TG} {tb : TS} {D : Ends} {σ : St} {H : Hp} (Pv : Nat → St → Hp → Prop) (h0 : Pv 0 σ H) (hl : ∀ i σ H, i ≤ xs.length → Pv i σ H → SqT K H a xs)
    (hs : ∀ i x σ H, xs[i]? = some x → Pv i σ H → g x σ H fun σ2 H2 => tb { D with nx := Pv (i + 1), ct := Pv (i + 1), bk := D.nx } σ2 H2) (hd : ∀ σ H, Pv xs.length σ H → D.nx σ H) :
    ∃ W : Nat → Nat → St → Hp → Prop, (∃ m, W 0 m σ H) ∧ ∀ i m σ H, W i m σ H →
      ((Itt K a).stop i H ∧ D.nx σ H) ∨ ((Itt K a).go i H ∧ ∃ N : St → Hp → Prop, (∀ σ' H', N σ' H' → ∃ m', m' < m ∧ W (i + 1) m' σ' H') ∧ ∀ x H', (Itt K a).yld i H x H' → g x σ H' fun σ2 H2 => tb { D with nx := N, ct := N, bk := D.nx } σ2 H2) := by
  refine ⟨fun i m σ H => m = xs.length - i ∧ i ≤ xs.length ∧ Pv i σ H, ⟨xs.length, by simp, Nat.zero_le _, h0⟩, ?_⟩
  rintro i m σ H ⟨rfl, hi, p⟩
  have q := hl i σ H hi p
  by_cases hlt : i < xs.length
  · refine .inr ⟨⟨xs, xs[i], q, by simp [hlt]⟩, Pv (i + 1), fun σ' H' p' => ⟨xs.length - (i + 1), by omega, rfl, hlt, p'⟩, fun x H' y => ?_⟩
    obtain ⟨e, y⟩ := y
    subst e
    exact hs i x σ _ (y xs q) p
  · have e : i = xs.length := by omega
    subst e
    exact .inl ⟨⟨xs, q, Nat.le_refl _⟩, hd σ H p⟩
theorem for_range {lo : Int} {n : Nat} {g : TG} {tb : TS} {D : Ends} {σ : St} {H : Hp} (Pv : Nat → St → Hp → Prop) (h0 : Pv 0 σ H)
    (hs : ∀ i σ H, i < n → Pv i σ H → g (.int (lo + i)) σ H fun σ2 H2 => tb { D with nx := Pv (i + 1), ct := Pv (i + 1), bk := D.nx } σ2 H2) (hd : ∀ σ H, Pv n σ H → D.nx σ H) :
    ∃ W : Nat → Nat → St → Hp → Prop, (∃ m, W 0 m σ H) ∧ ∀ i m σ H, W i m σ H →
      ((Itr lo n).stop i H ∧ D.nx σ H) ∨ ((Itr lo n).go i H ∧ ∃ N : St → Hp → Prop, (∀ σ' H', N σ' H' → ∃ m', m' < m ∧ W (i + 1) m' σ' H') ∧ ∀ x H', (Itr lo n).yld i H x H' → g x σ H' fun σ2 H2 => tb { D with nx := N, ct := N, bk := D.nx } σ2 H2) := by
  refine ⟨fun i m σ H => m = n - i ∧ i ≤ n ∧ Pv i σ H, ⟨n, by simp, Nat.zero_le _, h0⟩, ?_⟩
  rintro i m σ H ⟨rfl, hi, p⟩
  by_cases hlt : i < n
  · refine .inr ⟨hlt, Pv (i + 1), fun σ' H' p' => ⟨n - (i + 1), by omega, rfl, hlt, p'⟩, fun x H' y => ?_⟩
    obtain ⟨e, y⟩ := y
    subst e y
    exact hs i σ _ hlt p
  · have e : i = n := by omega
    subst e
    exact .inl ⟨Nat.le_refl _, hd σ H p⟩
end L2

namespace L2
open PySem PySem.Spec PyProof.Rows

noncomputable abbrev R2 := V → V → Hp → VK → Prop
noncomputable def OpR (X : Cx) (f : Value → Value → Sem Value) (r : R2) : Prop :=
  ∀ (pins : List (Addr × Obj)) (s : Shared) (σ : St) (H : Hp) (x y : V) (v u : Value) (Q : VK), Inv X pins σ H s → RelV x v → RelV y u → r x y H Q →
    wpAny (model X.prog X.w) X.A (f v u) (EP X pins σ Q) X.xe s
noncomputable def UnR (X : Cx) (f : Value → Sem Value) (r : V → Hp → VK → Prop) : Prop :=
  ∀ (pins : List (Addr × Obj)) (s : Shared) (σ : St) (H : Hp) (x : V) (v : Value) (Q : VK), Inv X pins σ H s → RelV x v → r x H Q →
    wpAny (model X.prog X.w) X.A (f v) (EP X pins σ Q) X.xe s
noncomputable def CallR (X : Cx) (f : Value) (r : List V → Hp → VK → Prop) : Prop :=
  ∀ (pins : List (Addr × Obj)) (s : Shared) (σ : St) (H : Hp) (xs : List V) (us : List Value) (Q : VK), Inv X pins σ H s → Vals xs us → r xs H Q →
    wpAny (model X.prog X.w) X.A (call f us) (EP X pins σ Q) X.xe s

noncomputable def tOp (r : R2) (ta tb : TE) : TE := fun σ H Q => ta σ H fun x H1 => tb σ H1 fun y H2 => r x y H2 Q
noncomputable def tUn (r : V → Hp → VK → Prop) (ta : TE) : TE := fun σ H Q => ta σ H fun x H1 => r x H1 Q
inductive RI (C : Int → Int → Prop) (g : Int → Int → V) (x y : V) (H : Hp) (Q : VK) : Prop
  | mk (i j : Int) (hx : x = .int i) (hy : y = .int j) (hc : C i j) (q : Q (g i j) H) : RI C g x y H Q
noncomputable def rI (C : Int → Int → Prop) (g : Int → Int → V) : R2 := fun x y H Q => RI C g x y H Q
inductive RI0 (g : Int → Int → V) (x y : V) (H : Hp) (Q : VK) : Prop
  | mk (i j : Int) (hx : x = .int i) (hy : y = .int j) (q : Q (g i j) H) : RI0 g x y H Q
noncomputable def rI0 (g : Int → Int → V) : R2 := fun x y H Q => RI0 g x y H Q
inductive RU (g : Int → V) (x : V) (H : Hp) (Q : VK) : Prop
  | mk (i : Int) (hx : x = .int i) (q : Q (g i) H) : RU g x H Q
noncomputable def rU (g : Int → V) : V → Hp → VK → Prop := fun x H Q => RU g x H Q

section
variable {X : Cx} {a b c : Expr} {ta tb tc : TE} {pos : Pos}

theorem binT (ha : PE X a ta) (hb : PE X b tb) {pins : List (Addr × Obj)} {s : Shared} {σ : St} {H : Hp} {R : V → V → Hp → Prop} (I : Inv X pins σ H s)
    (h : ta σ H fun x H1 => tb σ H1 fun y H2 => R x y H2) {Q : Value → Shared → Prop} {f : Value → Value → Sem Value}
    (hf : ∀ v u s2 x y H2, Inv X pins σ H2 s2 → RelV x v → RelV y u → R x y H2 → wpAny (model X.prog X.w) X.A (f v u) Q X.xe s2) :
    wpAny (model X.prog X.w) X.A (eval a X.env) (fun v s₁ => wpAny (model X.prog X.w) X.A (eval b X.env) (fun u s₂ => wpAny (model X.prog X.w) X.A (f v u) Q X.xe s₂) X.xe s₁) X.xe s := by
  refine thn (ha pins s σ H _ I h) fun v s1 ⟨x, H1, I1, r1, q1⟩ => ?_
  refine thn (hb pins s1 σ H1 _ I1 q1) fun u s2 ⟨y, H2, I2, r2, q2⟩ => ?_
  exact hf v u s2 x y H2 I2 r1 r2 q2

theorem pe_op {op : Operator} {r : R2} (ho : OpR X (binaryOp op) r) (ha : PE X a ta) (hb : PE X b tb) : PE X (.BinOp a op b pos) (tOp r ta tb) := by
  intro pins s σ H Q I h
  exact wpAny_BinOp (binT ha hb I h fun v u s2 x y H2 I2 rx ry q => ho pins s2 σ H2 x y v u Q I2 rx ry q)
theorem pe_un {op : UnaryOp} {r : V → Hp → VK → Prop} (ho : UnR X (unaryOp op) r) (ha : PE X a ta) : PE X (.UnaryOp op a pos) (tUn r ta) := by
  intro pins s σ H Q I h
  exact UnaryOp_ (thn (ha pins s σ H _ I h) fun v s1 ⟨x, H1, I1, r1, q1⟩ => ho pins s1 σ H1 x v Q I1 r1 q1)

theorem opI {f : Value → Value → Sem Value} {C : Int → Int → Prop} {g : Int → Int → Int}
    (rule : ∀ (i j : Int) (t u : Tok) (s : Shared) (Q : Value → Shared → Prop) (E : Value → Shared → Prop), C i j → Q (.int (g i j) s.toks) { s with toks := s.toks + 1 } → wpAny (model X.prog X.w) X.A (f (.int i t) (.int j u)) Q E s) :
    OpR X f (rI C fun i j => .int (g i j)) := by
  intro pins s σ H x y v u Q I rx ry h
  obtain ⟨i, j, rfl, rfl, hc, q⟩ := h
  obtain ⟨t, rfl⟩ := rx
  obtain ⟨t', rfl⟩ := ry
  exact rule i j t t' s _ _ hc ⟨.int (g i j), H, I.tok _, ⟨_, rfl⟩, q⟩
theorem opI0 {f : Value → Value → Sem Value} {g : Int → Int → Int}
    (rule : ∀ (i j : Int) (t u : Tok) (s : Shared) (Q : Value → Shared → Prop) (E : Value → Shared → Prop), Q (.int (g i j) s.toks) { s with toks := s.toks + 1 } → wpAny (model X.prog X.w) X.A (f (.int i t) (.int j u)) Q E s) :
    OpR X f (rI0 fun i j => .int (g i j)) := by
  intro pins s σ H x y v u Q I rx ry h
  obtain ⟨i, j, rfl, rfl, q⟩ := h
  obtain ⟨t, rfl⟩ := rx
  obtain ⟨t', rfl⟩ := ry
  exact rule i j t t' s _ _ ⟨.int (g i j), H, I.tok _, ⟨_, rfl⟩, q⟩
theorem opB0 {f : Value → Value → Sem Value} {g : Int → Int → Bool}
    (rule : ∀ (i j : Int) (t u : Tok) (s : Shared) (Q : Value → Shared → Prop) (E : Value → Shared → Prop), Q (.bool (g i j)) s → wpAny (model X.prog X.w) X.A (f (.int i t) (.int j u)) Q E s) :
    OpR X f (rI0 fun i j => .bl (g i j)) := by
  intro pins s σ H x y v u Q I rx ry h
  obtain ⟨i, j, rfl, rfl, q⟩ := h
  obtain ⟨t, rfl⟩ := rx
  obtain ⟨t', rfl⟩ := ry
  exact rule i j t t' s _ _ ⟨.bl (g i j), H, I, rfl, q⟩

noncomputable def CDiv (i j : Int) : Prop := 0 < j ∧ j < 1073741824
noncomputable def CPow (i j : Int) : Prop := 0 ≤ j ∧ j ≤ 1000000 ∧ i.natAbs < 2 ^ 64
noncomputable def CMul (i j : Int) : Prop := (-(2 ^ 64) < i ∧ i < 2 ^ 64) ∨ (-(2 ^ 64) < j ∧ j < 2 ^ 64)
theorem CMul.ok {i j : Int} (h : CMul i j) : IntMulOk i j := by
  rcases h with ⟨h1, h2⟩ | ⟨h1, h2⟩
  · exact .of_left (intBits_le_64 h1 h2)
  · exact .of_right (intBits_le_64 h1 h2)

theorem op_add : OpR X (binaryOp .Add) (rI0 fun i j => .int (i + j)) := opI0 fun _ _ _ _ _ _ _ q => add_int q
theorem op_sub : OpR X (binaryOp .Sub) (rI0 fun i j => .int (i - j)) := opI0 fun _ _ _ _ _ _ _ q => sub_int q
theorem op_mul : OpR X (binaryOp .Mult) (rI CMul fun i j => .int (i * j)) := opI fun _ _ _ _ _ _ _ hc q => mul_int q hc.ok
theorem op_fdiv : OpR X (binaryOp .FloorDiv) (rI CDiv fun i j => .int (i / j)) := opI fun i j _ _ _ _ _ hc q => by
  have h1 : (0 : Int) < j := hc.1
  have h2 : j < 1073741824 := hc.2
  exact floordiv_int (by omega) (by rw [Int.fdiv_eq_ediv_of_nonneg i (by omega)]; exact q) (.inl (PyProof.noPylong_small (by omega)))
theorem op_mod : OpR X (binaryOp .Mod) (rI (fun _ j => 0 < j) fun i j => .int (i % j)) := opI fun i j _ _ _ _ _ hc q => by
  have h1 : (0 : Int) < j := hc
  exact mod_int' (by omega) (by rw [Int.fmod_eq_emod_of_nonneg i (by omega)]; exact q)
theorem op_pow : OpR X (binaryOp .Pow) (rI CPow fun i j => .int (i ^ j.toNat)) := opI fun _ _ _ _ _ _ _ hc q => pow_int_small hc.1 hc.2.1 hc.2.2 q


theorem unI {f : Value → Sem Value} {g : Int → Int}
    (rule : ∀ (i : Int) (t : Tok) (s : Shared) (Q : Value → Shared → Prop) (E : Value → Shared → Prop), Q (.int (g i) s.toks) { s with toks := s.toks + 1 } → wpAny (model X.prog X.w) X.A (f (.int i t)) Q E s) :
    UnR X f (rU fun i => .int (g i)) := by
  intro pins s σ H x v Q I rx h
  obtain ⟨i, rfl, q⟩ := h
  obtain ⟨t, rfl⟩ := rx
  exact rule i t s _ _ ⟨.int (g i), H, I.tok _, ⟨_, rfl⟩, q⟩
theorem un_neg : UnR X (unaryOp .USub) (rU fun i => .int (-i)) := unI fun _ _ _ _ _ q => neg_int q

end

noncomputable def scal : V → V → Bool
  | .non, .non => true | .non, .int _ => true | .int _, .non => true | .non, .bl _ => true | .bl _, .non => true | .non, .str _ => true | .str _, .non => true
  | .int _, .int _ => true | .bl _, .bl _ => true | .str _, .str _ => true | .byt _, .byt _ => true
  | .int _, .str _ => true | .str _, .int _ => true | .bl _, .str _ => true | .str _, .bl _ => true
  | _, _ => false
noncomputable def rEq : R2 := fun x y H Q => scal x y = true ∧ Q (.bl (decide (x = y))) H
noncomputable def rNe : R2 := fun x y H Q => scal x y = true ∧ Q (.bl (!decide (x = y))) H

theorem dec_int {i j : Int} : decide (V.int i = V.int j) = (i == j) := by
  rw [Bool.eq_iff_iff]
  simp
theorem dec_bl {i j : Bool} : decide (V.bl i = V.bl j) = (i == j) := by
  rw [Bool.eq_iff_iff]
  simp
theorem dec_str {i j : Str} : decide (V.str i = V.str j) = (i == j) := by
  rw [Bool.eq_iff_iff]
  simp
theorem dec_byt {i j : Array UInt8} : decide (V.byt i = V.byt j) = (i.toList == j.toList) := by
  rw [Bool.eq_iff_iff]
  cases i
  cases j
  simp

section
variable {X : Cx} {a b c : Expr} {ta tb tc : TE} {pos : Pos}
theorem fin_bl {pins : List (Addr × Obj)} {σ : St} {H : Hp} {s : Shared} {Q : VK} {k k' : Bool} (I : Inv X pins σ H s) (q : Q (.bl k) H) (e : k = k') : EP X pins σ Q (.bool k') s := by
  subst e
  exact ⟨.bl k, H, I, rfl, q⟩
theorem op_eq : OpR X (compareOp .Eq) rEq := by
  intro pins s σ H x y v u Q I rx ry h
  obtain ⟨hs, q⟩ := h
  cases x with
  | non =>
    cases rx
    cases y with
    | non => cases ry; exact PySem.EqNone.eq_none_none (fin_bl I q (by simp))
    | bl j => cases ry; exact PySem.EqNone.eq_none_bool (fin_bl I q (by simp))
    | int j => obtain ⟨t', rfl⟩ := ry; exact PySem.EqNone.eq_none_int (fin_bl I q (by simp))
    | str j => obtain ⟨t', rfl⟩ := ry; exact PySem.EqNone.eq_none_str (fin_bl I q (by simp))
    | _ => exact absurd (show false = true from hs) Bool.false_ne_true
  | bl i =>
    cases rx
    cases y with
    | non => cases ry; exact PySem.EqNone.eq_bool_none (fin_bl I q (by simp))
    | bl j => cases ry; exact eq_bool (fin_bl I q dec_bl)
    | str j => obtain ⟨t', rfl⟩ := ry; exact PySem.EqMixed.eq_bool_str (fin_bl I q (by simp))
    | _ => exact absurd (show false = true from hs) Bool.false_ne_true
  | int i =>
    obtain ⟨t, rfl⟩ := rx
    cases y with
    | non => cases ry; exact PySem.EqNone.eq_int_none (fin_bl I q (by simp))
    | int j => obtain ⟨t', rfl⟩ := ry; exact eq_int (fin_bl I q dec_int)
    | str j => obtain ⟨t', rfl⟩ := ry; exact PySem.EqMixed.eq_int_str (fin_bl I q (by simp))
    | _ => exact absurd (show false = true from hs) Bool.false_ne_true
  | str i =>
    obtain ⟨t, rfl⟩ := rx
    cases y with
    | non => cases ry; exact PySem.EqNone.eq_str_none (fin_bl I q (by simp))
    | bl j => cases ry; exact PySem.EqMixed.eq_str_bool (fin_bl I q (by simp))
    | int j => obtain ⟨t', rfl⟩ := ry; exact PySem.EqMixed.eq_str_int (fin_bl I q (by simp))
    | str j => obtain ⟨t', rfl⟩ := ry; exact eq_str (fin_bl I q dec_str)
    | _ => exact absurd (show false = true from hs) Bool.false_ne_true
  | byt i =>
    obtain ⟨t, rfl⟩ := rx
    cases y with
    | byt j => obtain ⟨t', rfl⟩ := ry; exact PySem.W.eq_bytes (fin_bl I q dec_byt)
    | _ => exact absurd (show false = true from hs) Bool.false_ne_true
  | _ => cases y <;> exact absurd (show false = true from hs) Bool.false_ne_true
theorem op_ne : OpR X (compareOp .NotEq) rNe := by
  intro pins s σ H x y v u Q I rx ry h
  obtain ⟨hs, q⟩ := h
  cases x with
  | non =>
    cases rx
    cases y with
    | non => cases ry; exact PySem.EqNone.ne_none_none (fin_bl I q (by simp))
    | bl j => cases ry; exact PySem.EqNone.ne_none_bool (fin_bl I q (by simp))
    | int j => obtain ⟨t', rfl⟩ := ry; exact PySem.EqNone.ne_none_int (fin_bl I q (by simp))
    | str j => obtain ⟨t', rfl⟩ := ry; exact PySem.EqNone.ne_none_str (fin_bl I q (by simp))
    | _ => exact absurd (show false = true from hs) Bool.false_ne_true
  | bl i =>
    cases rx
    cases y with
    | non => cases ry; exact PySem.EqNone.ne_bool_none (fin_bl I q (by simp))
    | bl j => cases ry; exact ne_bool (fin_bl I q (congrArg not dec_bl))
    | str j => obtain ⟨t', rfl⟩ := ry; exact PySem.EqMixed.ne_bool_str (fin_bl I q (by simp))
    | _ => exact absurd (show false = true from hs) Bool.false_ne_true
  | int i =>
    obtain ⟨t, rfl⟩ := rx
    cases y with
    | non => cases ry; exact PySem.EqNone.ne_int_none (fin_bl I q (by simp))
    | int j => obtain ⟨t', rfl⟩ := ry; exact ne_int (fin_bl I q (congrArg not dec_int))
    | str j => obtain ⟨t', rfl⟩ := ry; exact PySem.EqMixed.ne_int_str (fin_bl I q (by simp))
    | _ => exact absurd (show false = true from hs) Bool.false_ne_true
  | str i =>
    obtain ⟨t, rfl⟩ := rx
    cases y with
    | non => cases ry; exact PySem.EqNone.ne_str_none (fin_bl I q (by simp))
    | bl j => cases ry; exact PySem.EqMixed.ne_str_bool (fin_bl I q (by simp))
    | int j => obtain ⟨t', rfl⟩ := ry; exact PySem.EqMixed.ne_str_int (fin_bl I q (by simp))
    | str j => obtain ⟨t', rfl⟩ := ry; exact ne_str (fin_bl I q (congrArg not dec_str))
    | _ => exact absurd (show false = true from hs) Bool.false_ne_true
  | byt i =>
    obtain ⟨t, rfl⟩ := rx
    cases y with
    | byt j => obtain ⟨t', rfl⟩ := ry; exact PySem.W.ne_bytes (fin_bl I q (congrArg not dec_byt))
    | _ => exact absurd (show false = true from hs) Bool.false_ne_true
  | _ => cases y <;> exact absurd (show false = true from hs) Bool.false_ne_true

theorem op_lt : OpR X (compareOp .Lt) (rI0 fun i j => .bl (decide (i < j))) := opB0 fun _ _ _ _ _ _ _ q => lt_int q
theorem op_gt : OpR X (compareOp .Gt) (rI0 fun i j => .bl (decide (j < i))) := opB0 fun _ _ _ _ _ _ _ q => gt_int q

theorem op_isN : OpR X (compareOp .Is) (fun x y H Q => y = .non ∧ Q (.bl (decide (x = .non))) H) := by
  intro pins s σ H x y v u Q I rx ry h
  obtain ⟨rfl, q⟩ := h
  cases ry
  refine is_none_gen (fin_bl I q ?_)
  cases x <;> first
    | (cases rx; rfl)
    | (obtain ⟨t, rfl⟩ := rx; rfl)



theorem nomark (b : Expr) {op : CmpOp} (h : op ≠ .In := by decide) (h2 : op ≠ .NotIn := by decide) : behindInMarks op b = false := by
  have e1 : (op == CmpOp.In) = false := by cases op <;> first | rfl | exact absurd rfl h
  have e2 : (op == CmpOp.NotIn) = false := by cases op <;> first | rfl | exact absurd rfl h2
  cases b <;> simp [behindInMarks, e1, e2]
theorem pe_cmpR {op : CmpOp} {r : R2} (ho : OpR X (compareOp op) r) (ha : PE X a ta) (hb : PE X b tb) (hm : behindInMarks op b = false) : PE X (.Compare a [op] [b] pos) (tOp r ta tb) := by
  intro pins s σ H Q I h
  exact wpAny_Compare1 (binT ha hb I h fun v u s2 x y H2 I2 rx ry q => ho pins s2 σ H2 x y v u Q I2 rx ry q) hm
inductive RTest (x : V) (H : Hp) (Q : Bool → Hp → Prop) : Prop
  | mk (k : Bool) (hx : x = .bl k) (q : Q k H) : RTest x H Q
noncomputable def tTest (t : TE) : TT := fun σ H Q => t σ H fun x H' => RTest x H' Q
theorem pt_cmpR {op : CmpOp} {r : R2} (ho : OpR X (compareOp op) r) (ha : PE X a ta) (hb : PE X b tb) (hm : behindInMarks op b = false) : PT X (.Compare a [op] [b] pos) (tTest (tOp r ta tb)) := by
  intro pins s σ H Q I h
  refine wpAny_isTrue_Compare1 (thn (ha pins s σ H _ I h) fun v s1 ⟨x, H1, I1, r1, q1⟩ => thn (hb pins s1 σ H1 _ I1 q1) fun u s2 ⟨y, H2, I2, r2, q2⟩ =>
    thn (ho pins s2 σ H2 x y v u _ I2 r1 r2 q2) fun c s3 ⟨z, H3, I3, r3, k, e, q3⟩ => ?_) hm
  subst e
  cases r3
  exact wpAny_truthy_bool ⟨H3, I3, q3⟩

theorem line63 : (sizeLine : Nat) < 2 ^ 63 := by rw [sizeLine_eq]; decide

inductive J_op_add_str (x : V) (y : V) (H : Hp) (Q : VK) : Prop
  | mk : ∀ i j, (x = .str i) → (y = .str j) → (i.length + j.length ≤ sizeLine) → (Q (.str (i ++ j)) H) → J_op_add_str x y H Q
theorem op_add_str : OpR X (binaryOp .Add) (fun x y H Q => J_op_add_str x y H Q) := by
  intro pins s σ H x y v u Q I rx ry h
  obtain ⟨i, j, rfl, rfl, hz, q⟩ := h
  obtain ⟨t, rfl⟩ := rx
  obtain ⟨t', rfl⟩ := ry
  exact add_str (fun t' tk => ⟨.str (i ++ j), H, I.tok _, ⟨_, rfl⟩, q⟩) hz


theorem vals1 {x : V} {us : List Value} (r : Vals [x] us) : ∃ u, us = [u] ∧ RelV x u := by
  cases r with
  | cons r1 r2 => cases r2; exact ⟨_, rfl, r1⟩
theorem vals2 {x y : V} {us : List Value} (r : Vals [x, y] us) : ∃ u w', us = [u, w'] ∧ RelV x u ∧ RelV y w' := by
  cases r with
  | cons r1 r2 =>
    cases r2 with
    | cons r3 r4 => cases r4; exact ⟨_, _, rfl, r1, r3⟩
inductive J_call_max2 (xs : List V) (H : Hp) (Q : VK) : Prop
  | mk : ∀ i j, (xs = [.int i, .int j]) → (Q (.int (if j > i then j else i)) H) → J_call_max2 xs H Q
theorem call_max2 (hc : X.calm = true) : CallR X (.builtin "max") (fun xs H Q => J_call_max2 xs H Q) := by
  intro pins s σ H xs us Q I r h
  obtain ⟨i, j, rfl, q⟩ := h
  obtain ⟨u, w', rfl, ⟨t, rfl⟩, ⟨t', rfl⟩⟩ := vals2 r
  refine max_two_ints (I.ok.hd hc) fun h' tk k => ⟨_, H, I.kept k, ?_, q⟩
  by_cases hj : j > i
  · rw [if_pos hj, if_pos hj]; exact ⟨_, rfl⟩
  · rw [if_neg hj, if_neg hj]; exact ⟨_, rfl⟩
inductive J_call_min2 (xs : List V) (H : Hp) (Q : VK) : Prop
  | mk : ∀ i j, (xs = [.int i, .int j]) → (Q (.int (if j < i then j else i)) H) → J_call_min2 xs H Q
theorem call_min2 (hc : X.calm = true) : CallR X (.builtin "min") (fun xs H Q => J_call_min2 xs H Q) := by
  intro pins s σ H xs us Q I r h
  obtain ⟨i, j, rfl, q⟩ := h
  obtain ⟨u, w', rfl, ⟨t, rfl⟩, ⟨t', rfl⟩⟩ := vals2 r
  refine min_two_ints (I.ok.hd hc) fun h' tk k => ⟨_, H, I.kept k, ?_, q⟩
  by_cases hj : j < i
  · rw [if_pos hj, if_pos hj]; exact ⟨_, rfl⟩
  · rw [if_neg hj, if_neg hj]; exact ⟨_, rfl⟩
end
end L2

namespace L2
open PySem PySem.Spec PyProof.Rows

structure ObjM (h : Heap) (x dx C : Addr) (mA : Str → Option Value) : Prop where
  obj : h.get? x = some (PySem.W.instObj C dx)
  ns : h.Ns1 dx mA
  ne : dx ≠ x

theorem lookIn_ns {h : Heap} {dx : Addr} {mA : Str → Option Value} (n : h.Ns1 dx mA) : ∃ od, h.get? dx = some od ∧ ∀ name, PySem.W.lookIn name od = some (mA name) := by
  obtain ⟨o, es, ep, ho, hd, hk, _, hm⟩ := n
  refine ⟨o, ho, fun name => ?_⟩
  have e := hm name
  unfold nsFind findBy at e
  rw [← Array.find?_toList] at e
  unfold PySem.W.lookIn
  rw [hd]
  dsimp only
  split
  · rename_i y q
    rw [q] at e
    exact congrArg some e
  · rename_i q
    rw [q] at e
    have a : es.toList.any (·.refKey) = false := by
      rw [List.any_eq_false]
      intro y hy
      obtain ⟨z, t, hkey⟩ := hk y (Array.mem_toList_iff.mp hy)
      simp [DictEntry.refKey, hkey]
    have a' : ¬ es.toList.any (·.refKey) = true := by rw [a]; exact Bool.false_ne_true
    rw [if_neg a']
    exact congrArg some e

theorem ObjM.look {h : Heap} {x dx C : Addr} {mA : Str → Option Value} (I : ObjM h x dx C mA) : ∃ od, PySem.W.InstAt h x (PySem.W.instObj C dx) C (some od) ∧ ∀ name, PySem.W.lookIn name od = some (mA name) :=
  let ⟨od, ho, hl⟩ := lookIn_ns I.ns
  ⟨od, ⟨I.obj, rfl, rfl, ho⟩, hl⟩

section
variable {prog : Program} {w : World} {A : Around} {E : Value → Shared → Prop} {s : Shared} {K : PySem.W.Frag} {x dx C f : Addr} {mA : Str → Option Value} {name : Str} {v : Value}





end


theorem RelO.some_of {v : V} {o : Option Value} (r : RelO (some v) o) : ∃ u, o = some u ∧ RelV v u := by
  cases o with
  | none => exact (show False from r).elim
  | some u => exact ⟨u, rfl, r⟩

section
variable {P : Program} {w : World} {H H' : Hp} {h h' : Heap} {a C dx : Addr} {fs fs' : List (Str × V)}
theorem ins_get (hok : HOk P w H h) (e : H a = some (.ins C dx fs)) : ∃ mA, ObjM h a dx C mA ∧ (∀ f, RelO (fs.lookup f) (mA f)) ∧ PySem.Within mA (fs.map (·.1)) ∧ fs.length ≤ 1000 ∧ H dx = some (.own a) := by
  obtain ⟨d, z, ne, ob, mA, n, r, q⟩ := (show ObjOk P w H h a (.ins C dx fs) from hok a _ e)
  exact ⟨mA, ⟨ob, n, ne⟩, r, q, z, d⟩
end

structure Cls (K : PySem.W.Frag) (C : Addr) : Prop where
  pg : PySem.W.plainGet K C Str.empty = true
  hd : PySem.W.hasDictIn K C = true
  po : PySem.W.plainOver K C = true
  sa : PySem.W.findIn K (.ref C) "__setattr__" = some (some (.builtin "object.__setattr__"))
theorem Cls.get {K : PySem.W.Frag} {C : Addr} (c : Cls K C) (f : Str) : PySem.W.plainGet K C f = true := c.pg

section
variable {X : Cx} {pins : List (Addr × Obj)} {σ : St} {H : Hp} {s : Shared} {a C dx : Addr} {fs : List (Str × V)} {f : Str} {v : V} {A : Around} {E : Value → Shared → Prop}






end


section
variable {X : Cx} {o e value : Expr} {f : Str} {pos pos' tpos : Pos} {ta tv : TE}

end

section
variable {X : Cx} {pins : List (Addr × Obj)} {σ : St} {H : Hp} {s : Shared} {A : Around} {E : Value → Shared → Prop} {Q : Value → Shared → Prop} {c : Value} {b : Bool}
inductive TyOf (K : PySem.W.Frag) (H : Hp) : V → Value → Prop where
  | non : TyOf K H .non (.type "NoneType")
  | bl (x : Bool) : TyOf K H (.bl x) (.type "bool")
  | int (i : Int) : TyOf K H (.int i) (.type "int")
  | str (x : Str) : TyOf K H (.str x) (.type "str")
  | flt (x : UInt64) : TyOf K H (.flt x) (.type "float")
  | lst {a : Addr} {xs : List V} (e : H a = some (.lst xs)) : TyOf K H (.ref a) (.type "list")
  | frz {a : Addr} {o : Obj} {xs : List V} (e : H a = some (.frz o (.lst xs))) : TyOf K H (.ref a) (.type "list")
  | tup {a : Addr} {xs : List V} (e : H a = some (.tup xs)) : TyOf K H (.ref a) (.type "tuple")
  | dK {a : Addr} {kvs : List (Key × V)} (e : H a = some (.dK kvs)) : TyOf K H (.ref a) (.type "dict")
  | dT {a : Addr} {kvs : List (List Key × V)} (e : H a = some (.dT kvs)) : TyOf K H (.ref a) (.type "dict")
  | ins {a C dx : Addr} {fs : List (Str × V)} (e : H a = some (.ins C dx fs)) (cl : Cls K C) (ha : PySem.W.findIn K (.ref C) "__class__" = some (some (.builtin "object.__class__")))
      (hn : PySem.W.specialIn K (.builtin "object.__class__") "__get__" = some (some (.builtin "getset_descriptor.__get__"))) (htk : PySem.W.takesIn K (.builtin "object.__class__") = some true)
      (hm : PySem.W.mroIn K C (.type "object") = some true) : TyOf K H (.ref a) (.ref C)
theorem isinst_ok {x : V} {u t : Value} (I : Inv X pins σ H s) (rx : RelV x u) (ty : TyOf X.K H x t) (e : PySem.W.kitOne X.K t c = some b) (h : ∀ tk, Q (.bool b) { s with toks := tk }) :
    wpAny (model X.prog X.w) A (call (.builtin "isinstance") [u, c]) Q E s := by
  cases ty with
  | non => cases (show u = Value.none from rx); exact PySem.W.kia_one PySem.W.kitx_none I.kIn True.intro e (fun z => nomatch z) h
  | bl y => cases (show u = Value.bool y from rx); exact PySem.W.kia_one PySem.W.kitx_bool I.kIn True.intro e (fun z => nomatch z) h
  | int i => obtain ⟨t, q⟩ := (show ∃ t, u = Value.int i t from rx); cases q; exact PySem.W.kia_one PySem.W.kitx_int I.kIn True.intro e (fun z => nomatch z) h
  | str y => obtain ⟨t, q⟩ := (show ∃ t, u = Value.str y t from rx); cases q; exact PySem.W.kia_one PySem.W.kitx_str I.kIn True.intro e (fun z => nomatch z) h
  | flt y => obtain ⟨t, q⟩ := (show ∃ t, u = Value.float y t from rx); cases q; exact PySem.W.kia_one PySem.W.kitx_float I.kIn True.intro e (fun z => nomatch z) h
  | @lst a xs ea =>
    cases (show u = Value.ref a from rx)
    obtain ⟨_, _, n, _, h1⟩ := (show ObjOk X.prog X.w H s.heap a (.lst xs) from I.hok a _ ea)
    exact PySem.W.kia_one PySem.W.kitx_list I.kIn ⟨_, h1, rfl⟩ e (fun z => nomatch z) h
  | @frz a ob xs ea =>
    cases (show u = Value.ref a from rx)
    obtain ⟨_, _, _, n, _, h1⟩ := (show ObjOk X.prog X.w H s.heap a (.frz ob (.lst xs)) from I.hok a _ ea)
    exact PySem.W.kia_one PySem.W.kitx_list I.kIn ⟨_, h1, rfl⟩ e (fun z => nomatch z) h
  | @tup a xs ea =>
    cases (show u = Value.ref a from rx)
    obtain ⟨_, _, _, p⟩ := (show ObjOk X.prog X.w H s.heap a (.tup xs) from I.hok a _ ea)
    obtain ⟨o, h1, h2, _⟩ := p
    exact PySem.W.kia_one PySem.W.kitx_tuple I.kIn ⟨o, h1, h2⟩ e (fun z => nomatch z) h
  | @dK a kvs ea =>
    cases (show u = Value.ref a from rx)
    obtain ⟨_, _, vs, _, p⟩ := (show ObjOk X.prog X.w H s.heap a (.dK kvs) from I.hok a _ ea)
    obtain ⟨o, es, ep, h1, h2, _⟩ := p
    exact PySem.W.kia_one PySem.W.kitx_dict I.kIn ⟨o, h1, h2.1⟩ e (fun z => nomatch z) h
  | @dT a kvs ea =>
    cases (show u = Value.ref a from rx)
    obtain ⟨_, _, xs, _, o, es, ep, h1, h2, _⟩ := (show ObjOk X.prog X.w H s.heap a (.dT kvs) from I.hok a _ ea)
    exact PySem.W.kia_one PySem.W.kitx_dict I.kIn ⟨o, h1, h2.1⟩ e (fun z => nomatch z) h
  | @ins a C dx fs ea cl ha hn htk hm =>
    cases (show u = Value.ref a from rx)
    obtain ⟨mA, O, _⟩ := ins_get I.hok ea
    obtain ⟨od, J, _⟩ := O.look
    exact PySem.W.kia_one (PySem.W.kitx_own (cl.get _) cl.hd ha hn htk hm) I.kIn J e (fun z => nomatch z) h
end
end L2

namespace L2
open PySem PySem.Spec PyProof.Rows

structure Room (k : Nat) (A : Around) : Prop where
  hd : A.handled = none
  dp : A.depth + 3 * k + 5 < recursionLimit
  un : A.units + 16 * k + 200 < cLine
theorem Room.mono {j k : Nat} {A : Around} (r : Room k A) (h : j ≤ k) : Room j A := ⟨r.hd, by have := r.dp; omega, by have := r.un; omega⟩
theorem Room.deeper {k : Nat} {A : Around} (r : Room (k + 1) A) (env : Env) : Room k (A.deeper env) :=
  ⟨r.hd, by have := r.dp; show A.depth + 1 + 3 * k + 5 < _; omega, by have := r.un; show A.units + 3 + 16 * k + 200 < _; omega⟩
theorem Room.depth {k : Nat} {A : Around} (r : Room k A) : A.depth < recursionLimit := by have := r.dp; omega
theorem Room.units {k : Nat} {A : Around} (r : Room k A) : A.units + 64 < cLine := by have := r.un; omega

noncomputable def tNil : TA := fun _ H Q => Q [] H
noncomputable def tCons (ta : TE) (tr : TA) : TA := fun σ H Q => ta σ H fun x H1 => tr σ H1 fun xs H2 => Q (x :: xs) H2
section
variable {X : Cx} {e : Expr} {es : List Expr} {te : TE} {t : TA} {pos : Pos}
theorem pa_nil : PA X [] tNil := fun _ _ _ _ H Q I h => Calls.spliced_nil ⟨[], H, I, .nil, h⟩
theorem pa_cons (ha : PE X e te) (hr : PA X es t) (hs : starEach (e :: es) X.env = (false, eval e X.env) :: starEach es X.env := by rfl) : PA X (e :: es) (tCons te t) := by
  intro pos pins s σ H Q I h
  rw [hs]
  show wpAny _ _ (spliced ((false, eval e X.env) :: backTo pos (starEach es X.env))) _ _ s
  refine Calls.spliced_cons (thn (ha pins s σ H _ I h) fun u s1 ⟨x, H1, I1, r1, q1⟩ => ?_)
  exact thn (hr pos pins s1 σ H1 _ I1 q1) fun us s2 ⟨xs, H2, I2, r2, q2⟩ => ⟨x :: xs, H2, I2, .cons r1 r2, q2⟩

noncomputable def tTup (t : TA) : TE := fun σ H Q => t σ H fun xs H1 => xs.length ≤ sizeLine ∧ ∀ p, H1 p = none → Q (.ref p) (upd H1 p (.tup xs))
noncomputable def tLst (t : TA) : TE := fun σ H Q => t σ H fun xs H1 => xs.length ≤ sizeLine ∧ ∀ p, H1 p = none → Q (.ref p) (upd H1 p (.lst xs))
theorem pe_tup {x1} (h : PA X es t) : PE X (.Tuple es x1 pos) (tTup t) := by
  intro pins s σ H Q I hq
  refine wpAny_Tuple_spliced (thn (h pos pins s σ H _ I hq) fun us s1 ⟨xs, H1, I1, r, z, q⟩ => ⟨by rw [← r.length]; exact z, ?_⟩)
  have hf : H1 s1.heap.objs.size = none := I1.hok.fresh (Nat.le_refl _)
  refine ⟨.ref s1.heap.objs.size, upd H1 s1.heap.objs.size (.tup xs), I1.laid (t' := s1.toks) (fun b u e => Heap.get?_push_of_some _ e) (Nat.le_refl _) ?_, rfl, q _ hf⟩
  exact ⟨z, us, r, ⟨_, Heap.get?_push_size _ rfl, rfl, _, rfl⟩⟩
theorem pe_lst (h : PA X es t) : PE X (.List es pos) (tLst t) := by
  intro pins s σ H Q I hq
  refine wpAny_List_spliced (thn (h pos pins s σ H _ I hq) fun us s1 ⟨xs, H1, I1, r, z, q⟩ => ⟨by rw [← r.length]; exact z, ?_⟩)
  have hf : H1 s1.heap.objs.size = none := I1.hok.fresh (Nat.le_refl _)
  refine ⟨.ref s1.heap.objs.size, upd H1 s1.heap.objs.size (.lst xs), I1.laid (t' := s1.toks) (fun b u e => Heap.get?_push_of_some _ e) (Nat.le_refl _) ?_, rfl, q _ hf⟩
  exact ⟨z, us, 0, r, Heap.get?_push_size _ rfl⟩
end

noncomputable abbrev Sp := List V → Hp → VK → XK → Prop
noncomputable abbrev CXT := List Env → Hp → Shared → XK → Value → Shared → Prop

structure Env0 (P : Program) (w : World) (K : PySem.W.Frag) (mg : Str → Option Value) (base : Heap) (A : Around) (outer : List Env) (s : Shared) (H : Hp) : Prop where
  frames : A.frames = some outer
  mod : Mod K mg base
  bs : ∀ b o, base.get? b = some o → s.heap.get? b = some o ∧ H b = none
  bsz : base.objs.size ≤ s.heap.objs.size
  funs : s.heap.FunFrames base outer
  frf : ∀ b ∈ frs outer, H b = none
  hok : HOk P w H s.heap
  bare : AllBare s.gens
noncomputable def CE (outer : List Env) (P : Program) (w : World) (H : Hp) (s : Shared) (Q : VK) (u : Value) (s' : Shared) : Prop :=
  ∃ v H', s'.os = s.os ∧ AllBare s'.gens ∧ Un (frs outer) [] H H' s.heap s'.heap ∧ HOk P w H' s'.heap ∧ RelV v u ∧ Q v H'
noncomputable def CR (CX : CXT) (outer : List Env) (P : Program) (w : World) (H : Hp) (s : Shared) (Q : VK) (E : XK) (r : Result) (s' : Shared) : Prop :=
  match r with
  | .ok (.ret u) => CE outer P w H s Q u s'
  | .ok _ => False
  | .error e => CX outer H s E e s'
structure FnOk (P : Program) (w : World) (K : PySem.W.Frag) (mg : Str → Option Value) (base : Heap) (CX : CXT) (k : Nat) (f : Addr) (fd : FuncData) (ps : List Str) (sp : Sp) : Prop where
  len : ∀ vs H Q E, sp vs H Q E → vs.length = ps.length
  run : ∀ (A : Around) (outer : List Env) (s : Shared) (H : Hp) (args : Args) (us : List Value) (vs : List V) (Q : VK) (E : XK), Room k A → Env0 P w K mg base A outer s H → BindsTo s fd args (ps.zip us) → Vals vs us → sp vs H Q E →
    codeAny (model P w) A (.call (.ref f) args) (CR CX outer P w H s Q E) s


section
variable {X : Cx} {pins : List (Addr × Obj)} {σ : St} {H : Hp} {s s' : Shared}
theorem Inv.env0 (I : Inv X pins σ H s) : Env0 X.prog X.w X.K X.mg X.base X.A X.stack s H :=
  ⟨I.ok.frames, I.ok.mod, I.bs, Nat.le_trans I.ok.bsz I.sz, I.stack, I.stkFree, I.hok, I.bare⟩
theorem Inv.after {Q : VK} {u : Value} (I : Inv X pins σ H s) (h : CE X.stack X.prog X.w H s Q u s') : EP X pins σ Q u s' := by
  obtain ⟨v, H', os, bare, un, hok, r, q⟩ := h
  obtain ⟨hh, g, d, t, os'⟩ := s'
  obtain rfl : os' = s.os := os
  exact ⟨v, H', I.call (h' := hh) (g' := g) (d' := d) (t' := t) (ch := []) un hok bare (fun b z => absurd z (by simp)), r, q⟩
end

noncomputable def tCall (sp : Sp) (dvs : List V) (E : XK) (t : TA) : TE := fun σ H Q => t σ H fun vs H1 => sp (vs ++ dvs) H1 Q E

noncomputable def Binds (K : PySem.W.Frag) (fd : FuncData) (ps : List Str) (ds : List Value) : Prop :=
  ∀ (s : Shared) (us : List Value), K.In s.heap → (us ++ ds).length = ps.length → BindsTo s fd ⟨us, []⟩ (ps.zip (us ++ ds))
theorem Binds.all {K : PySem.W.Frag} {fd : FuncData} {ps : List Str} (h : ∀ us : List Value, us.length = ps.length → bindArgs fd ⟨us, []⟩ = pure (ps.zip us)) : Binds K fd ps [] := fun s us _ hl => by
  rw [List.append_nil] at hl ⊢
  exact .of_eq (h us hl)

noncomputable def Passes (CX : CXT) (X : Cx) (E : XK) : Prop := ∀ (pins : List (Addr × Obj)) (σ : St) (H : Hp) (s : Shared) (e : Value) (s' : Shared), Inv X pins σ H s → CX X.stack H s E e s' → X.xe e s'

section
variable {X : Cx} {CX : CXT} {k : Nat} {f C : Addr} {fd : FuncData} {ps : List Str} {sp : Sp} {dvs : List V} {ds : List Value} {E : XK} {x m : Str} {p pos apos : Pos} {e o : Expr} {es : List Expr} {ta : TE} {t : TA}

theorem run_fn {pins : List (Addr × Obj)} {σ : St} {H : Hp} {s : Shared} {Q : VK} {us : List Value} {vs : List V} (F : FnOk X.prog X.w X.K X.mg X.base CX k f fd ps sp) (hr : Room k X.A) (hb : Binds X.K fd ps ds) (hd : Vals dvs ds) (hx : Passes CX X E)
    (I : Inv X pins σ H s) (r : Vals vs us) (h : sp (vs ++ dvs) H Q E) : wpAny (model X.prog X.w) X.A (call (.ref f) us) (EP X pins σ Q) X.xe s := by
  have r2 : Vals (vs ++ dvs) (us ++ ds) := r.append hd
  have hl : (us ++ ds).length = ps.length := by rw [← r2.length]; exact F.len _ _ _ _ h
  refine wpAny_call (codeAny_mono (F.run X.A X.stack s H ⟨us, []⟩ (us ++ ds) (vs ++ dvs) Q E hr I.env0 (hb s us I.kIn hl) r2 h) fun r s' hq => ?_)
  cases r with
  | error e => exact hx pins σ H s e s' I hq
  | ok fl =>
    cases fl with
    | ret u => exact I.after hq
    | next => exact False.elim hq
    | brk => exact False.elim hq
    | cont => exact False.elim hq

theorem pe_call (F : FnOk X.prog X.w X.K X.mg X.base CX k f fd ps sp) (hr : Room k X.A) (hg : Gl X x) (hm : X.mg x = some (.ref f)) (hk : PySem.W.keepIn X.K (.ref f) = true) (hb : Binds X.K fd ps ds) (hd : Vals dvs ds) (hx : Passes CX X E)
    (ha : PA X (e :: es) t) (hdb : (x == ("__debug__" : Str)) = false := by decide) (he : starEach (e :: es) X.env = (false, eval e X.env) :: starEach es X.env := by rfl) (hpl : (backTo pos (starEach es X.env)).any (·.1) = false := by rfl) :
    PE X (.Call (.Name x p) (e :: es) [] pos) (tCall sp dvs E t) := by
  intro pins s σ H Q I h
  refine wpAny_Call_Name_kw (ld_glob I hg hm ?_ hdb)
  refine PySem.W.callWith_K (h₀ := X.base) I.ok.mod.kin hk (thn (ha pos pins s σ H _ I h) fun us s1 ⟨vs, H1, I1, r, q⟩ => ⟨I1.kIn, ?_⟩) he hpl
  exact run_fn F hr hb hd hx I1 r q



end

section
variable {X : Cx} {CX : CXT} {k : Nat} {f C : Addr} {fd : FuncData} {ps ks : List Str} {sp : Sp} {E : XK} {x m : Str} {p pos apos kpos : Pos} {e o : Expr} {es : List Expr} {kws : List Keyword} {te ta : TE} {t tk : TA} {nm : Option Str}

variable {g : List Value → List Value → List Value} {gV : List V → List V → List V}
end

structure FnScope (N P : List Str) (sc : Scope) : Prop where
  kind : sc.kind = .function
  co : sc.isCoroutine = false
  gen : sc.isGenerator = false
  nd : N.Nodup
  pre : N.take P.length = P
  par : ∀ x ∈ P, sc.names.lookup x = some .local ∨ sc.names.lookup x = some .cell
  nofree : ∀ y ∈ sc.names, y.2 ≠ .free

theorem bindL_out {kindOf : Str → Option NameKind} {x : Str} : ∀ {binds : List (Str × Value)} {m : Str → Option Value}, (∀ v, (x, v) ∉ binds) → bindL kindOf binds m x = m x
  | [], _, _ => rfl
  | (n, v) :: r, m, h => by
    unfold bindL
    rw [bindL_out fun w hw => h w (List.mem_cons_of_mem _ hw)]
    split
    · have : x ≠ n := by rintro rfl; exact h v List.mem_cons_self
      simp [this]
    · rfl
theorem bindC_out {kindOf : Str → Option NameKind} {x : Str} : ∀ {binds : List (Str × Value)} {m : Str → Option Value}, (∀ v, (x, v) ∉ binds) → bindC kindOf binds m x = m x
  | [], _, _ => rfl
  | (n, v) :: r, m, h => by
    unfold bindC
    rw [bindC_out fun w hw => h w (List.mem_cons_of_mem _ hw)]
    split
    · rfl
    · have : x ≠ n := by rintro rfl; exact h v List.mem_cons_self
      simp [this]
theorem bindL_get {kindOf : Str → Option NameKind} {x : Str} {v : Value} : ∀ {P : List Str} {vs : List Value} {i : Nat} {m : Str → Option Value}, P.Nodup → P[i]? = some x → vs[i]? = some v → kindOf x = some .local →
    bindL kindOf (P.zip vs) m x = some v
  | [], _, _, _, _, h, _, _ => by simp at h
  | _ :: _, [], _, _, _, _, h, _ => by simp at h
  | p :: P, w :: vs, 0, m, nd, h1, h2, hk => by
    simp at h1 h2; subst h1; subst h2
    show bindL kindOf ((p, w) :: P.zip vs) m p = _
    unfold bindL
    rw [bindL_out fun v hv => (List.nodup_cons.mp nd).1 (List.of_mem_zip hv).1, if_pos hk]
    simp
  | p :: P, w :: vs, i + 1, m, nd, h1, h2, hk => by
    show bindL kindOf ((p, w) :: P.zip vs) m x = _
    unfold bindL
    exact bindL_get (i := i) (List.nodup_cons.mp nd).2 (by simpa using h1) (by simpa using h2) hk
theorem bindC_get {kindOf : Str → Option NameKind} {x : Str} {v : Value} : ∀ {P : List Str} {vs : List Value} {i : Nat} {m : Str → Option Value}, P.Nodup → P[i]? = some x → vs[i]? = some v → kindOf x ≠ some .local →
    bindC kindOf (P.zip vs) m x = some v
  | [], _, _, _, _, h, _, _ => by simp at h
  | _ :: _, [], _, _, _, _, h, _ => by simp at h
  | p :: P, w :: vs, 0, m, nd, h1, h2, hk => by
    simp at h1 h2; subst h1; subst h2
    show bindC kindOf ((p, w) :: P.zip vs) m p = _
    unfold bindC
    rw [bindC_out fun v hv => (List.nodup_cons.mp nd).1 (List.of_mem_zip hv).1, if_neg hk]
    simp
  | p :: P, w :: vs, i + 1, m, nd, h1, h2, hk => by
    show bindC kindOf ((p, w) :: P.zip vs) m x = _
    unfold bindC
    exact bindC_get (i := i) (List.nodup_cons.mp nd).2 (by simpa using h1) (by simpa using h2) hk

noncomputable def start (N : List Str) (vs : List V) : St := vs.map some ++ List.replicate (N.length - vs.length) none

noncomputable def cxOf (CX : CXT) (P : Program) (w : World) (K : PySem.W.Frag) (mg : Str → Option Value) (base : Heap) (N : List Str) (qual : Str) (scope : Scope) (f : Addr) (cd : Value) (A : Around) (outer : List Env) (s : Shared) (H : Hp) (E : XK) : Cx where
  prog := P
  w := w
  K := K
  mg := mg
  base := base
  A := A.deeper (envOfC qual scope s.heap.objs.size f cd)
  N := N
  s₀ := s
  H₀ := H
  env := envOfC qual scope s.heap.objs.size f cd
  outer := outer
  stack := envOfC qual scope s.heap.objs.size f cd :: outer
  ex := []
  calm := true
  fn := fun _ => true
  pn := []
  xe := fun e s' => wpAny (model P w) (A.deeper (envOfC qual scope s.heap.objs.size f cd)) (leaving (envOfC qual scope s.heap.objs.size f cd) e) (fun _ s'' => CX outer H s E e s'') (fun e' s'' => CX outer H s E e' s'') s'

theorem cell_has {sc : Scope} {n : Nat} {x : Str} (h : sc.names.lookup x = some .cell) : ∃ c, (cellsFrom n sc.names []).lookup x = some c := by
  have q := PySem.W.cellsFrom_some sc.names n [] (.inl h)
  exact Option.isSome_iff_exists.mp q

theorem inv_start {CX : CXT} {P : Program} {w : World} {K : PySem.W.Frag} {mg : Str → Option Value} {base : Heap} {N ps : List Str} {qual : Str} {scope : Scope} {f : Addr} {cd : Value} {A : Around} {outer : List Env} {s s1 : Shared} {H : Hp} {E : XK} {us : List Value} {vs : List V}
    (S : FnScope N ps scope) (hd : A.handled = none) (e0 : Env0 P w K mg base A outer s H) (hl : vs.length = ps.length) (r : Vals vs us)
    (x : InCallC s s.heap.objs.size (bindL (envOfC qual scope s.heap.objs.size f cd).kindOf (ps.zip us) fun _ => none) (cellsFrom (s.heap.objs.size + 1) scope.names []) (bindC (envOfC qual scope s.heap.objs.size f cd).kindOf (ps.zip us) fun _ => none) s1) :
    Inv (cxOf CX P w K mg base N qual scope f cd A outer s H E) [] (start N vs) H s1 := by
  have hpl : ps.length ≤ N.length := by have := congrArg List.length S.pre; rw [List.length_take] at this; omega
  obtain ⟨h1, tk, rfl, hk⟩ := x.done
  have noA : ∀ b : Addr, b ∉ (cxOf CX P w K mg base N qual scope f cd A outer s H E).ex := fun b z => absurd (show b ∈ ([] : List Addr) from z) (by simp)
  refine ⟨⟨e0.mod, S.kind, rfl, rfl, Nat.le_refl _, fun y z c h1 h2 => ?_, fun y hy => ?_, fun y c _ h => ?_, fun _ => hd, Around.frames_deeper e0.frames, .inr ⟨rfl, rfl⟩, fun b z => absurd z (noA b), e0.bs, e0.bsz, fun b _ _ => noA b, fun b z => absurd z (noA b), e0.funs, e0.frf⟩,
    rfl, e0.bare, Un.kept hk, ⟨_, x.toInCall.ns, fun i y v h1 h2 h3 => ?_⟩, fun y c h => ⟨_, x.cell y c h⟩, e0.hok.fresh (Nat.le_refl _), fun y c h => ?_, fun p hp => absurd (show p ∈ ([] : List (Addr × Obj)) from hp) (by simp), e0.hok.kept hk, ?_⟩
  · exact name_of_addr x.apart (PySem.mem_of_lookup h1) (PySem.mem_of_lookup h2)
  · have hy : scope.names.lookup y = some .cell ∨ scope.names.lookup y = some .free := hy
    rcases hy with hy | hy
    · exact cell_has hy
    · exact absurd rfl (S.nofree _ (PySem.mem_of_lookup hy))
  · exact Nat.le_of_lt (x.above y c (PySem.mem_of_lookup h))
  · have hi : i < vs.length := by
      unfold start at h2
      by_cases hi : i < vs.length
      · exact hi
      · rw [List.getElem?_append_right (by simpa using hi)] at h2
        rw [List.getElem?_replicate] at h2
        split at h2 <;> cases h2
    have ha : vs[i]? = some v := by
      unfold start at h2
      rw [List.getElem?_append_left (by simpa using hi), List.getElem?_map] at h2
      cases e : vs[i]? with
      | none => rw [e] at h2; cases h2
      | some a => rw [e] at h2; cases h2; rfl
    obtain ⟨u, hu, rv⟩ := r.get ha
    have hp : ps[i]? = some y := by
      rw [← S.pre, List.getElem?_take_of_lt (by omega)]; exact h1
    have ndP : ps.Nodup := by rw [← S.pre]; exact S.nd.sublist (List.take_sublist _ _)
    refine ⟨u, rv, ?_⟩
    rcases S.par y (List.mem_of_getElem? hp) with k | k
    · exact .inl ⟨k, bindL_get ndP hp hu k⟩
    · obtain ⟨c, e⟩ := cell_has (n := s.heap.objs.size + 1) k
      refine .inr ⟨.inl k, c, e, ?_⟩
      have q := x.cell y c e
      rw [bindC_get ndP hp hu (by show scope.names.lookup y ≠ _; rw [k]; decide)] at q
      exact q
  · exact e0.hok.fresh (Nat.le_of_lt (x.above y c (PySem.mem_of_lookup h)))
  · unfold start
    show _ = N.length
    rw [List.length_append, List.length_map, List.length_replicate]
    omega

theorem fn_of {CX : CXT} {P : Program} {w : World} {K : PySem.W.Frag} {mg : Str → Option Value} {base : Heap} {k : Nat} {f : Addr} {name qual : Str} {params : Arguments} {body : List Stmt} {scope : Scope} {dV kV doc pm cdv ct oc : Value} {an od : Option Addr}
    {osl : Array (Option Value)} {N ps : List Str} {sp : Sp} (lk : K.lookup f = some ⟨oc, od, .func (PySem.W.fnOf name qual params body scope dV kV doc pm an cdv ct), osl⟩) (hcd : PySem.W.codeIn K cdv qual = true) (S : FnScope N ps scope)
    (len : ∀ vs H Q E, sp vs H Q E → vs.length = ps.length)
    (hbody : ∀ (A : Around) (outer : List Env) (s : Shared) (H : Hp) (vs : List V) (Q : VK) (E : XK), Room k (A.deeper (envOfC qual scope s.heap.objs.size f cdv)) → sp vs H Q E →
      ∃ t, PSs (cxOf CX P w K mg base N qual scope f cdv A outer s H E) body t ∧ t { nx := fun _ H' => Q .non H', rt := Q } (start N vs) H) :
    FnOk P w K mg base CX (k + 1) f (PySem.W.fnOf name qual params body scope dV kV doc pm an cdv ct) ps sp := by
  refine ⟨len, fun A outer s H args us vs Q E hr e0 hb r hsp => ?_⟩
  have hl := len _ _ _ _ hsp
  have KX : K.In s.heap := e0.mod.kin.keeps fun b o e => (e0.bs b o e).1
  have lim : s.heap.NoLimit := e0.mod.nolimit.keeps fun b o e => (e0.bs b o e).1
  have hkind : ∀ y ∈ ps.zip us, scope.names.lookup y.1 = some .local ∨ (scope.names.lookup y.1 = some .cell ∧ ((cellsFrom (s.heap.objs.size + 1) scope.names []).lookup y.1).isSome = true) := fun ⟨n, v⟩ hy => by
    rcases S.par n (List.of_mem_zip hy).1 with q | q
    · exact .inl q
    · exact .inr ⟨q, PySem.W.cellsFrom_some _ _ _ (.inl q)⟩
  refine codeAny_call_function hr.depth (KX _ _ lk) rfl S.co S.gen rfl (PySem.W.codeRec_of KX hcd) (hb _ _ _ _ ?_)
  refine wpAny_newFunctionEnv_cells S.kind hkind fun env he s1 x => ?_
  subst he
  refine ⟨lim.keeps x.toInCall.keep, codeAny_func ?_⟩
  obtain ⟨t, ht, hq⟩ := hbody A outer s H vs Q E (hr.deeper _) hsp
  have I : Inv (cxOf CX P w K mg base N qual scope f cdv A outer s H E) [] (start N vs) H s1 := inv_start S hr.hd e0 hl r x
  refine wpAny_mono (ht [] s1 (start N vs) H _ I hq) (fun fl s' hs => ?_) fun e s' hs => hs
  have fin : ∀ {σ' : St} {H' : Hp} {v : V} {u : Value}, Inv (cxOf CX P w K mg base N qual scope f cdv A outer s H E) [] σ' H' s' → RelV v u → Q v H' → CE outer P w H s Q u s' :=
    fun {σ' H' v u} J rv q => ⟨v, H', J.os, J.bare, J.base, J.hok, rv, q⟩
  cases fl with
  | ret u =>
    obtain ⟨v, σ', H', J, rv, q⟩ := hs
    exact fin J rv q
  | next =>
    obtain ⟨σ', H', J, q⟩ := hs
    exact fin (v := V.non) (u := Value.none) J rfl q
  | brk =>
    obtain ⟨_, _, _, q⟩ := hs
    exact False.elim q
  | cont =>
    obtain ⟨_, _, _, q⟩ := hs
    exact False.elim q
end L2

namespace L2
open PySem PySem.Spec PyProof.Rows
section
variable {X : Cx} {x : Str} {p pos : Pos} {e : Expr} {es : List Expr} {t : TA} {id T : String} {r : List V → Hp → VK → Prop}

noncomputable def tCB (r : List V → Hp → VK → Prop) (t : TA) : TE := fun σ H Q => t σ H fun vs H1 => r vs H1 Q
theorem pe_callB (hc : CallR X (.builtin id) r) (hg : Gl X x) (hm : X.mg x = none) (hv : bootBuiltins x = some (.builtin id)) (ha : PA X (e :: es) t) (hn : x ≠ "__name__" := by decide) (hdb : (x == ("__debug__" : Str)) = false := by decide)
    (he : starEach (e :: es) X.env = (false, eval e X.env) :: starEach es X.env := by rfl) (hpl : (backTo pos (starEach es X.env)).any (·.1) = false := by rfl) : PE X (.Call (.Name x p) (e :: es) [] pos) (tCB r t) := by
  intro pins s σ H Q I h
  refine wpAny_Call_Name_kw (ld_blt I hg hm hv ?_ hn hdb)
  exact PyProof.Rows.callWith_builtin1 (thn (ha pos pins s σ H _ I h) fun us s1 ⟨vs, H1, I1, r1, q1⟩ => hc pins s1 σ H1 vs us Q I1 r1 q1) he hpl
theorem pe_callTy (hc : CallR X (.type T) r) (hg : Gl X x) (hm : X.mg x = none) (hv : bootBuiltins x = some (.type T)) (ha : PA X (e :: es) t) (hn : x ≠ "__name__" := by decide) (hdb : (x == ("__debug__" : Str)) = false := by decide)
    (he : starEach (e :: es) X.env = (false, eval e X.env) :: starEach es X.env := by rfl) (hpl : (backTo pos (starEach es X.env)).any (·.1) = false := by rfl) : PE X (.Call (.Name x p) (e :: es) [] pos) (tCB r t) := by
  intro pins s σ H Q I h
  refine wpAny_Call_Name_kw (ld_blt I hg hm hv ?_ hn hdb)
  exact PyProof.Rows.callWith_type1 (thn (ha pos pins s σ H _ I h) fun us s1 ⟨vs, H1, I1, r1, q1⟩ => hc pins s1 σ H1 vs us Q I1 r1 q1) he hpl
end
end L2

namespace HT
open PySem PyProof.Rows



section
open PySem.SeqAt
open PySem.AutoSeq1 (wpAny_loadPart')
open PySem.MeetsSeq PySem.MeetsSeq2 PySem.MeetsSeq3

end

section
variable {prog : Program} {w : World} {A : Around} {E : Value → Shared → Prop} {s : Shared}



noncomputable def sIx (n d : Nat) : Option Int → Nat
  | none => d
  | some v => if v < 0 then (v + (n : Int)).toNat else min v.toNat n
theorem sIx_none (n d : Nat) : sIx n d none = d := rfl
theorem sIx_nat (n d k : Nat) : sIx n d (some (k : Int)) = min k n := by
  show (if (k : Int) < 0 then ((k : Int) + (n : Int)).toNat else min (k : Int).toNat n) = min k n
  rw [if_neg (by omega), Int.toNat_natCast]

end
end HT

namespace L2
open PySem PySem.Spec PyProof.Rows

noncomputable abbrev TO := St → Hp → (Option Int → Hp → Prop) → Prop
noncomputable def PO (X : Cx) (e : Option Expr) (t : TO) : Prop :=
  ∀ (pins : List (Addr × Obj)) (s : Shared) (σ : St) (H : Hp) (Q : Option Int → Hp → Prop), Inv X pins σ H s → t σ H Q →
    wpAny (model X.prog X.w) X.A (evalPart e X.env) (fun u s' => ∃ o H', Inv X pins σ H' s' ∧ IsPart u o ∧ Q o H') X.xe s
noncomputable def tNoPart : TO := fun _ H Q => Q none H
inductive J_tPart (Q : Option Int → Hp → Prop) (x : V) (H1 : Hp) : Prop
  | mk : ∀ i, (x = .int i) → (Q (some i) H1) → J_tPart Q x H1
noncomputable def tPart (t : TE) : TO := fun σ H Q => t σ H fun x H1 => J_tPart Q x H1

theorem intsAre_of {ns : List Int} : ∀ {us : List Value}, Vals (ns.map V.int) us → IntsAre us ns := by
  induction ns with
  | nil => intro us r; rw [List.map_nil] at r; cases r; exact .nil
  | cons n ns ih =>
    intro us r
    rw [List.map_cons] at r
    cases r with
    | cons r1 r2 =>
      obtain ⟨t, e⟩ := r1
      subst e
      exact .cons n t (ih r2)

section
variable {X : Cx} {e : Expr} {te : TE} {lo hi : Option Expr} {tl th : TO} {pos p2 : Pos}

theorem po_none : PO X none tNoPart := by
  intro pins s σ H Q I h
  rw [evalPart_none]
  exact wpAny_pure ⟨none, H, I, .none, h⟩
theorem po_some (h : PE X e te) : PO X (some e) (tPart te) := by
  intro pins s σ H Q I hw
  rw [evalPart_some]
  refine thn (h pins s σ H _ I hw) fun u s1 ⟨x, H1, I1, r1, q1⟩ => ?_
  obtain ⟨i, rfl, q⟩ := q1
  obtain ⟨t, rfl⟩ := r1
  exact ⟨some i, H1, I1, .int i t, q⟩

noncomputable def SlR (X : Cx) (r : V → Option Int → Option Int → Hp → VK → Prop) : Prop :=
  ∀ (pins : List (Addr × Obj)) (s : Shared) (σ : St) (H : Hp) (x : V) (v vl vu : Value) (lo hi : Option Int) (sl : Addr) (Q : VK), Inv X pins σ H s → RelV x v → s.heap.IsSliceOf sl vl vu .none → IsPart vl lo → IsPart vu hi → r x lo hi H Q →
    ∃ T id, typeLookup (.type T) "__getitem__" = pure (some (.builtin id)) ∧ s.TypeIs v T ∧ wpAny (model X.prog X.w) X.A (getItem v (.ref sl)) (EP X pins σ Q) X.xe s
noncomputable def tSl (r : V → Option Int → Option Int → Hp → VK → Prop) (te : TE) (tl th : TO) : TE := fun σ H Q => te σ H fun x H1 => tl σ H1 fun l H2 => th σ H2 fun u H3 => r x l u H3 Q
theorem pe_slice {r : V → Option Int → Option Int → Hp → VK → Prop} (hr : SlR X r) (he : PE X e te) (hl : PO X lo tl) (hu : PO X hi th) : PE X (.Subscript e (.Slice lo hi none p2) pos) (tSl r te tl th) := by
  intro pins s σ H Q I h
  refine Subscript_ (thn (he pins s σ H _ I h) fun v s1 ⟨x, H1, I1, r1, q1⟩ => ?_)
  refine wpAny_Slice (thn (hl pins s1 σ H1 _ I1 q1) fun vl s2 ⟨l, H2, I2, pl, q2⟩ => thn (hu pins s2 σ H2 _ I2 q2) fun vu s3 ⟨u, H3, I3, pu, q3⟩ => ?_)
  rw [evalPart_none]
  refine wpAny_pure ?_
  have I4 : Inv X pins σ H3 { s3 with heap := s3.heap.push { cls := .type "slice", data := .fields #[vl, vu, .none] } } := I3.kept (t' := s3.toks) fun b ob q => Heap.get?_push_of_some _ q
  obtain ⟨T, id, hT, ht, hg⟩ := hr pins { s3 with heap := s3.heap.push { cls := .type "slice", data := .fields #[vl, vu, .none] } } σ H3 x v vl vu l u s3.heap.objs.size Q I4 r1 (Heap.IsSliceOf.new ..) pl pu q3
  show wpAny (model X.prog X.w) X.A (subscriptTail e (.Slice lo hi none p2) v (.ref s3.heap.objs.size)) (EP X pins σ Q) X.xe { s3 with heap := s3.heap.push { cls := .type "slice", data := .fields #[vl, vu, .none] } }
  exact tail_any (ops := [.ref s3.heap.objs.size, v]) ht hT hg (by with_unfolding_all rfl)

noncomputable def cutV (xs : List V) (lo hi : Option Int) : List V := (xs.drop (HT.sIx xs.length 0 lo)).take (HT.sIx xs.length xs.length hi - HT.sIx xs.length 0 lo)
theorem cutV_length (xs : List V) (lo hi : Option Int) : (cutV xs lo hi).length ≤ xs.length := by
  unfold cutV
  rw [List.length_take, List.length_drop]
  omega

end
end L2

namespace L2
open PySem PySem.Spec PyProof.Rows

noncomputable def ixN (n : Nat) (i : Int) : Option Nat := if 0 ≤ i then (if i < n then some i.toNat else none) else if -(n : Int) ≤ i then some (i + n).toNat else none
noncomputable def atI {α : Type} (xs : List α) (i : Int) : Option α := (ixN xs.length i).bind fun j => xs[j]?
theorem ixN_seq {n : Nat} {i : Int} {j : Nat} (h : ixN n i = some j) : seqIndex? i n = some j ∧ j < n ∧ -(n : Int) ≤ i ∧ i < n := by
  unfold ixN at h
  by_cases h0 : 0 ≤ i
  · rw [if_pos h0] at h
    by_cases h1 : i < n
    · rw [if_pos h1] at h
      have e : i.toNat = j := Option.some.inj h
      exact ⟨by rw [seqIndex_of h0 h1, e], by omega, by omega, h1⟩
    · rw [if_neg h1] at h; cases h
  · rw [if_neg h0] at h
    by_cases h1 : -(n : Int) ≤ i
    · rw [if_pos h1] at h
      have e : (i + n).toNat = j := Option.some.inj h
      exact ⟨by rw [seqIndex_neg (by omega) h1, e], by omega, h1, by omega⟩
    · rw [if_neg h1] at h; cases h
theorem atI_get {α : Type} {xs : List α} {i : Int} {v : α} (h : atI xs i = some v) : ∃ j, seqIndex? i xs.length = some j ∧ xs[j]? = some v ∧ j < xs.length ∧ -(xs.length : Int) ≤ i ∧ i < xs.length := by
  unfold atI at h
  cases e : ixN xs.length i with
  | none => rw [e] at h; cases h
  | some j =>
    rw [e] at h
    obtain ⟨h1, h2, h3, h4⟩ := ixN_seq e
    exact ⟨j, h1, h, h2, h3, h4⟩
theorem atI_nat {α : Type} {xs : List α} {j : Nat} {v : α} (h : xs[j]? = some v) : atI xs (j : Int) = some v := by
  have hj : j < xs.length := (List.getElem?_eq_some_iff.mp h).1
  have e : ixN xs.length (j : Int) = some j := by
    unfold ixN
    rw [if_pos (by omega), if_pos (by omega)]; simp
  unfold atI; rw [e]; exact h

noncomputable def PlainIx (b : Expr) : Prop := ∀ o i, subscripted b false o i = operate [o, i] (getItem o i)
noncomputable def IxR (X : Cx) (r : R2) : Prop :=
  ∀ (value slice : Expr) (pins : List (Addr × Obj)) (s : Shared) (σ : St) (H : Hp) (x y : V) (v u : Value) (Q : VK), Inv X pins σ H s → RelV x v → RelV y u → r x y H Q →
    subscripted slice false v u = operate [v, u] (getItem v u) → wpAny (model X.prog X.w) X.A (subscriptTail value slice v u) (EP X pins σ Q) X.xe s
noncomputable def MtR (X : Cx) (id : String) (r : V → List V → Hp → VK → Prop) : Prop :=
  ∀ (pins : List (Addr × Obj)) (s : Shared) (σ : St) (H : Hp) (x : V) (xs : List V) (v : Value) (us : List Value) (Q : VK), Inv X pins σ H s → RelV x v → Vals xs us → r x xs H Q →
    wpAny (model X.prog X.w) X.A (call (.builtin id) (v :: us)) (EP X pins σ Q) X.xe s
section
variable {X : Cx} {a b : Expr} {ta tb : TE} {pos : Pos}
theorem pe_ix {r : R2} (hr : IxR X r) (ha : PE X a ta) (hb : PE X b tb) (hs : PlainIx b) : PE X (.Subscript a b pos) (tOp r ta tb) := by
  intro pins s σ H Q I h
  exact Subscript_ (binT ha hb I h fun v u s2 x y H2 I2 rx ry q => hr a b pins s2 σ H2 x y v u Q I2 rx ry q (hs _ _))

inductive RIxL (K : PySem.W.Frag) (x y : V) (H : Hp) (Q : VK) : Prop
  | mk (p : Addr) (xs : List V) (i : Int) (v : V) (hx : x = .ref p) (hy : y = .int i) (hS : SqL K H p xs) (he : atI xs i = some v) (q : Q v H) : RIxL K x y H Q
noncomputable def rIxL (K : PySem.W.Frag) : R2 := fun x y H Q => RIxL K x y H Q
inductive RIxT (K : PySem.W.Frag) (x y : V) (H : Hp) (Q : VK) : Prop
  | mk (p : Addr) (xs : List V) (i : Int) (v : V) (hx : x = .ref p) (hy : y = .int i) (hS : SqT K H p xs) (he : atI xs i = some v) (q : Q v H) : RIxT K x y H Q
noncomputable def rIxT (K : PySem.W.Frag) : R2 := fun x y H Q => RIxT K x y H Q
inductive J_rIxS (x : V) (y : V) (H : Hp) (Q : VK) : Prop
  | mk : ∀ z i c, (x = .str z) → (y = .int i) → (z.length ≤ sizeLine) → (atI z.cps.toList i = some c) → (Q (.str ⟨#[c]⟩) H) → J_rIxS x y H Q
noncomputable def rIxS : R2 := fun x y H Q => J_rIxS x y H Q
theorem ix_list : IxR X (rIxL X.K) := by
  intro value slice pins s σ H x y v u Q I rx ry h hs
  obtain ⟨p, xs, i, z, rfl, rfl, hq, he, q⟩ := h
  cases rx
  obtain ⟨t, rfl⟩ := ry
  obtain ⟨its, r, pl, hz⟩ := I.list hq
  obtain ⟨j, h1, h2, h3, h4, h5⟩ := atI_get he
  obtain ⟨w, ew, rw'⟩ := r.get h2
  have hl := r.length
  have hn := line63
  have fin : EP X pins σ Q w s := ⟨z, H, I, rw', q⟩
  by_cases h0 : 0 ≤ i
  · have hj : i.toNat = j := by
      rw [seqIndex_of h0 h5] at h1
      exact Option.some.inj h1
    exact item_listR pl.isList h0 (by omega) (by rw [hj]; simpa using ew) fin hs
  · have hj : (i + (its.toArray.size : Int)).toNat = j := by
      rw [seqIndex_neg (by omega) h4] at h1
      rw [List.size_toArray, ← hl]
      exact Option.some.inj h1
    exact subscriptTail_builtinR (x := w) pl.isList.typeIs slot_list_getitem.lookup
      (wpAny_getItem_list_neg (Q := fun r s' => r = w ∧ EP X pins σ Q r s') pl.isList (by omega) (by rw [List.size_toArray] <;> omega) (by omega) (by rw [hj]; simpa using ew) ⟨rfl, fin⟩) hs
theorem ix_tup : IxR X (rIxT X.K) := by
  intro value slice pins s σ H x y v u Q I rx ry h hs
  obtain ⟨p, xs, i, z, rfl, rfl, hq, he, q⟩ := h
  cases rx
  obtain ⟨t, rfl⟩ := ry
  obtain ⟨its, r, pl, hz⟩ := I.tuple hq
  obtain ⟨j, h1, h2, h3, h4, h5⟩ := atI_get he
  obtain ⟨w, ew, rw'⟩ := r.get h2
  have hl := r.length
  have hn := line63
  have fin : EP X pins σ Q w s := ⟨z, H, I, rw', q⟩
  exact subscriptTail_builtinR (x := w) pl.typeIs slot_tuple_getitem.lookup
    (getItem_tuple (j := j) (Q := fun r s' => r = w ∧ EP X pins σ Q r s') pl (by omega) (by omega) (by rw [List.size_toArray, ← hl]; exact h1) (by simpa using ew) ⟨rfl, fin⟩) hs
theorem ix_str : IxR X rIxS := by
  intro value slice pins s σ H x y v u Q I rx ry h hs
  obtain ⟨z, i, c, rfl, rfl, hz, he, q⟩ := h
  obtain ⟨t, rfl⟩ := rx
  obtain ⟨t', rfl⟩ := ry
  obtain ⟨j, h1, h2, h3, h4, h5⟩ := atI_get he
  have hl : z.cps.toList.length = z.length := by simp [Str.length]
  rw [hl] at h1 h4 h5
  have hn := line63
  exact tail_any (typeIs_str s z t) slot_str_getitem.lookup (getItem_str (c := c) (by
    have e1 : decide (i < -(2 ^ 63 : Int)) = false := decide_eq_false (by omega)
    have e2 : decide (i ≥ 2 ^ 63) = false := decide_eq_false (by omega)
    rw [e1, e2, Bool.or_false]) (by rw [h1]; simpa using h2) ⟨.str ⟨#[c]⟩, H, I.tok _, ⟨_, rfl⟩, q⟩) hs

theorem mapSeq_set (its : List Value) (n j : Nat) (u : Value) : Obj.mapSeq (·.setIfInBounds j u) { cls := .type "list", data := .seq its.toArray n } = { cls := .type "list", data := .seq (its.set j u).toArray n } := by
  simp [Obj.mapSeq]
theorem Inv.lst {pins : List (Addr × Obj)} {σ : St} {H : Hp} {s : Shared} {p : Addr} {xs : List V} (I : Inv X pins σ H s) (h : H p = some (.lst xs)) :
    ∃ (its : List Value) (n : Nat), Vals xs its ∧ s.heap.get? p = some { cls := .type "list", data := .seq its.toArray n } ∧ xs.length ≤ sizeLine := by
  obtain ⟨z, its, n, r, e⟩ := I.hok p _ h
  exact ⟨its, n, r, e, z⟩
theorem Inv.lstUpd {pins : List (Addr × Obj)} {σ : St} {H : Hp} {s : Shared} {p : Addr} {xs ys : List V} {its its' : List Value} {n n' : Nat} {f : Obj → Obj} (I : Inv X pins σ H s) (h : H p = some (.lst xs))
    (ho : s.heap.get? p = some { cls := .type "list", data := .seq its.toArray n }) (hf : f { cls := .type "list", data := .seq its.toArray n } = { cls := .type "list", data := .seq its'.toArray n' }) (r : Vals ys its') (hz : ys.length ≤ sizeLine) (t : Nat) :
    Inv X pins σ (upd H p (.lst ys)) { s with heap := s.heap.update p f, toks := t } := by
  have e : (s.heap.update p f).get? p = some { cls := .type "list", data := .seq its'.toArray n' } := by
    rw [Heap.get?_update_self f ho (by rw [hf] <;> rfl), hf]
  refine I.write (x := p) (e := p) (by rw [h]; trivial) (.inl rfl) (fun b u hb q => (Heap.get?_update_other _ _ (Ne.symm hb)).trans q) ⟨_, e⟩ ?_
  exact ⟨hz, its', n', r, e⟩
inductive J_rSetL (o : V) (i : V) (v : V) (H : Hp) (Q : Hp → Prop) : Prop
  | mk : ∀ p xs k j, (o = .ref p) → (i = .int k) → (H p = some (.lst xs)) → (ixN xs.length k = some j) → (Q (upd H p (.lst (xs.set j v)))) → J_rSetL o i v H Q
noncomputable def rSetL : V → V → V → Hp → (Hp → Prop) → Prop := fun o i v H Q => J_rSetL o i v H Q
theorem set_list : PSet X rSetL := by
  intro pins s σ H o i v ov iv u Q I ro ri rv h
  obtain ⟨p, xs, k, j, rfl, rfl, hp, hj, q⟩ := h
  cases ro
  obtain ⟨t, rfl⟩ := ri
  obtain ⟨its, n, r, ho, hz⟩ := I.lst hp
  obtain ⟨h1, h2, h3, h4⟩ := ixN_seq hj
  have hl := r.length
  have hn := line63
  have I' : Inv X pins σ (upd H p (.lst (xs.set j v))) { s with heap := s.heap.update p (Obj.mapSeq (·.setIfInBounds j u)) } :=
    I.lstUpd hp ho (mapSeq_set its n j u) (r.set rv j) (by rw [List.length_set]; exact hz) s.toks
  by_cases h0 : 0 ≤ k
  · have hk : k.toNat = j := by
      rw [seqIndex_of h0 h4] at h1
      exact Option.some.inj h1
    exact PySem.W.ki_setAt ho h0 (by omega) (by rw [List.size_toArray, ← hl]; exact h4) (by rw [hk]; exact ⟨_, I', q⟩)
  · have hk : (k + (its.toArray.size : Int)).toNat = j := by
      rw [seqIndex_neg (by omega) h3] at h1
      rw [List.size_toArray, ← hl]
      exact Option.some.inj h1
    exact PySem.W.ki_setBack ho (by omega) (by rw [List.size_toArray, ← hl]; exact h3) (by omega) (by rw [hk]; exact ⟨_, I', q⟩)

theorem slice_bounds (lo hi : Option Int) (n : Nat) : (sliceBounds lo hi none n).1 = ((HT.sIx n 0 lo : Nat) : Int) ∧ (sliceBounds lo hi none n).2.1 = ((HT.sIx n n hi : Nat) : Int) ∧ (sliceBounds lo hi none n).2.2 = 1 := by
  refine ⟨?_, ?_, rfl⟩
  · cases lo with
    | none => simp [sliceBounds, HT.sIx]
    | some i =>
      simp only [sliceBounds, HT.sIx, Option.getD_none, show (1 : Int) > 0 by decide, if_true]
      by_cases h : i < 0
      · simp only [h, if_true] <;> omega
      · simp only [h, if_false] <;> omega
  · cases hi with
    | none => simp [sliceBounds, HT.sIx]
    | some i =>
      simp only [sliceBounds, HT.sIx, Option.getD_none, show (1 : Int) > 0 by decide, if_true]
      by_cases h : i < 0
      · simp only [h, if_true] <;> omega
      · simp only [h, if_false] <;> omega
theorem slicePick_cut (its : List Value) (lo hi : Option Int) : slicePick its.toArray lo hi none = ((its.drop (HT.sIx its.length 0 lo)).take (HT.sIx its.length its.length hi - HT.sIx its.length 0 lo)).toArray := by
  obtain ⟨h1, h2, h3⟩ := slice_bounds lo hi its.toArray.size
  unfold slicePick
  rw [h1, h2, h3]
  simp only [sliceRange_one, pick_run, List.size_toArray] <;> rfl
inductive J_rSlL (K : PySem.W.Frag) (x : V) (lo : Option Int) (hi : Option Int) (H : Hp) (Q : VK) : Prop
  | mk : ∀ a xs, (x = .ref a) → (SqL K H a xs) → (∀ p, H p = none → Q (.ref p) (upd H p (.lst (cutV xs lo hi)))) → J_rSlL K x lo hi H Q
noncomputable def rSlL (K : PySem.W.Frag) : V → Option Int → Option Int → Hp → VK → Prop := fun x lo hi H Q => J_rSlL K x lo hi H Q
theorem sl_list : SlR X (rSlL X.K) := by
  intro pins s σ H x v vl vu lo hi sl Q I rx hs pl pu h
  obtain ⟨a, xs, rfl, hx, q⟩ := h
  cases rx
  obtain ⟨its, r, ht, hz⟩ := I.list hx
  have hlen := r.length
  refine ⟨"list", _, slot_list_getitem.lookup, ht.isList.typeIs, ?_⟩
  refine wpAny_getItem_list_slice ht.isList hs pl pu .none (by simp) ?_ (by rw [List.size_toArray] <;> omega)
  rw [slicePick_cut, ← hlen]
  refine ⟨.ref s.heap.objs.size, _, I.laid (t' := s.toks) (o := .lst (cutV xs lo hi)) (fun b ob q => Heap.get?_push_of_some _ q) (Nat.le_refl _) ?_, rfl, q _ (I.hok.fresh (Nat.le_refl _))⟩
  exact ⟨Nat.le_trans (cutV_length xs lo hi) hz, _, 0, (r.drop (HT.sIx xs.length 0 lo)).take (HT.sIx xs.length xs.length hi - HT.sIx xs.length 0 lo), Heap.get?_push_size _ rfl⟩

noncomputable def flatV : V → Bool
  | .non => true
  | .bl _ => true
  | .int _ => true
  | .str _ => true
  | _ => false
noncomputable def eqV : V → V → Bool
  | .non, .non => true
  | .bl a, .bl b => a == b
  | .bl a, .int b => (if a then 1 else 0) == b
  | .int a, .bl b => a == (if b then 1 else 0)
  | .int a, .int b => a == b
  | .str a, .str b => a == b
  | _, _ => false
theorem eqAt_V {A : Around} {s : Shared} {y x : V} {u v : Value} (ry : RelV y u) (rx : RelV x v) (fy : flatV y = true) (fx : flatV x = true) : SeqAt.EqAt A s u v (eqV y x) := by
  cases y with
  | non =>
    cases ry
    cases x with
    | non => cases rx; exact SeqAt.EqAt.same _
    | bl b => cases rx; exact SeqAt.EqAt.none_bool b
    | int b => obtain ⟨t, rfl⟩ := rx; exact SeqAt.EqAt.none_int b t
    | str b => obtain ⟨t, rfl⟩ := rx; exact SeqAt.EqAt.none_str b t
    | _ => exact absurd (show false = true from fx) Bool.false_ne_true
  | bl a =>
    cases ry
    cases x with
    | non => cases rx; exact SeqAt.EqAt.bool_none a
    | bl b => cases rx; exact SeqAt.EqAt.bool_bool a b
    | int b => obtain ⟨t, rfl⟩ := rx; exact SeqAt.EqAt.bool_int a b t
    | str b => obtain ⟨t, rfl⟩ := rx; exact SeqAt.EqAt.bool_str a b t
    | _ => exact absurd (show false = true from fx) Bool.false_ne_true
  | int a =>
    obtain ⟨t', rfl⟩ := ry
    cases x with
    | non => cases rx; exact SeqAt.EqAt.int_none a t'
    | bl b => cases rx; exact SeqAt.EqAt.int_bool a t' b
    | int b => obtain ⟨t, rfl⟩ := rx; exact SeqAt.EqAt.int_int a t' b t
    | str b => obtain ⟨t, rfl⟩ := rx; exact SeqAt.EqAt.int_str a t' b t
    | _ => exact absurd (show false = true from fx) Bool.false_ne_true
  | str a =>
    obtain ⟨t', rfl⟩ := ry
    cases x with
    | non => cases rx; exact SeqAt.EqAt.str_none a t'
    | bl b => cases rx; exact SeqAt.EqAt.str_bool a t' b
    | int b => obtain ⟨t, rfl⟩ := rx; exact SeqAt.EqAt.str_int a t' b t
    | str b => obtain ⟨t, rfl⟩ := rx; exact SeqAt.EqAt.str_str a t' b t
    | _ => exact absurd (show false = true from fx) Bool.false_ne_true
  | _ => exact absurd (show false = true from fy) Bool.false_ne_true
noncomputable def eqU (x : V) (u : Value) : Bool := match u with
  | .none => eqV .non x
  | .bool b => eqV (.bl b) x
  | .int i _ => eqV (.int i) x
  | .str z _ => eqV (.str z) x
  | _ => false
theorem eqU_of {x y : V} {u : Value} (r : RelV y u) (f : flatV y = true) : eqU x u = eqV y x := by
  cases y with
  | non => cases r; rfl
  | bl b => cases r; rfl
  | int i => obtain ⟨t, rfl⟩ := r; rfl
  | str z => obtain ⟨t, rfl⟩ := r; rfl
  | _ => exact absurd (show false = true from f) Bool.false_ne_true
theorem any_eqU {x : V} : ∀ {xs : List V} {us : List Value}, Vals xs us → xs.all flatV = true → us.any (eqU x) = xs.any fun y => eqV y x
  | _, _, .nil, _ => rfl
  | y :: xs, u :: us, .cons r t, f => by
    rw [List.all_cons, Bool.and_eq_true] at f
    rw [List.any_cons, List.any_cons, eqU_of r f.1, any_eqU t f.2]
theorem mem_eqAt {A : Around} {s : Shared} {x : V} {v : Value} (rx : RelV x v) (fx : flatV x = true) : ∀ {xs : List V} {us : List Value}, Vals xs us → xs.all flatV = true → ∀ u ∈ us, SeqAt.EqAt A s u v (eqU x u)
  | _, _, .nil, _ => fun u hu => by cases hu
  | y :: xs, u :: us, .cons r t, f => fun u' hu => by
    rw [List.all_cons, Bool.and_eq_true] at f
    rcases List.mem_cons.mp hu with rfl | hu
    · rw [eqU_of r f.1]; exact eqAt_V r rx f.1 fx
    · exact mem_eqAt rx fx t f.2 u' hu
noncomputable def inV (x : V) (xs : List V) : Bool := xs.any fun y => eqV y x
inductive J_rIn (K : PySem.W.Frag) (neg : Bool) (x : V) (y : V) (H : Hp) (Q : VK) : Prop
  | mk : ∀ p xs, (y = .ref p) → ((SqL K H p xs ∨ SqT K H p xs)) → (flatV x = true) → (xs.all flatV = true) → (Q (.bl (if neg then !inV x xs else inV x xs)) H) → J_rIn K neg x y H Q
noncomputable def rIn (K : PySem.W.Frag) (neg : Bool) : R2 := fun x y H Q => J_rIn K neg x y H Q
theorem op_notIn_seq : OpR X (compareOp .NotIn) (rIn X.K true) := by
  intro pins s σ H x y v u Q I rx ry h
  obtain ⟨p, xs, rfl, hq, fx, fs, q⟩ := h
  cases ry
  rcases hq with hq | hq
  · obtain ⟨its, r, pl, hz⟩ := I.list hq
    refine SeqAt.notIn_listAt (eqU x) pl.isList (fun w hw => mem_eqAt rx fx r fs w (by simpa using hw)) ⟨.bl _, H, I, rfl, ?_⟩
    rw [show its.toArray.any (eqU x) = its.any (eqU x) by simp, any_eqU r fs]
    exact q
  · obtain ⟨its, r, pl, hz⟩ := I.tuple hq
    refine SeqAt.notIn_tupleAt (eqU x) pl (fun w hw => mem_eqAt rx fx r fs w (by simpa using hw)) ⟨.bl _, H, I, rfl, ?_⟩
    rw [show its.toArray.any (eqU x) = its.any (eqU x) by simp, any_eqU r fs]
    exact q

inductive J_len (K : PySem.W.Frag) (xs : List V) (H : Hp) (Q : VK) : Prop
  | mk : ∀ p ys, (xs = [.ref p]) → (SqL K H p ys ∨ SqT K H p ys) → (Q (.int ys.length) H) → J_len K xs H Q
theorem call_len_seq : CallR X (.builtin "len") (fun xs H Q => J_len X.K xs H Q) := by
  intro pins s σ H xs us Q I r h
  obtain ⟨p, ys, rfl, hq, q⟩ := h
  obtain ⟨u, rfl, rx⟩ := vals1 r
  cases rx
  have hn := line63
  rcases hq with hq | hq
  · obtain ⟨its, r', pl, hz⟩ := I.list hq
    have hlen := r'.length
    exact Calls.call_len_list pl.isList (by simp only [List.size_toArray] <;> omega) ⟨.int ys.length, H, I.tok _, ⟨s.toks + 1, by rw [List.size_toArray, hlen]⟩, q⟩
  · obtain ⟨its, r', pl, hz⟩ := I.tuple hq
    have hlen := r'.length
    exact len_tuple pl (by simp only [List.size_toArray] <;> omega) ⟨.int ys.length, H, I.tok _, ⟨s.toks + 1, by rw [List.size_toArray, hlen]⟩, q⟩
inductive J_call_list_of (kK : PySem.W.Frag) (xs : List V) (H : Hp) (Q : VK) : Prop
  | mk : ∀ p ys, (xs = [.ref p]) → ((SqL kK H p ys ∨ SqT kK H p ys)) → (∀ l, H l = none → Q (.ref l) (upd H l (.lst ys))) → J_call_list_of kK xs H Q
theorem call_list_of : CallR X (.type "list") (fun xs H Q => J_call_list_of X.K xs H Q) := by
  intro pins s σ H xs us Q I r h
  obtain ⟨p, ys, rfl, hq, q⟩ := h
  obtain ⟨u, rfl, rx⟩ := vals1 r
  cases rx
  have fin : ∀ (its : List Value), Vals ys its → ys.length ≤ sizeLine → ∀ (h' : Heap) (c' : Nat), (∀ b o', s.heap.get? b = some o' → h'.get? b = some o') →
      h'.get? s.heap.objs.size = some { cls := .type "list", dict := none, data := .seq its.toArray c', slots := #[] } → EP X pins σ Q (.ref s.heap.objs.size) { s with heap := h' } := fun its r' hz h' c' kp e =>
    ⟨.ref s.heap.objs.size, _, I.laid (t' := s.toks) kp (Nat.le_refl _) (show ObjOk X.prog X.w _ h' _ (.lst ys) from ⟨hz, its, c', r', e⟩), rfl, q _ (I.hok.fresh (Nat.le_refl _))⟩
  rcases hq with hq | hq
  · obtain ⟨its, r', pl, hz⟩ := I.list hq
    have hlen := r'.length
    obtain ⟨o, ho, hc, n, hd⟩ := pl.isList
    exact call_list_seq p (.inl rfl) ho hc hd (fun h' c' kp e => fin its r' hz h' c' kp e) (by simp only [List.size_toArray] <;> omega)
  · obtain ⟨its, r', pl, hz⟩ := I.tuple hq
    have hlen := r'.length
    obtain ⟨o, ho, hc, n, hd⟩ := pl
    exact call_list_seq p (.inr rfl) ho hc hd (fun h' c' kp e => fin its r' hz h' c' kp e) (by simp only [List.size_toArray] <;> omega)
inductive J_call_tuple_of (kK : PySem.W.Frag) (xs : List V) (H : Hp) (Q : VK) : Prop
  | mk : ∀ p ys, (xs = [.ref p]) → (((SqL kK H p ys ∧ ∀ l, H l = none → Q (.ref l) (upd H l (.tup ys))) ∨ (SqT kK H p ys ∧ Q (.ref p) H))) → J_call_tuple_of kK xs H Q
theorem call_tuple_of : CallR X (.type "tuple") (fun xs H Q => J_call_tuple_of X.K xs H Q) := by
  intro pins s σ H xs us Q I r h
  obtain ⟨p, ys, rfl, h⟩ := h
  obtain ⟨u, rfl, rx⟩ := vals1 r
  cases rx
  rcases h with ⟨hq, q⟩ | ⟨hq, q⟩
  · obtain ⟨its, r', pl, hz⟩ := I.list hq
    have hlen := r'.length
    refine call_tuple_list pl.isList (fun h' kp => ?_) (by simp only [List.size_toArray] <;> omega)
    have I1 : Inv X pins σ H { s with heap := h' } := I.kept (t' := s.toks) kp
    have I2 : Inv X pins σ (upd H h'.objs.size (.tup ys)) { s with heap := h'.push { cls := .type "tuple", data := .seq its.toArray } } :=
      I1.laid (t' := s.toks) (fun b o e => Heap.get?_push_of_some _ e) (Nat.le_refl _) (show ObjOk X.prog X.w _ _ _ (.tup ys) from ⟨hz, its, r', IsTup.new _ _⟩)
    exact ⟨.ref h'.objs.size, _, I2, rfl, q _ (I1.hok.fresh (Nat.le_refl _))⟩
  · obtain ⟨its, r', pl, hz⟩ := I.tuple hq
    exact call_tuple_same pl ⟨.ref p, H, I, rfl, q⟩

noncomputable def tyV (K : PySem.W.Frag) (T : String) (x : V) (H : Hp) : Prop := match x with
  | .str _ => T = "str"
  | .int _ => T = "int"
  | .ref p => (T = "list" ∧ ∃ xs, SqL K H p xs) ∨ (T = "tuple" ∧ ∃ o, K.lookup p = some o ∧ o.cls = .type "tuple" ∧ o.dict = none) ∨
      (T = "dict" ∧ ((∃ kvs, H p = some (.dK kvs)) ∨ ∃ kvs, H p = some (.dT kvs))) ∨ (T = "set" ∧ ∃ S n, H p = some (.set S n))
  | _ => False
theorem tyV_is {pins : List (Addr × Obj)} {σ : St} {H : Hp} {s : Shared} {T : String} {x : V} {v : Value} (I : Inv X pins σ H s) (r : RelV x v) (ty : tyV X.K T x H) :
    s.TypeIs v T ∧ ∀ a, v = .ref a → ∃ ob, s.heap.get? a = some ob ∧ ob.dict = none := by
  cases x with
  | str z =>
    obtain ⟨t, rfl⟩ := r
    cases (show T = "str" from ty)
    exact ⟨typeIs_str s z t, fun _ e => nomatch e⟩
  | int i =>
    obtain ⟨t, rfl⟩ := r
    cases (show T = "int" from ty)
    exact ⟨typeIs_int s i t, fun _ e => nomatch e⟩
  | ref p =>
    cases r
    rcases ty with ⟨rfl, xs, hq⟩ | ⟨rfl, o, hk, hc, hd⟩ | ⟨rfl, hk⟩ | ⟨rfl, S, n, hk⟩
    · obtain ⟨its, _, pl, _⟩ := I.list hq
      refine ⟨pl.isList.typeIs, fun a e => ?_⟩
      cases e
      obtain ⟨o, n, e, c, hd, _⟩ := pl
      exact ⟨o, e, hd⟩
    · refine ⟨⟨o, I.kIn p o hk, hc⟩, fun a e => ?_⟩
      cases e
      exact ⟨o, I.kIn _ o hk, hd⟩
    · have z : ∃ o, s.heap.get? p = some o ∧ o.ExactDict := by
        rcases hk with ⟨kvs, hk⟩ | ⟨kvs, hk⟩
        · obtain ⟨_, _, _, _, o, _, _, e, ex, _⟩ := I.hok p _ hk
          exact ⟨o, e, ex⟩
        · obtain ⟨_, _, _, _, o, _, _, e, ex, _⟩ := I.hok p _ hk
          exact ⟨o, e, ex⟩
      obtain ⟨o, e, ex⟩ := z
      refine ⟨⟨o, e, ex.1⟩, fun a e2 => ?_⟩
      cases e2
      exact ⟨o, e, ex.2.1⟩
    · obtain ⟨o, _, _, _, e, ex, _⟩ := I.hok p _ hk
      refine ⟨⟨o, e, ex.1⟩, fun a e2 => ?_⟩
      cases e2
      exact ⟨o, e, ex.2.1⟩
  | _ => exact False.elim ty
noncomputable def tBM (K : PySem.W.Frag) (T : String) (r : V → List V → Hp → VK → Prop) (to : TE) (t : TA) : TE := fun σ H Q => to σ H fun x H1 => tyV K T x H1 ∧ t σ H1 fun xs H2 => r x xs H2 Q
variable {o e : Expr} {es : List Expr} {to : TE} {t : TA} {name : Str} {apos cpos : Pos} {T id : String} {r : V → List V → Hp → VK → Prop}
theorem pe_bm (pa : PlainAttrs T) (slot : Slot T name id) (hty : typeOf (.builtin id) = pure (.type "method_descriptor")) (hm : MtR X id r) (ho : PE X o to) (ha : PA X (e :: es) t)
    (hbase : attributeBase o name X.env (eval o X.env) = eval o X.env := by rfl)
    (hfew : ((backTo cpos (starEach (e :: es) X.env)).all (fun x => !x.1) && (backToKw cpos (keywordEach [] X.env)).all (fun x => x.1.isSome)
      && decide ((e :: es).length + ([] : List Keyword).length + (if ([] : List Keyword).isEmpty then 0 else 1) < 30)) = true := by rfl)
    (hline : (apos.endLine == cpos.line) = true := by rfl) (hs : starEach (e :: es) X.env = (false, eval e X.env) :: starEach es X.env := by rfl) (hplain : (backTo cpos (starEach es X.env)).any (·.1) = false := by rfl) :
    PE X (.Call (.Attribute o name apos) (e :: es) [] cpos) (tBM X.K T r to t) := by
  intro pins s σ H Q I h
  refine wpAny_Call_method_late hbase hfew hline rfl (thn (ho pins s σ H _ I h) fun v s1 ⟨x, H1, I1, r1, ty, q1⟩ => ?_)
  obtain ⟨h1, h2⟩ := tyV_is I1 r1 ty
  refine ⟨T, id, pa, slot, hty, h1, h2, ?_⟩
  have hA := ha cpos pins s1 σ H1 _ I1 q1
  rw [hs] at hA ⊢
  refine Calls.callWith_builtin (by show (false || (backTo cpos (starEach es X.env)).any (·.1)) = false; rw [hplain] <;> rfl) (Calls.evalArgs_plain ?_)
  exact thn hA fun us s2 ⟨vs, H2, I2, r2, q2⟩ => hm pins s2 σ H2 x vs v us Q I2 r1 r2 q2
/- xs.append(e), list.index on a module's tuple .. are MtR facts of 06m -/
end
end L2

namespace L2
open PySem PySem.Spec PyProof.Rows

noncomputable def MtM (X : Cx) (id : String) (r : V → List V → Hp → VK → Prop) : Prop :=
  ∀ (pins : List (Addr × Obj)) (s : Shared) (σ : St) (H : Hp) (x : V) (xs : List V) (v : Value) (us : List Value) (Q : VK), Inv X pins σ H s → RelV x v → Vals xs us → r x xs H Q →
    wpAny (model X.prog X.w) X.A (call (.builtin id) (v :: us)) (EP X pins σ Q) X.xe s

theorem Vals.one : ∀ {x : V} {us : List Value}, Vals [x] us → ∃ u, us = [u] ∧ RelV x u
  | _, _, .cons r .nil => ⟨_, rfl, r⟩

section
variable {X : Cx} {pins : List (Addr × Obj)} {σ : St} {H : Hp} {s : Shared} {l b : Addr} {xs ys zs : List V}

theorem Inv.lset {its its' : List Value} {n : Nat} {f : Array Value → Array Value} {t' : Nat} (I : Inv X pins σ H s) (hH : H l = some (.lst xs))
    (e : s.heap.get? l = some { cls := .type "list", data := .seq its.toArray n }) (hf : f its.toArray = its'.toArray) (hv : Vals ys its') (hz : ys.length ≤ sizeLine) :
    Inv X pins σ (upd H l (.lst ys)) { s with heap := s.heap.update l (Obj.mapSeq f), toks := t' } := by
  have q := PySem.IsL.update e f
  rw [hf] at q
  refine I.write (x := l) (e := l) (by rw [hH]; exact trivial) (.inl rfl) (fun b' u hb hu => (Heap.get?_update_other s.heap (Obj.mapSeq f) (Ne.symm hb)).trans hu) ⟨_, q⟩ ?_
  exact ⟨hz, its', _, hv, q⟩
theorem Inv.lnew {its : List Value} {t' : Nat} (I : Inv X pins σ H s) (hv : Vals ys its) (hz : ys.length ≤ sizeLine) :
    Inv X pins σ (upd H s.heap.objs.size (.lst ys)) { s with heap := s.heap.push { cls := .type "list", data := .seq its.toArray }, toks := t' } :=
  I.laid (fun _ _ q => Heap.get?_push_of_some _ q) (Nat.le_refl _) ⟨hz, its, 0, hv, Heap.get?_push_size _ rfl⟩
theorem Inv.fresh (I : Inv X pins σ H s) : H s.heap.objs.size = none := I.hok.fresh (Nat.le_refl _)
theorem Inv.lstM (I : Inv X pins σ H s) (hH : H l = some (.lst xs)) : xs.length ≤ sizeLine ∧ ∃ (its : List Value) (n : Nat), Vals xs its ∧ xs.length = its.length ∧ s.heap.get? l = some { cls := .type "list", data := .seq its.toArray n } := by
  obtain ⟨z, its, n, r, e⟩ := I.hok l _ hH
  exact ⟨z, its, n, r, r.length, e⟩

end

section
variable {X : Cx}

inductive J_rAppend (x : V) (vs : List V) (H : Hp) (Q : VK) : Prop
  | mk : ∀ l xs y, (x = .ref l) → (vs = [y]) → (H l = some (.lst xs)) → (xs.length < sizeLine) → (Q .non (upd H l (.lst (xs ++ [y])))) → J_rAppend x vs H Q
noncomputable def rAppend : V → List V → Hp → VK → Prop := fun x vs H Q => J_rAppend x vs H Q
theorem mt_append : MtM X "list.append" rAppend := by
  intro pins s σ H x vs v us Q I rx rv h
  obtain ⟨l, xs, y, rfl, rfl, hH, hz, q⟩ := h
  cases rx
  obtain ⟨u, rfl, ru⟩ := rv.one
  obtain ⟨z, its, n, r, hl, e⟩ := I.lstM hH
  refine call_meets F.slot_list_append ⟨_, e, rfl⟩ F.entry_list_append (F.args_list_append_2 _ _) (PySem.list_append l its.toArray n u (by rw [List.size_toArray]; omega)) ⟨e, ?_⟩
  refine ⟨.non, _, I.lset (its' := its ++ [u]) hH e (by simp) (r.append (.cons ru .nil)) ?_, rfl, q⟩
  rw [List.length_append, List.length_singleton]
  omega






inductive J_rCat (x : V) (y : V) (H : Hp) (Q : VK) : Prop
  | mk : ∀ l b xs zs, (x = .ref l) → (y = .ref b) → (H l = some (.lst xs)) → (H b = some (.lst zs)) → (xs.length + zs.length ≤ sizeLine) → (∀ p, H p = none → Q (.ref p) (upd H p (.lst (xs ++ zs)))) → J_rCat x y H Q
noncomputable def rCat : R2 := fun x y H Q => J_rCat x y H Q
theorem op_cat : OpR X (binaryOp .Add) rCat := by
  intro pins s σ H x y v u Q I rx ry h
  obtain ⟨l, b, xs, zs, rfl, rfl, hH, hB, hz, q⟩ := h
  cases rx
  cases ry
  obtain ⟨z, its, n, r, hl, e⟩ := I.lstM hH
  obtain ⟨z2, its2, n2, r2, hl2, e2⟩ := I.lstM hB
  refine PySem.P.add_list e e2 ?_ (by rw [List.size_toArray, List.size_toArray]; omega)
  have ea : its.toArray ++ its2.toArray = (its ++ its2).toArray := by simp
  rw [ea]
  exact ⟨.ref _, _, I.lnew (t' := s.toks) (r.append r2) (by rw [List.length_append]; omega), rfl, q _ I.fresh⟩

end

section
variable {prog : Program} {w : World} {A : Around} {E : Value → Shared → Prop} {s : Shared}
end

section
variable {X : Cx}
end
end L2

namespace Att
open PySem PySem.W PySem.Calls PyProof.Rows

theorem ints_of_wellAll {P : Params} {h : Heap} : ∀ (ns : List Int) (vs : List Value), WellAll P h vs (ns.map WData.int) → IntsAre vs ns := by
  intro ns
  induction ns with
  | nil =>
    intro vs w
    rw [List.map_nil] at w
    cases w
    exact .nil
  | cons n ns ih =>
    intro vs w
    rw [List.map_cons] at w
    cases w with
    | cons a b =>
      cases a
      exact .cons _ _ (ih _ b)

theorem script_of {l : OpenLaw} {n : Nat} (hn : l.most = some n) {P : Params} {h : Heap} {args : List WData} {vals : List Value}
    (hpre : l.row.toRowW.claim.pre args = true) (hwl : WellAll P h vals args) :
    ∃ a vs ns, vals = [Value.ref a] ∧ args = [WData.list (ns.map WData.int)] ∧ h.get? a = some { cls := .type "list", data := .seq vs.toArray } ∧ IntsAre vs ns ∧ ns.length ≤ n := by
  have hsh : WShape.hasAll [] args [.list .int] = true := (pre_splitW hpre).1
  have hc : l.pre.holds [] { args := args } = true := (pre_splitW hpre).2
  obtain ⟨d, r, rfl, h1, h2⟩ := hasAllW_cons hsh
  obtain rfl := hasAllW_nil h2
  obtain ⟨xs, rfl, h3⟩ := hasW_list h1
  obtain ⟨ns, rfl⟩ := items_int h3
  have hlen : ns.length ≤ n := by
    unfold OpenLaw.pre at hc
    have h4 : (WTm.not (.lt (.lit (.int (n : Int))) (.len (.arg 0)))).holds [] { args := [.list (ns.map .int)] } = true := by
      have h4 := (holds_andW hc).1
      rw [hn] at h4
      exact h4
    have h5 := condW_of h4 (w_not (w_lt w_lit (w_len_list (w_arg rfl))))
    rw [List.length_map] at h5
    refine Nat.le_of_not_lt fun q => ?_
    have q' : (n : Int) < ((ns.length : Nat) : Int) := by omega
    first
      | (rw [decide_eq_true q'] at h5; exact absurd h5 (by decide))
      | (simp at h5; omega)
  cases hwl with
  | cons w1 w2 =>
    cases w2
    cases w1 with
    | list ho hall => exact ⟨_, _, ns, rfl, rfl, ho, ints_of_wellAll ns _ hall, hlen⟩

theorem post_true (l : OpenLaw) (args : List WData) : l.row.toRowW.claim.post args (.bool true) args = true :=
  postW_of (r := l.row.toRowW) (X := (true == true))
    (show WShape.has [] (.bool true) .bool = true by first | rfl | decide | simp [WShape.has, WShape.arms, WShape.armsAll])
    (show (WTm.eq .res (.lit (.bool true))).value [] { args := args, res := some (.bool true), after := args } = some (.bool (true == true)) from w_eq_bool (w_res rfl) w_lit) rfl




section
variable {prog : Program} {w : World} {A : Around} {E : Value → Shared → Prop} {s : Shared} {K : Frag}






end
end Att

namespace L2
open PySem PySem.Spec PyProof.Rows

theorem vals_ints : ∀ {vs : List Value} {ns : List Int}, IntsAre vs ns → Vals (ns.map V.int) vs
  | _, _, .nil => .nil
  | _, _, .cons n t h => .cons ⟨t, rfl⟩ (vals_ints h)

noncomputable def Only (H : Hp) : Prop := ∀ b, H b = none ∨ ∃ o xs, H b = some (.frz o (.lst xs))

theorem law_call {P : Program} {w : World} {K : PySem.W.Frag} {mg mb : Str → Option Value} {CX : CXT} {k : Nat} {fa a : Addr} {fd : FuncData} {x : Str} {sp : Sp} {s₁ : Shared} {vs : List Value} {ns : List Int}
    (KX : K.In s₁.heap) (hns : s₁.heap.Ns mainGlobals mg) (hb : s₁.heap.Ns builtinsNs mb) (hbb : ∀ x : Str, x ≠ "__name__" → mb x = bootBuiltins x) (hlim : s₁.heap.NoLimit) (hg : s₁.gens = #[])
    (ha : s₁.heap.get? a = some { cls := .type "list", data := .seq vs.toArray }) (hi : IntsAre vs ns) (hl : ns.length ≤ sizeLine) (hr : Room k callerA)
    (F : ∀ base : Heap, K.In base → base.Ns mainGlobals mg → FnOk P w K mg base CX k fa fd [x] sp) (hbind : ∀ (s : Shared) (u : Value), BindsTo s fd ⟨[u], []⟩ [(x, u)])
    (hsp : ∀ H : Hp, Only H → SqL K H a (ns.map V.int) → sp [.ref a] H (fun v _ => v = .bl true) fun _ _ _ => False)
    (hCX : ∀ H e s', CX [] H s₁ (fun _ _ _ => False) e s' → False) :
    codeAny (model P w) callerA (.call (.ref fa) ⟨[.ref a], []⟩) (fun r s' => r = .ok (.ret (.bool true)) ∧ OldK s₁.heap s'.heap ∧ s'.os = s₁.os ∧ AllBare s'.gens) s₁ := by
  have rv := vals_ints hi
  have lenV := hi.length
  -- from an abstract heap in which nothing but the script may be tracked
  have core : ∀ H : Hp, Only H → SqL K H a (ns.map V.int) → HOk P w H s₁.heap → (∀ b, H b ≠ none → b = a) → (H a ≠ none → K.lookup a = none) →
      codeAny (model P w) callerA (.call (.ref fa) ⟨[.ref a], []⟩) (fun r s' => r = .ok (.ret (.bool true)) ∧ OldK s₁.heap s'.heap ∧ s'.os = s₁.os ∧ AllBare s'.gens) s₁ := by
    intro H hO hS hok hA hK
    have base_of : ∀ {b : Addr} {o : Obj}, s₁.heap.get? b = some o → H b = none → (hidT s₁.heap H).get? b = some o := fun e n => hidT_get e n
    have noA : ∀ {b : Addr} {o : Obj} {es : Array DictEntry} {ep : Nat}, s₁.heap.get? b = some o → o.data = .dict es ep → H b = none := fun {b o es ep} e d => by
      cases q : H b with
      | none => rfl
      | some u =>
        have e' : b = a := hA b (by rw [q]; simp)
        subst e'
        rw [ha] at e; cases e
        have d' : Data.seq vs.toArray _ = Data.dict es ep := d
        cases d'
    have nsK : ∀ {b : Addr} {m : Str → Option Value}, s₁.heap.Ns b m → (hidT s₁.heap H).Ns b m := fun {b m} ⟨o, es, ep, e, d, r⟩ => ⟨o, es, ep, base_of e (noA e d), d, r⟩
    have hKb : K.In (hidT s₁.heap H) := fun b o e => base_of (KX b o e) (by
      cases q : H b with
      | none => rfl
      | some u =>
        have e' : b = a := hA b (by rw [q]; simp)
        subst e'
        rw [hK (by rw [q]; simp)] at e; cases e)
    have hM : Mod K mg (hidT s₁.heap H) := ⟨hKb, nsK hns, ⟨mb, nsK hb, hbb⟩, let ⟨mc, h1, h2⟩ := hlim; ⟨mc, nsK h1, h2⟩⟩
    have e0 : Env0 P w K mg (hidT s₁.heap H) callerA [] s₁ H := ⟨rfl, hM, fun b o e => of_hidT e, Nat.le_of_eq (hidT_size _ _), trivial, fun b hb => absurd (show b ∈ ([] : List Addr) from hb) (by simp), hok, .of_eq hg⟩
    refine codeAny_mono ((F _ hKb (nsK hns)).run callerA [] s₁ H ⟨[.ref a], []⟩ [.ref a] [.ref a] _ _ hr e0 (hbind s₁ (.ref a)) (.cons rfl .nil) (hsp H hO hS)) fun r s' h => ?_
    cases r with
    | error e => exact (hCX H e s' h).elim
    | ok fl =>
      cases fl with
      | next => exact False.elim h
      | brk => exact False.elim h
      | cont => exact False.elim h
      | ret u =>
        obtain ⟨v, H', os, bare, un, hok', r', q⟩ := h
        have q' : v = .bl true := q
        subst q'
        obtain rfl : u = Value.bool true := r'
        refine ⟨rfl, OldK.of_keep fun b o e => ?_, os, bare⟩
        cases q : H b with
        | none => exact un.keep b o e q (by intro z; exact absurd (show b ∈ ([] : List Addr) from z) (by simp)) (by simp)
        | some u =>
          rcases hO b with z | ⟨ob, xs, z⟩
          · rw [q] at z; cases z
          · have z2 := un.frzs b ob _ z
            obtain ⟨e1, _⟩ := hok b _ z
            obtain ⟨e2, _⟩ := hok' b _ z2
            rw [e] at e1; cases e1
            exact e2
  cases hk : K.lookup a with
  | some o =>
    -- the script is one of the module's own objects
    have e := KX a o hk
    rw [ha] at e
    cases e
    refine core (fun _ => none) (fun _ => .inl rfl) (.inr ⟨_, vs.toArray, _, hk, rfl, rfl, rfl, by rw [List.size_toArray, lenV]; exact hl, by simpa using rv⟩) (fun b u z => by have z' : (none : Option HO) = some u := z; cases z') (fun b z => absurd rfl z) fun z => absurd rfl z
  | none =>
    refine core (fun b => if b = a then some (.frz { cls := .type "list", data := .seq vs.toArray } (.lst (ns.map V.int))) else none) (fun b => ?_) (.inl (.inr ⟨{ cls := .type "list", data := .seq vs.toArray }, if_pos rfl⟩)) (fun b u z => ?_) (fun b z => ?_) fun _ => hk
    · by_cases hb : b = a
      · exact .inr ⟨_, _, if_pos hb⟩
      · exact .inl (if_neg hb)
    · by_cases hb : b = a
      · have z' := (if_pos hb).symm.trans z
        cases z'
        subst hb
        exact ⟨ha, by rw [List.length_map]; exact hl, vs, _, rv, ha⟩
      · have z' := (if_neg hb).symm.trans z
        cases z'
    · by_cases hb : b = a
      · exact hb
      · exact absurd (if_neg hb) z
end L2

namespace L2
open PySem PySem.Spec PyProof.Rows


end L2



namespace L2
open PySem PySem.Spec PyProof.Rows

noncomputable def defArgs (s : Stmt) : Arguments := match s with
  | .FunctionDef _ a _ _ _ _ _ _ _ _ => a
  | _ => { posonlyargs := [], args := [], vararg := none, kwonlyargs := [], kw_defaults := [], kwarg := none, defaults := [] }
noncomputable def defBody (s : Stmt) : List Stmt := match s with
  | .FunctionDef _ _ b _ _ _ _ _ _ _ => b
  | _ => []
noncomputable def defScope (s : Stmt) : Scope := match s with
  | .FunctionDef _ _ _ _ _ _ sc _ _ _ => sc
  | _ => { kind := .function, names := [], isGenerator := false, isCoroutine := false }

noncomputable abbrev CX0 : CXT := fun _ _ _ _ _ _ => False
noncomputable abbrev E0 : XK := fun _ _ _ => False
theorem pass0 {X : Cx} : Passes CX0 X E0 := fun _ _ _ _ _ _ _ h => h.elim

structure Fun (K : PySem.W.Frag) (x qual : Str) (st : Stmt) (f : Addr) (fd : FuncData) : Prop where
  ex : ∃ (oc : Value) (od : Option Addr) (kV doc pm : Value) (an : Option Addr) (cdv ct : Value) (osl : Array (Option Value)),
    fd = PySem.W.fnOf x qual (defArgs st) (defBody st) (defScope st) .none kV doc pm an cdv ct ∧ K.lookup f = some ⟨oc, od, .func fd, osl⟩ ∧ PySem.W.codeIn K cdv qual = true
  kp : PySem.W.keepIn K (.ref f) = true
section
variable {P : Program} {w : World} {K : PySem.W.Frag} {mg : Str → Option Value} {base : Heap}
theorem Fun.ok {x qual : Str} {st : Stmt} {f : Addr} {fd : FuncData} {N ps : List Str} {k : Nat} {sp : Sp} (F : Fun K x qual st f fd) (S : FnScope N ps (defScope st)) (len : ∀ vs H Q E, sp vs H Q E → vs.length = ps.length)
    (hbody : ∀ (cdv : Value) (A : Around) (outer : List Env) (s : Shared) (H : Hp) (vs : List V) (Q : VK) (E : XK), Room k (A.deeper (envOfC qual (defScope st) s.heap.objs.size f cdv)) → sp vs H Q E →
      ∃ t, PSs (cxOf CX0 P w K mg base N qual (defScope st) f cdv A outer s H E).nox (defBody st) t ∧ t { nx := fun _ H' => Q .non H', rt := Q } (start N vs) H) : FnOk P w K mg base CX0 (k + 1) f fd ps sp := by
  obtain ⟨oc, od, kV, doc, pm, an, cdv, ct, osl, rfl, lk, hcd⟩ := F.ex
  refine fn_of lk hcd S len fun A outer s H vs Q E hr hsp => ?_
  obtain ⟨t, h, q⟩ := hbody cdv A outer s H vs Q E hr hsp
  exact ⟨t, h.nox, q⟩
theorem Fun.binds {x qual : Str} {st : Stmt} {f : Addr} {fd : FuncData} {ps : List Str} (F : Fun K x qual st f fd)
    (h : ∀ (kV doc pm : Value) (an : Option Addr) (cdv ct : Value) (us : List Value), us.length = ps.length → bindArgs (PySem.W.fnOf x qual (defArgs st) (defBody st) (defScope st) .none kV doc pm an cdv ct) ⟨us, []⟩ = pure (ps.zip us)) : Binds K fd ps [] := by
  obtain ⟨oc, od, kV, doc, pm, an, cdv, ct, osl, rfl, lk, hcd⟩ := F.ex
  exact .all (h kV doc pm an cdv ct)
theorem fun_mk {x qual : Str} {st : Stmt} {f : Addr} {oc : Value} {od an : Option Addr} {osl : Array (Option Value)} {kV doc pm cdv ct : Value} (l : K.lookup f = some ⟨oc, od, .func (PySem.W.fnOf x qual (defArgs st) (defBody st) (defScope st) .none kV doc pm an cdv ct), osl⟩)
    (c : PySem.W.codeIn K cdv qual = true) (k : PySem.W.keepIn K (.ref f) = true) : Fun K x qual st f (PySem.W.fnOf x qual (defArgs st) (defBody st) (defScope st) .none kV doc pm an cdv ct) := ⟨⟨oc, od, kV, doc, pm, an, cdv, ct, osl, rfl, l, c⟩, k⟩
end
theorem hu_of {A : Around} {k : Nat} (hr : Room k A) : A.units + 1 < cLine := Nat.lt_of_le_of_lt (Nat.add_le_add_left (by decide : 1 ≤ 64) _) hr.units
theorem small1000 {n : Nat} (h : n ≤ 1000) : n < sizeLine := Nat.lt_of_le_of_lt h (by decide)

section
variable {X : Cx}
theorem pv (i : Nat) {x : Str} {pos : Pos} (hN : X.N[i]? = some x := by rfl) (hv : Vis X.env.scope x := by first | exact Or.inl rfl | exact Or.inr (Or.inl rfl) | exact Or.inr (Or.inr rfl)) (hd : (x == ("__debug__" : Str)) = false := by decide)
    (hcd : (x == ("__classdict__" : Str)) = false := by decide) : PE X (.Name x pos) (tVar i) := pe_var hN hv hd hcd
end

theorem iteF {A B : Prop} (h : B) : if false = true then A else B := by
  rw [if_neg Bool.false_ne_true]
  exact h
theorem iteT {A B : Prop} (h : A) : if true = true then A else B := by
  rw [if_pos rfl]
  exact h

noncomputable def Same (H H' : Hp) : Prop := ∀ b o, H b = some o → H' b = some o
theorem Same.refl (H : Hp) : Same H H := fun _ _ h => h
theorem Same.trans {H H1 H2 : Hp} (a : Same H H1) (b : Same H1 H2) : Same H H2 := fun c o h => b c o (a c o h)
theorem Same.free {H H' : Hp} (e : Same H H') {l : Addr} (h : H' l = Option.none) : H l = Option.none := by
  cases q : H l with
  | none => rfl
  | some o =>
    rw [e l o q] at h
    cases h
theorem Same.seq {K : PySem.W.Frag} {H H' : Hp} {a : Addr} {xs : List V} (e : Same H H') (h : SqL K H a xs) : SqL K H' a xs := by
  rcases h with (h | ⟨o, h⟩) | h
  · exact .inl (.inl (e _ _ h))
  · exact .inl (.inr ⟨o, e _ _ h⟩)
  · exact .inr h

end L2
namespace L2
open PySem PySem.Spec PyProof.Rows

section
variable {X : Cx} {pins : List (Addr × Obj)} {σ : St} {H : Hp} {s : Shared} {h' : Heap}
theorem Inv.turnedLaid {ch : List Addr} {a : Addr} {o : HO} {t' : Nat} (I : Inv X pins σ H s) (k : ∀ b u, b ∉ ch → s.heap.get? b = some u → h'.get? b = some u)
    (hch : ∀ b ∈ ch, FpOk X pins H b) (hp : s.heap.objs.size ≤ a) (new : ObjOk X.prog X.w (upd H a o) h' a o) : Inv X pins σ (upd H a o) { s with heap := h', toks := t' } := by
  have hfr : H a = none := I.hok.fresh hp
  have old : ∀ b ob, s.heap.get? b = some ob → b ≠ a := fun b ob e z => by subst z; exact absurd (Nat.lt_of_lt_of_le (Heap.lt_size e) hp) (Nat.lt_irrefl _)
  have tr : ∀ b u, H b = some u → b ≠ a := fun b u e z => by rw [z, hfr] at e; cases e
  have trc : ∀ b u, H b = some u → b ∉ ch := fun b u e z => by rw [(hch b z).1] at e; cases e
  refine I.step (g' := s.gens) (d' := s.drawn) (ch := ch) (fun b hb => ?_) (fun b ob _ _ hc e _ => k b ob hc e) (fun b ob _ _ hc e _ => ⟨ob.slots, k b ob hc e⟩) (fun b ob _ e n => ?_)
    (fun b ob hc e => ⟨ob, k b ob hc e⟩) (fun b xs e => ?_) (fun b ob u e => ?_) (fun b ps e => ⟨#[], ?_⟩) (fun m hm => ?_) (fun b u e => ?_) I.bare
  · obtain ⟨_, f1, _, f3, f4, f5⟩ := hch b hb
    exact ⟨f3, f1, f4, f5⟩
  · rw [upd_ne (old b ob e)]; exact n
  · rw [upd_ne (tr b _ e)]; exact e
  · rw [upd_ne (tr b _ e)]; exact e
  · rw [upd_ne (tr b _ e), e]; simp
  · obtain ⟨ob, es, ep, ho, r⟩ := hm
    exact ⟨ob, es, ep, k _ ob (fun z => (hch _ z).2.1 rfl) ho, r⟩
  · by_cases hb : b = a
    · subst hb
      rw [upd_same] at e; cases e
      exact new
    · rw [upd_ne hb] at e
      refine (I.hok b u e).stay (fun c v hc q => k c v ?_ q) (fun c q => by rw [upd_ne (tr c _ q)]; exact q) fun c xs q => by rw [upd_ne (tr c _ q)]; exact q
      rcases hc with z | z
      · rw [z]; exact trc b u e
      · exact trc c _ z
end

noncomputable def Ite (K : PySem.W.Frag) (a : Addr) : It :=
  ⟨fun i H => ∃ xs x, SqL K H a xs ∧ xs[i]? = some x,
   fun i H x H' => ∃ p v, H p = none ∧ x = .ref p ∧ (∀ xs, SqL K H a xs → xs[i]? = some v) ∧ H' = upd H p (.tup [.int (i : Int), v]),
   fun i H => ∃ xs, SqL K H a xs ∧ xs.length = i⟩
theorem turn_enum {P : Program} {w : World} {K : PySem.W.Frag} {elts : List Expr} {k : Nat} {tp : Pos} (a e it : Addr) (hne : e ≠ it) :
    Turn P w K (.Tuple elts k tp) (Ite K a) [e, it] e (fun i h => (∃ old, IsEnum h e it (i : Int) old) ∧ h.IsListIter it a i) where
  mem := by simp
  obj := fun i h st b hb => by
    obtain ⟨⟨old, he⟩, hit⟩ := st
    rcases List.mem_cons.mp hb with rfl | hb
    · exact ⟨_, he, fun v z => by
        have z' : Data.fields _ = Data.cell v := z
        cases z'⟩
    · have e : b = it := by simpa using hb
      subst e
      obtain ⟨o, e, c, d⟩ := hit
      exact ⟨o, e, fun v z => by rw [d] at z; cases z⟩
  keep := fun i h h' st k => by
    obtain ⟨⟨old, he⟩, hit⟩ := st
    exact ⟨⟨old, k e (by simp) _ he⟩, hit.at fun o q => k it (by simp) o q⟩
  item := by
    intro X hP hw hK hc i pins s σ H E I hf st hg
    subst hP hw hK
    obtain ⟨⟨old, he⟩, hit⟩ := st
    obtain ⟨xs, x, hq, hx⟩ := hg
    obtain ⟨its, rv, p, hz⟩ := I.list hq
    obtain ⟨u, hu, ru⟩ := rv.get hx
    have hai : a ≠ it := fun z => by
      obtain ⟨o, n, e1, c1, _⟩ := p
      obtain ⟨o', e2, c2, _⟩ := hit
      rw [z, e2] at e1; cases e1
      rw [c1] at c2
      exact absurd (Value.type.inj c2) (by decide)
    have hae : a ≠ e := fun z => by
      obtain ⟨o, n, e1, c1, _⟩ := p
      rw [z, he] at e1; cases e1
      exact absurd (Value.type.inj c1) (by decide)
    have hlt : i < its.toArray.size := by
      rw [List.size_toArray]
      exact (List.getElem?_eq_some_iff.mp hu).1
    have hel : e < s.heap.objs.size := Heap.lt_size he
    have hil : it < s.heap.objs.size := by obtain ⟨o, q, _⟩ := hit; exact Heap.lt_size q
    refine wpAny_pyNext_enum_itemD (Draws.list (A := X.A.in1) (I.ok.hd hc) it a hai its.toArray) he ⟨hit, p.isList⟩ hlt hne (by
      intro z
      rcases List.mem_cons.mp z with z | z
      · exact hne z
      · exact hae (List.mem_singleton.mp z).symm) fun y h1 tk hy ho hs1 hT hsz hk => ?_
    have hyu : y = u := by
      have e1 : its[i]? = some y := by simpa using hy
      rw [hu] at e1
      exact (Option.some.inj e1).symm
    subst hyu
    refine ⟨_, rfl, wpAny_letOwnedTupleGo_enum ho fun h2 he2 hs2 => ?_⟩
    have kk : ∀ b o, b ∉ [e, it] → s.heap.get? b = some o → h2.get? b = some o := fun b o hb q => by
      have b1 : b ≠ e := fun z => hb (by simp [z])
      have b2 : b ≠ it := fun z => hb (by simp [z])
      exact (hs2.2 b b1).trans (hk b o b1 b2 q)
    have hTe : s.heap.objs.size ≠ e := Nat.ne_of_gt hel
    refine ⟨.ref s.heap.objs.size, upd H s.heap.objs.size (.tup [.int (i : Int), x]), ?_, rfl, ⟨_, x, I.hok.fresh (Nat.le_refl _), rfl, fun ys hy => by rw [I.list_inj hy hq]; exact hx, rfl⟩,
      ⟨⟨_, by simpa using he2⟩, hs1.1.at fun o q => (hs2.2 it (Ne.symm hne)).trans q⟩, fun b hb => ?_⟩
    · refine I.turnedLaid (ch := [e, it]) (t' := tk + 1) kk hf (Nat.le_refl _) ⟨by show 2 ≤ sizeLine; decide, [.int (i : Int) tk, y], .cons ⟨_, rfl⟩ (.cons ru .nil), ?_⟩
      exact ⟨_, (hs2.2 _ hTe).trans hT, rfl, _, rfl⟩
    · have hb' := hf b hb
      have : b ≠ s.heap.objs.size := by
        rcases List.mem_cons.mp hb with rfl | hb
        · exact Nat.ne_of_lt hel
        · rw [List.mem_singleton.mp hb]; exact Nat.ne_of_lt hil
      rw [upd_ne this]
      exact hb'.1
  done := by
    intro X hP hw hK hc i pins s σ H E I hf st hg
    subst hP hw hK
    obtain ⟨⟨old, he⟩, hit⟩ := st
    obtain ⟨xs, hq, hx⟩ := hg
    obtain ⟨its, rv, p, hz⟩ := I.list hq
    have hai : a ≠ it := fun z => by
      obtain ⟨o, n, e1, c1, _⟩ := p
      obtain ⟨o', e2, c2, _⟩ := hit
      rw [z, e2] at e1; cases e1
      rw [c1] at c2
      exact absurd (Value.type.inj c2) (by decide)
    have hl := rv.length
    have hi : i = its.toArray.size := by rw [List.size_toArray]; omega
    subst hi
    obtain ⟨f0, f1, f2, f3, f4, f5⟩ := hf it (by simp)
    exact wpAny_pyNext_enum_endD (Draws.list (A := X.A.in1) (I.ok.hd hc) it a hai its.toArray) he ⟨hit, p.isList⟩ fun h1 eb => ⟨rfl, I.turned (t' := s.toks) (fun b o hb q => eb b o hb q) f0 f1 f3 f4 f5⟩
  self := fun _ _ _ _ _ st h => by
    obtain ⟨⟨old, he⟩, _⟩ := st
    exact wpAny_pyIter_enum he h
inductive J_iEnum (K : PySem.W.Frag) (R : It → Hp → Prop) (vs : List V) (H1 : Hp) : Prop
  | mk : ∀ a, (vs = [.ref a]) → ((∃ xs, SqL K H1 a xs)) → (R (Ite K a) H1) → J_iEnum K R vs H1
noncomputable def iEnum (K : PySem.W.Frag) (ta : TA) : TI := fun σ H R => ta σ H fun vs H1 => J_iEnum K R vs H1
theorem boot_enum : bootBuiltins "enumerate" = some (.type "enumerate") := by decide +kernel
section
variable {X : Cx}
theorem pi_enum {l : Expr} {ta : TA} {elts : List Expr} {k : Nat} {tp p pos : Pos} (hg : Gl X "enumerate") (hm : X.mg "enumerate" = none) (ha : PA X [l] ta) (hs : starEach [l] X.env = [(false, eval l X.env)] := by rfl) :
    PI X (.Tuple elts k tp) (.Call (.Name "enumerate" p) [l] [] pos) (iEnum X.K ta) := by
  intro pins s σ H R I h
  refine Call_ (ld_blt I hg hm boot_enum (PyProof.Rows.callWith_type1 (thn (ha pos pins s σ H _ I h) fun us s1 ⟨vs, H1, I1, r1, q1⟩ => ?_) hs rfl))
  obtain ⟨a, e, ⟨xs, hq⟩, q⟩ := q1
  subst e
  obtain ⟨u, rfl, ru⟩ := vals1 r1
  cases ru
  obtain ⟨its, rv, pl, hz⟩ := I1.list hq
  refine call_enumerate_list pl.isList fun h1 he hit hsz hk => ?_
  have I2 : Inv X pins σ H1 { s1 with heap := h1 } := I1.kept (t' := s1.toks) hk
  have hne : s1.heap.objs.size + 1 ≠ s1.heap.objs.size := Nat.succ_ne_self _
  refine wpAny_pyIter_enum (s := { s1 with heap := h1 }) he ⟨_, [s1.heap.objs.size + 1, s1.heap.objs.size], _, _, H1, rfl, I2, turn_enum a _ _ hne, ⟨⟨_, he⟩, hit⟩, fun b hb => ?_, q⟩
  rcases List.mem_cons.mp hb with rfl | hb
  · exact I1.fpOk (Nat.le_succ _) (I1.hok.fresh (Nat.le_succ _))
  · rw [List.mem_singleton.mp hb]
    exact I1.fpOk (Nat.le_refl _) (I1.hok.fresh (Nat.le_refl _))

end

theorem for_enum {K : PySem.W.Frag} {a : Addr} {xs : List V} {g : TG} {tb : TS} {D : Ends} {σ : St} {H : Hp} (Pv : Nat → St → Hp → Prop) (h0 : Pv 0 σ H) (hl : ∀ i σ H, i ≤ xs.length → Pv i σ H → SqL K H a xs)
    (hs : ∀ i x p σ H, xs[i]? = some x → Pv i σ H → H p = none → g (.ref p) σ (upd H p (.tup [.int (i : Int), x])) fun σ2 H2 => tb { D with nx := Pv (i + 1), ct := Pv (i + 1), bk := D.nx } σ2 H2) (hd : ∀ σ H, Pv xs.length σ H → D.nx σ H) :
    ∃ W : Nat → Nat → St → Hp → Prop, (∃ m, W 0 m σ H) ∧ ∀ i m σ H, W i m σ H →
      ((Ite K a).stop i H ∧ D.nx σ H) ∨ ((Ite K a).go i H ∧ ∃ N : St → Hp → Prop, (∀ σ' H', N σ' H' → ∃ m', m' < m ∧ W (i + 1) m' σ' H') ∧ ∀ x H', (Ite K a).yld i H x H' → g x σ H' fun σ2 H2 => tb { D with nx := N, ct := N, bk := D.nx } σ2 H2) := by
  refine ⟨fun i m σ H => m = xs.length - i ∧ i ≤ xs.length ∧ Pv i σ H, ⟨xs.length, by simp, Nat.zero_le _, h0⟩, ?_⟩
  rintro i m σ H ⟨rfl, hi, p⟩
  have q := hl i σ H hi p
  by_cases hlt : i < xs.length
  · refine .inr ⟨⟨xs, xs[i], q, by simp [hlt]⟩, Pv (i + 1), fun σ' H' p' => ⟨xs.length - (i + 1), by omega, rfl, hlt, p'⟩, fun x H' y => ?_⟩
    obtain ⟨pa, v, hpa, rfl, hv, rfl⟩ := y
    exact hs i v pa σ H (hv xs q) p hpa
  · have e : i = xs.length := by omega
    subst e
    exact .inl ⟨⟨xs, q, rfl⟩, hd σ H p⟩

section
variable {X : Cx}
theorem foldl_cps (a : Array Nat) : ∀ (k : Nat) (acc : Array Nat), ((List.replicate k a).foldl (· ++ ·) acc).toList = acc.toList ++ (List.replicate k a.toList).flatten
  | 0, acc => by simp
  | k + 1, acc => by
    rw [List.replicate_succ, List.foldl_cons, foldl_cps a k, List.replicate_succ, List.flatten_cons, Array.toList_append, List.append_assoc]
noncomputable def timesS (z : Str) (n : Nat) : Str := ⟨(List.replicate n z.cps.toList).flatten.toArray⟩
theorem timesS_len (z : Str) (n : Nat) : (timesS z n).length = n * z.length := by
  unfold timesS Str.length
  simp [List.length_flatten]
inductive J_op_mul_str (x : V) (y : V) (H : Hp) (Q : VK) : Prop
  | mk : ∀ z n, (x = .str z) → (y = .int n) → (1 ≤ n) → (n ≤ 1000) → (z.length ≤ 1000) → (Q (.str (timesS z n.toNat)) H) → J_op_mul_str x y H Q
theorem op_mul_str : OpR X (binaryOp .Mult) (fun x y H Q => J_op_mul_str x y H Q) := by
  intro pins s σ H x y v u Q I rx ry h
  obtain ⟨z, n, rfl, rfl, h1, h2, h3, q⟩ := h
  obtain ⟨t, rfl⟩ := rx
  obtain ⟨t', rfl⟩ := ry
  have e0 : (⟨(List.replicate n.toNat z.cps).foldl (· ++ ·) #[]⟩ : Str) = timesS z n.toNat := by
    unfold timesS
    congr 1
    apply Array.toList_inj.mp
    rw [foldl_cps]
    simp
  have hlen : (timesS z n.toNat).length ≤ sizeLine := by
    rw [timesS_len]
    have : n.toNat ≤ 1000 := by omega
    have := Nat.mul_le_mul this h3
    exact Nat.le_trans this (by decide)
  have e1 : (n == 1 || z.length == 0) = true → timesS z n.toNat = z := fun hc => by
    unfold timesS
    rcases Bool.or_eq_true_iff.mp hc with hc | hc
    · have : n = 1 := by simpa using hc
      subst this
      simp
    · have hz : z.length = 0 := by simpa using hc
      have hz' : z.cps = #[] := Array.eq_empty_of_size_eq_zero hz
      cases z with
      | mk c =>
        simp only at hz'
        subst hz'
        simp
  refine PySem.P.mul_str (by
      have h1' : ¬ n < -(2 ^ 63 : Int) := by omega
      have h2' : ¬ n ≥ 2 ^ 63 := by omega
      rw [decide_eq_false h1', decide_eq_false h2']; rfl) (fun _ _ => ?_) (fun _ _ => ?_) ?_
  · have e : ((2 : Int) ^ 63 - 1) = 9223372036854775807 := by decide
    rw [e]
    have h4 : (1000 : Int) ≤ (9223372036854775807 : Int) / n := by
      refine (Int.le_ediv_iff_mul_le (by omega)).mpr ?_
      omega
    omega
  · unfold Builtin.Str.tooLong
    rw [timesS_len] at hlen
    exact decide_eq_false (by rw [Nat.mul_comm]; omega)
  · rw [if_neg (by omega)]
    by_cases hc : (n == 1 || z.length == 0) = true
    · rw [if_pos hc]
      exact ⟨.str z, H, I, ⟨_, rfl⟩, by rw [e1 hc] at q; exact q⟩
    · rw [if_neg hc]
      exact ⟨by rw [e0]; exact hlen, ⟨.str _, H, I.tok _, ⟨_, rfl⟩, by rw [e0]; exact q⟩⟩
inductive J_call_sumL (kK : PySem.W.Frag) (xs : List V) (H : Hp) (Q : VK) : Prop
  | mk : ∀ (p : Addr) (ns : List Int), (xs = [.ref p]) → (SqL kK H p (ns.map V.int)) → (Q (.int ns.sum) H) → J_call_sumL kK xs H Q
theorem call_sumL (hc : X.calm = true) : CallR X (.builtin "sum") (fun xs H Q => J_call_sumL X.K xs H Q) := by
  intro pins s σ H xs us Q I r h
  obtain ⟨p, ns, rfl, hq, q⟩ := h
  obtain ⟨u, rfl, ru⟩ := vals1 r
  cases ru
  obtain ⟨its, rv, pl, hz⟩ := I.list hq
  have hi : IntsAre its ns := intsAre_of rv
  obtain ⟨ys, hx⟩ := hi.allInts.items
  have hl' : s.heap.IsList p (intItems ys) := hx ▸ pl.isList
  refine sum_intListG (I.ok.hd hc) hl' fun h' tk t' hk => ?_
  have e1 : ns = ys.toList.map (·.1) := by
    rw [← nums_intItems, ← hx]
    exact (show numsOf its.toArray.toList = ns from hi.numsOf).symm
  have e2 : preSum (numAt ys) ys.size = ns.sum := by
    rw [preSum_eq, List.take_of_length_le (by simp), e1]
  exact ⟨.int ns.sum, H, I.kept hk, ⟨t', by rw [e2]⟩, q⟩
inductive J_call_isT (kK : PySem.W.Frag) (xs : List V) (H : Hp) (Q : VK) : Prop
  | mk : ∀ x T t b, (xs = [x, .ty T]) → (TyOf kK H x t) → (PySem.W.kitOne kK t (.type T) = some b) → (Q (.bl b) H) → J_call_isT kK xs H Q
theorem call_isT : CallR X (.builtin "isinstance") (fun xs H Q => J_call_isT X.K xs H Q) := by
  intro pins s σ H xs us Q I r h
  obtain ⟨x, T, t, b, rfl, ty, e, q⟩ := h
  obtain ⟨u, w', rfl, rx, ry⟩ := vals2 r
  cases ry
  exact isinst_ok I rx ty e fun tk => ⟨.bl b, H, I.tok _, rfl, q⟩
end
end L2
namespace L2
open PySem PySem.Spec PyProof.Rows

noncomputable def capsOf (cells : List (Str × Addr)) : List (Str × NameKind) → List (Str × Addr) → List (Str × Addr)
  | [], acc => acc
  | (n, k) :: r, acc => if k == .free then (match cells.lookup n with | some c => capsOf cells r ((n, c) :: acc) | none => capsOf cells r acc) else capsOf cells r acc
theorem capsOf_cells {cells : List (Str × Addr)} : ∀ {names : List (Str × NameKind)} {acc : List (Str × Addr)} {x : Str} {c : Addr}, (∀ x c, acc.lookup x = some c → cells.lookup x = some c) → (capsOf cells names acc).lookup x = some c → cells.lookup x = some c
  | [], _, x, c, ha, h => ha x c h
  | (n, k) :: r, acc, x, c, ha, h => by
    unfold capsOf at h
    by_cases hk : (k == NameKind.free) = true
    · rw [if_pos hk] at h
      cases e : cells.lookup n with
      | none =>
        rw [e] at h
        exact capsOf_cells ha h
      | some d =>
        rw [e] at h
        refine capsOf_cells (fun y z hy => ?_) h
        rw [List.lookup_cons] at hy
        cases q : y == n with
        | true =>
          rw [q] at hy
          have : y = n := by simpa using q
          rw [this, e]; exact hy
        | false =>
          rw [q] at hy
          exact ha y z hy
    · rw [if_neg hk] at h
      exact capsOf_cells ha h
theorem capsOf_acc {cells : List (Str × Addr)} : ∀ {names : List (Str × NameKind)} {acc : List (Str × Addr)} {x : Str}, (acc.lookup x).isSome = true → ((capsOf cells names acc).lookup x).isSome = true
  | [], _, _, h => h
  | (n, k) :: r, acc, x, h => by
    unfold capsOf
    by_cases hk : (k == NameKind.free) = true
    · rw [if_pos hk]
      cases e : cells.lookup n with
      | none => exact capsOf_acc h
      | some d =>
        refine capsOf_acc ?_
        rw [List.lookup_cons]
        cases q : x == n with
        | true => rfl
        | false => exact h
    · rw [if_neg hk]; exact capsOf_acc h
theorem capsOf_has {cells : List (Str × Addr)} : ∀ {names : List (Str × NameKind)} {acc : List (Str × Addr)} {x : Str}, (x, NameKind.free) ∈ names → (cells.lookup x).isSome = true → ((capsOf cells names acc).lookup x).isSome = true
  | [], _, _, h, _ => nomatch h
  | (n, k) :: r, acc, x, h, hc => by
    unfold capsOf
    rcases List.mem_cons.mp h with e | h
    · cases e
      rw [if_pos (show (NameKind.free == NameKind.free) = true from rfl)]
      cases e : cells.lookup n with
      | none => rw [e] at hc; cases hc
      | some d =>
        refine capsOf_acc ?_
        rw [List.lookup_cons]
        simp
    · by_cases hk : (k == NameKind.free) = true
      · rw [if_pos hk]
        cases e : cells.lookup n with
        | none => exact capsOf_has h hc
        | some d => exact capsOf_has h hc
      · rw [if_neg hk]; exact capsOf_has h hc
theorem caps_cells {cells : List (Str × Addr)} {names : List (Str × NameKind)} {x : Str} {c : Addr} (h : (capsOf cells names []).lookup x = some c) : cells.lookup x = some c :=
  capsOf_cells (fun _ _ z => by simp at z) h
theorem forIn_caps {env : Env} : ∀ (names : List (Str × NameKind)) (acc : List (Str × Addr)), (∀ y ∈ names, y.2 = .free → ∃ c, env.cells.lookup y.1 = some c) →
    (forIn names acc fun x r => match x with
      | (name, kind) => if (kind == NameKind.free) = true then (do let c ← cellOf env name; pure (ForInStep.yield ((name, c) :: r))) else pure (ForInStep.yield r) : Sem (List (Str × Addr))) = pure (capsOf env.cells names acc)
  | [], acc, _ => rfl
  | (n, k) :: r, acc, h => by
    have hr : ∀ y ∈ r, y.2 = .free → ∃ c, env.cells.lookup y.1 = some c := fun y hy => h y (List.mem_cons_of_mem _ hy)
    rw [List.forIn_cons]
    by_cases hk : (k == NameKind.free) = true
    · have ek : k = .free := by simpa using hk
      obtain ⟨c, hc⟩ := h (n, k) List.mem_cons_self ek
      have e1 : cellOf env n = pure c := by
        have hc' : env.cells.lookup n = some c := hc
        unfold cellOf
        rw [hc']
      unfold capsOf
      rw [if_pos hk]
      have hc' : env.cells.lookup n = some c := hc
      rw [hc']
      simp only [hk, if_true, e1]
      exact forIn_caps r ((n, c) :: acc) hr
    · unfold capsOf
      rw [if_neg hk]
      simp only [hk]
      exact forIn_caps r acc hr
theorem closure_caps {scope : Scope} {env : Env} (h : ∀ y ∈ scope.names, y.2 = .free → ∃ c, env.cells.lookup y.1 = some c) : closureFor scope env = pure (capsOf env.cells scope.names []) := by
  have e := forIn_caps scope.names [] h
  unfold closureFor
  show (Bind.bind (forIn scope.names [] fun x r => match x with
      | (name, kind) => if (kind == NameKind.free) = true then (do let c ← cellOf env name; pure (ForInStep.yield ((name, c) :: r))) else pure (ForInStep.yield r) : Sem (List (Str × Addr))) fun r => pure r) = _
  rw [e]
  rfl

theorem relabel_free {scope : Scope} {env : Env} {x : Str} (hc : ∀ y ∈ scope.names, y.2 ≠ .cell) (h : (relabel scope env).names.lookup x = some .cell ∨ (relabel scope env).names.lookup x = some .free) : (x, NameKind.free) ∈ scope.names := by
  unfold relabel at h
  simp only at h
  generalize scope.names = names at h hc
  induction names with
  | nil => rcases h with h | h <;> cases h
  | cons y r ih =>
    obtain ⟨n, k⟩ := y
    have hr : ∀ y ∈ r, y.2 ≠ NameKind.cell := fun y hy => hc y (List.mem_cons_of_mem _ hy)
    rw [List.map_cons] at h
    by_cases hk : (k == NameKind.free && env.scope.kind == .function && env.kindOf n == some .cell) = true
    · simp only [hk, if_true, List.lookup_cons] at h
      cases q : x == n with
      | true =>
        have e : x = n := by simpa using q
        have ek : k = .free := by
          have := (Bool.and_eq_true_iff.mp (Bool.and_eq_true_iff.mp hk).1).1
          simpa using this
        rw [e, ek]; exact List.mem_cons_self
      | false =>
        rw [q] at h
        exact List.mem_cons_of_mem _ (ih h hr)
    · simp only [hk, Bool.false_eq_true, if_false, List.lookup_cons] at h
      cases q : x == n with
      | true =>
        rw [q] at h
        have e : x = n := by simpa using q
        have hk0 : k ≠ .cell := hc (n, k) List.mem_cons_self
        rcases h with h | h
        · exact absurd (Option.some.inj h) hk0
        · rw [e, Option.some.inj h]; exact List.mem_cons_self
      | false =>
        rw [q] at h
        exact List.mem_cons_of_mem _ (ih h hr)

theorem relabel_of_free {scope : Scope} {env : Env} {x : Str} (h : scope.names.lookup x = some .free) : (relabel scope env).names.lookup x = some .cell ∨ (relabel scope env).names.lookup x = some .free := by
  unfold relabel
  simp only
  generalize scope.names = names at h
  induction names with
  | nil => cases h
  | cons y r ih =>
    obtain ⟨n, k⟩ := y
    rw [List.map_cons]
    rw [List.lookup_cons] at h
    by_cases hk : (k == NameKind.free && env.scope.kind == .function && env.kindOf n == some .cell) = true
    · simp only [hk, if_true, List.lookup_cons]
      cases q : x == n with
      | true => exact .inl rfl
      | false => rw [q] at h; exact ih h
    · simp only [hk, Bool.false_eq_true, if_false, List.lookup_cons]
      cases q : x == n with
      | true => rw [q] at h; exact .inr h
      | false => rw [q] at h; exact ih h

noncomputable def cxComp (X : Cx) (scope : Scope) (N : List Str) (fp : List Addr) (s : Shared) (H : Hp) : Cx :=
  { X with N := N, s₀ := s, H₀ := H, env := compEnvC scope (capsOf X.env.cells scope.names []) s.heap.objs.size X.env, outer := X.stack, ex := fp, fn := fun _ => false, pn := [], xe := fun _ _ => False }

structure CompScope (X : Cx) (scope : Scope) (own : List Str) (caps : List (Str × Nat)) : Prop where
  kind : scope.kind = .function
  nocell : ∀ y ∈ scope.names, y.2 ≠ .cell
  locs : ∀ y ∈ scope.names, y.2 = .local → scope.names.lookup y.1 = some .local
  frees : ∀ y ∈ scope.names, y.2 = .free → X.env.kindOf y.1 = some .cell
  own : ∀ x ∈ own, scope.names.lookup x = some .local
  caps : ∀ p ∈ caps, X.N[p.2]? = some p.1 ∧ X.env.kindOf p.1 = some .cell ∧ scope.names.lookup p.1 = some .free

noncomputable def capt (σ : St) (caps : List (Str × Nat)) : St := caps.map fun p => (σ[p.2]?).join
section
variable {X : Cx} {scope : Scope} {own : List Str} {caps : List (Str × Nat)} {pins : List (Addr × Obj)} {σ : St} {H : Hp} {s : Shared} {fp : List Addr}
theorem comp_ok (S : CompScope X scope own caps) (I : Inv X pins σ H s) (hf : ∀ b ∈ fp, FpOk X pins H b) (hl : ∀ b ∈ fp, b < s.heap.objs.size) : (cxComp X scope (own ++ caps.map (·.1)) fp s H).Ok where
  mod := I.ok.mod
  kind := S.kind
  glob := I.ok.glob
  blt := I.ok.blt
  above := Nat.le_refl _
  inj := fun x y c h1 h2 => I.ok.inj x y c (caps_cells h1) (caps_cells h2)
  has := fun x h => by
    have hm := relabel_free S.nocell h
    obtain ⟨c, hc⟩ := I.ok.has x (.inl (S.frees _ hm rfl))
    exact Option.isSome_iff_exists.mp (capsOf_has hm (by rw [hc]; rfl))
  cab := fun x c h _ => nomatch h
  hd := I.ok.hd
  frames := I.ok.frames
  stk := .inl rfl
  exf := fun b hb => ⟨Nat.ne_of_lt (hl b hb), fun x c h => (hf b hb).2.2.2.2.1 x c (caps_cells h)⟩
  bs := I.bs
  bsz := Nat.le_trans I.ok.bsz I.sz
  noex := fun b o e hb => by
    rcases (hf b hb).2.2.2.1 with z | z
    · exact I.ok.noex b o e z
    · exact absurd (Nat.lt_of_lt_of_le (Nat.lt_of_lt_of_le (Heap.lt_size e) I.ok.bsz) z) (Nat.lt_irrefl _)
  exfs := fun b hb z => by
    rcases List.mem_cons.mp (I.stkSub b z) with e | e
    · exact (hf b hb).2.1 e
    · exact (hf b hb).2.2.1 e
  funs := I.stack
  frf := I.stkFree
theorem comp_start (S : CompScope X scope own caps) (I : Inv X pins σ H s) (hf : ∀ b ∈ fp, FpOk X pins H b) (hl : ∀ b ∈ fp, b < s.heap.objs.size) {h1 : Heap} {m : Str → Option Value} {t : Nat} (hn : h1.Ns s.heap.objs.size m)
    (hk : ∀ b o, s.heap.get? b = some o → h1.get? b = some o) : Inv (cxComp X scope (own ++ caps.map (·.1)) fp s H) [] (List.replicate own.length none ++ capt σ caps) H { s with heap := h1, toks := t } := by
  refine ⟨comp_ok S I hf hl, rfl, I.bare, Un.kept hk, ⟨m, hn, fun i y v e1 e2 e3 => ?_⟩, fun x c e => ?_, I.hok.fresh (Nat.le_refl _), fun x c e => I.freeC x c (caps_cells e), (fun p hp => by cases hp), I.hok.kept hk, ?_⟩
  · have hi : own.length ≤ i := by
      by_cases hi : i < own.length
      · rw [List.getElem?_append_left (by simpa using hi), List.getElem?_replicate, if_pos hi] at e2
        cases e2
      · omega
    rw [List.getElem?_append_right (by simpa using hi), List.length_replicate] at e2
    unfold capt at e2
    rw [List.getElem?_map] at e2
    have e1' : (own ++ caps.map (·.1))[i]? = some y := e1
    rw [List.getElem?_append_right hi, List.getElem?_map] at e1'
    cases q : caps[i - own.length]? with
    | none => rw [q] at e2; cases e2
    | some p =>
      rw [q] at e1' e2
      have ey : p.1 = y := Option.some.inj e1'
      have ev : (σ[p.2]?).join = some v := Option.some.inj e2
      have eσ : σ[p.2]? = some (some v) := by
        cases z : σ[p.2]? with
        | none => rw [z] at ev; cases ev
        | some w' => rw [z] at ev; rw [show w' = some v from ev]
      obtain ⟨hN, hkind, hfree⟩ := S.caps p (List.mem_of_getElem? q)
      rw [ey] at hN hkind hfree
      obtain ⟨mX, hnX, hlX⟩ := I.loc
      obtain ⟨u, ru, lk⟩ := hlX p.2 y v hN eσ (.inr (.inl hkind))
      refine ⟨u, ru, ?_⟩
      rcases lk with ⟨k1, _⟩ | ⟨_, c, hc, hcell⟩
      · rw [hkind] at k1; cases k1
      · have hm := relabel_free S.nocell (relabel_of_free (env := X.env) hfree)
        obtain ⟨c', hc'⟩ := Option.isSome_iff_exists.mp (capsOf_has (acc := []) hm (by rw [hc]; rfl))
        have := caps_cells hc'
        rw [hc] at this; cases this
        obtain ⟨o, ho, hd⟩ := hcell
        exact .inr ⟨relabel_of_free (env := X.env) hfree, c, hc', ⟨o, hk _ _ ho, hd⟩⟩
  · obtain ⟨v, o, ho, hd⟩ := I.cell x c (caps_cells e)
    exact ⟨v, o, hk _ _ ho, hd⟩
  · show _ = (own ++ caps.map (·.1)).length
    simp [capt]
theorem comp_back {N : List Str} {τ : St} {H' : Hp} {s' : Shared} (I : Inv X pins σ H s) (J : Inv (cxComp X scope N fp s H) [] τ H' s') (hf : ∀ b ∈ fp, FpOk X pins H b) : Inv X pins σ H' s' :=
  I.call' (ch := fp) J.os J.base J.hok J.bare fun b hb => by
    obtain ⟨_, f1, _, f3, f4, f5⟩ := hf b hb
    exact ⟨f3, f1, f4, f5⟩
theorem comp_go {prog : Program} {w : World} {A : Around} {R : Result → Shared → Prop} {elt target iter : Expr} {pos : Pos} {it acc : Value} {env : Env} (Iv : Nat → Shared → Prop)
    (turn : ∀ n s, Iv n s → wpAny (model prog w) A (pyNext it) (fun r s₁ => match r with
      | none => R (.ok .next) s₁
      | some v => wpAny (model prog w) A (letOwnedTupleGo target it v) (fun _ s₂ => wpAny (model prog w) A (assign target env v) (fun _ s₃ => wpAny (model prog w) A (eval elt env) (fun x s₄ =>
              wpAny (model prog w) A (call (.builtin "list.append") [acc, x]) (fun _ s₅ => ∃ m, m < n ∧ Iv m s₅) (fun _ _ => False) s₄) (fun _ _ => False) s₃) (fun _ _ => False) s₂) (fun _ _ => False) s₁) (fun _ _ => False) s)
    (n : Nat) (h : Iv n s) : codeAny (model prog w) A (.compLoop (.ListComp elt [⟨target, iter, [], 0⟩] scope pos) 0 it acc env) R s := by
  refine codeAny_loop rfl Iv (fun n s hI => ?_) n h
  show wpAny _ A ((compTurn (.ListComp elt [⟨target, iter, [], 0⟩] scope pos) 0 it acc env).onRaise (fun x => do noteFrame x env; theTreesLotGoes x)) _ _ s
  refine wpAny_noted ?_
  rw [compTurn_list]
  refine wpAny_bind (wpAny_standAt (wpAny_bind (wpAny_mono (turn n s hI) (fun r s₁ h₁ => ?_) fun _ _ z => z.elim)))
  cases r with
  | none => exact wpAny_pure h₁
  | some v =>
    refine wpAny_bind (wpAny_mono h₁ (fun _ s₂ h₂ => wpAny_bind (wpAny_mono h₂ (fun _ s₃ h₃ => wpAny_bind (wpAny_tests_nil ?_)) fun _ _ z => z.elim)) fun _ _ z => z.elim)
    exact wpAny_bind (wpAny_bind (wpAny_mono h₃ (fun x s₄ h₄ => wpAny_bind (wpAny_mono h₄ (fun _ s₅ h₅ => wpAny_pure (wpAny_pure ⟨rfl, h₅⟩)) fun _ _ z => z.elim)) fun _ _ z => z.elim))

noncomputable def CompBody (J : It) (g : TG) (te : TE) (τ0 : St) (H1 : Hp) (Q : VK) : Prop := ∀ D, H1 D = none → ∃ W : Nat → Nat → St → List V → Hp → Prop,
  (∃ m, W 0 m τ0 [] (upd H1 D (.lst []))) ∧
  ∀ i m τ ys H, W i m τ ys H → H D = some (.lst ys) ∧ ((J.stop i H ∧ Q (.ref D) H) ∨ (J.go i H ∧ ys.length < sizeLine ∧ ∀ x H', J.yld i H x H' → g x τ H' fun τ2 H2 => te τ2 H2 fun y H3 =>
    H3 D = some (.lst ys) ∧ ∃ m', m' < m ∧ W (i + 1) m' τ2 (ys ++ [y]) (upd H3 D (.lst (ys ++ [y])))))
noncomputable def tComp (wi : TI) (g : TG) (te : TE) (k : Nat) (caps : List (Str × Nat)) : TE := fun σ H Q => wi σ H fun J H1 => CompBody J g te (List.replicate k none ++ capt σ caps) H1 Q

theorem comp_core {tg elt iter : Expr} {wi : TI} {g : TG} {te : TE} {pos p2 : Pos} {use : Option (Value → Sem Unit)} {Q : VK} {Q' : Value → Shared → Prop} (S : CompScope X scope own caps) (hi : PI X tg iter wi) (hc : X.calm = true)
    (hg : ∀ fp s H, PG (cxComp X scope (own ++ caps.map (·.1)) fp s H) tg g) (he : ∀ fp s H, PE (cxComp X scope (own ++ caps.map (·.1)) fp s H) elt te)
    (I : Inv X pins σ H s) (h : tComp wi g te own.length caps σ H Q)
    (fin : ∀ D C H5 s5, Inv X pins σ H5 s5 → Q (.ref D) H5 → (∃ m, s5.heap.Ns C m) → H5 C = none → C ≠ X.env.locals → X.s₀.heap.objs.size ≤ C → (∀ x c, X.env.cells.lookup x = some c → c ≠ C) → (∀ p ∈ X.pn ++ pins, p.1 ≠ C) →
      compPost (model X.prog X.w) X.A X.xe use Q' (.ref D) C (.ok .next) s5)
    (hs : ∀ x, foldedSetIterable iter X.env x = pure x := by intro _; rfl) :
    wpAny (model X.prog X.w) X.A (comprehension (.ListComp elt [⟨tg, iter, [], 0⟩] scope pos) scope X.env p2 (newList []) false (eval iter X.env) use) Q' X.xe s := by
  have hclos : closureFor scope X.env = pure (capsOf X.env.cells scope.names []) := closure_caps fun y hy hk => I.ok.has y.1 (.inl (S.frees y hy hk))
  refine wpAny_comprehension_free (g := ⟨tg, iter, [], 0⟩) (gs := []) rfl hs hclos S.kind S.locs (thn (hi pins s σ H _ I h) fun v s1 h1 => thn h1 fun itv s2 h2 => ?_)
  obtain ⟨it, fp, tn, J, H2, e, I2, T, st2, f2, R⟩ := h2
  subst e
  refine wpAny_newObj_type (wpAny_newFunctionEnv S.nocell (by intro y hy; simp at hy) (fun h₁ hns₁ hsb₁ => ?_) S.kind)
  have fr2 : H2 s2.heap.objs.size = none := I2.hok.fresh (Nat.le_refl _)
  obtain ⟨W, ⟨m0, w0⟩, turn⟩ := R s2.heap.objs.size fr2
  have I3 : Inv X pins σ (upd H2 s2.heap.objs.size (.lst [])) { s2 with heap := s2.heap.push { cls := .type "list", dict := none, data := .seq ([] : List Value).toArray } } := I2.lnew (its := []) (t' := s2.toks) .nil (Nat.zero_le _)
  have lt2 : ∀ b ∈ fp, b < s2.heap.objs.size := fun b hb => by
    obtain ⟨o, ho, _⟩ := T.obj _ _ st2 b hb
    exact Heap.lt_size ho
  have f3 : ∀ b ∈ fp, FpOk X pins (upd H2 s2.heap.objs.size (.lst [])) b := fun b hb => ⟨by rw [upd_ne (Nat.ne_of_lt (lt2 b hb))]; exact (f2 b hb).1, (f2 b hb).2⟩
  generalize hs3 : ({ s2 with heap := s2.heap.push { cls := .type "list", dict := none, data := .seq ([] : List Value).toArray } } : Shared) = s3 at I3
  have hz3 : s3.heap.objs.size = s2.heap.objs.size + 1 := by rw [← hs3]; exact Heap.size_push _ _
  have kp23 : ∀ b o, s2.heap.get? b = some o → s3.heap.get? b = some o := fun b o e => by rw [← hs3]; exact Heap.get?_push_of_some _ e
  have lt3 : ∀ b ∈ fp, b < s3.heap.objs.size := fun b hb => by rw [hz3]; exact Nat.lt_succ_of_lt (lt2 b hb)
  have hns₁' : h₁.Ns s3.heap.objs.size (fun x => ([] : List (Str × Value)).reverse.lookup x) := by rw [← hs3]; exact hns₁
  have kp31 : ∀ b o, s3.heap.get? b = some o → h₁.get? b = some o := fun b o e => by
    have hb : b ≠ s3.heap.objs.size := Nat.ne_of_lt (Heap.lt_size e)
    rw [← hs3] at e hb
    exact hsb₁.extBut b o hb (Heap.get?_push_of_some _ e)
  have J1 := comp_start S I3 f3 lt3 (t := s2.toks + ([] : List (Str × Value)).length) hns₁' kp31
  have st1 : tn 0 h₁ := T.keep _ _ _ st2 fun b hb o e => kp31 b o (kp23 b o e)
  -- the loop
  have loop : ∀ s₃ : Shared, s₃ = { s3 with heap := h₁, toks := s2.toks + ([] : List (Str × Value)).length } →
      codeAny (model X.prog X.w) X.A (.compLoop (.ListComp elt [⟨tg, iter, [], 0⟩] scope pos) 0 (.ref it) (.ref s2.heap.objs.size) (cxComp X scope (own ++ caps.map (·.1)) fp s3 (upd H2 s2.heap.objs.size (.lst []))).env)
        (compPost (model X.prog X.w) X.A X.xe use Q' (.ref s2.heap.objs.size) s3.heap.objs.size) s₃ := by
    rintro s₃ rfl
    refine comp_go (fun n s' => ∃ i τ ys H', Inv (cxComp X scope (own ++ caps.map (·.1)) fp s3 (upd H2 s2.heap.objs.size (.lst []))) [] τ H' s' ∧ tn i s'.heap ∧ (∀ b ∈ fp, H' b = none) ∧ W i n τ ys H') ?_ m0
      ⟨0, _, [], _, J1, st1, fun b hb => (f3 b hb).1, w0⟩
    rintro n s' ⟨i, τ, ys, H', J', st', fr', w'⟩
    have fY : ∀ {H'' : Hp}, (∀ b ∈ fp, H'' b = none) → ∀ b ∈ fp, FpOk (cxComp X scope (own ++ caps.map (·.1)) fp s3 (upd H2 s2.heap.objs.size (.lst []))) [] H'' b := fun hn b hb =>
      ⟨hn b hb, Nat.ne_of_lt (lt3 b hb), fun z => by
          rcases List.mem_cons.mp (I3.stkSub b z) with e | e
          · exact (f3 b hb).2.1 e
          · exact (f3 b hb).2.2.1 e, .inl hb, fun x c e => (f3 b hb).2.2.2.2.1 x c (caps_cells e), (fun p hp => by cases hp)⟩
    obtain ⟨hD, tt⟩ := turn i n τ ys H' w'
    rcases tt with ⟨stop, qn⟩ | ⟨go, hlen, step⟩
    · refine thn (T.done (cxComp X scope (own ++ caps.map (·.1)) fp s3 (upd H2 s2.heap.objs.size (.lst []))) rfl rfl rfl hc i [] s' τ H' (fun _ _ => False) J' (fY fr') st' stop) fun r s4 ⟨hr, J4⟩ => ?_
      subst hr
      obtain ⟨m4, hn4, _⟩ := J4.loc
      have I5 := comp_back I3 J4 f3
      refine fin _ _ _ s4 I5 qn ⟨m4, hn4⟩ J4.free ?_ ?_ (fun x c e z => ?_) fun p hp z => ?_
      · exact Nat.ne_of_gt I3.lt
      · exact I3.sz
      · obtain ⟨v, q⟩ := I3.cell x c e
        rw [z] at q
        exact absurd q.lt (Nat.lt_irrefl _)
      · have q := (I3.pin p hp).1
        rw [z] at q
        exact absurd (Heap.lt_size q) (Nat.lt_irrefl _)
    · refine thn (T.item (cxComp X scope (own ++ caps.map (·.1)) fp s3 (upd H2 s2.heap.objs.size (.lst []))) rfl rfl rfl hc i [] s' τ H' (fun _ _ => False) J' (fY fr') st' go) fun r s4 ⟨u, hr, h4⟩ => ?_
      subst hr
      refine thn h4 fun _ s5 ⟨x, H5, J5, r5, y5, st5, fr5⟩ => ?_
      have J5' := J5.pinned (fY fr5) (T.obj _ _ st5)
      refine thn (hg fp s3 _ _ s5 τ H5 x u _ J5' r5 (step x H5 y5)) fun _ s6 ⟨τ6, H6, J6, q6⟩ => ?_
      refine thn (he fp s3 _ _ s6 τ6 H6 _ J6 q6) fun yv s7 ⟨y, H7, J7, r7, hD7, m', hm', w7⟩ => ?_
      refine thn (mt_append (X := cxComp X scope (own ++ caps.map (·.1)) fp s3 (upd H2 s2.heap.objs.size (.lst []))) _ s7 τ6 H7 (.ref s2.heap.objs.size) [y] _ [yv] (fun _ H8 => H8 = upd H7 s2.heap.objs.size (.lst (ys ++ [y]))) J7 rfl (.cons r7 .nil) ⟨_, ys, y, rfl, rfl, hD7, hlen, rfl⟩) fun _ s8 ⟨_, H8, J8, _, e8⟩ => ?_
      subst e8
      refine ⟨m', hm', i + 1, τ6, ys ++ [y], _, J8.unpinned, T.keep _ _ _ st5 fun b hb o e => (J8.pin (b, o) (List.mem_append_right _ (List.mem_append_right _ (mem_pinsAt hb e)))).1, fun b hb => ?_, w7⟩
      obtain ⟨o, e, d⟩ := T.obj _ _ st5 b hb
      exact (J8.pin (b, o) (List.mem_append_right _ (List.mem_append_right _ (mem_pinsAt hb e)))).2.1
  have hloop := loop _ rfl
  subst hs3
  exact codeAny_compStart_list hloop (T.self _ 0 _ _ _ st1 hloop)
theorem pe_comp {tg elt iter : Expr} {wi : TI} {g : TG} {te : TE} {pos : Pos} (S : CompScope X scope own caps) (hi : PI X tg iter wi) (hc : X.calm = true)
    (hg : ∀ fp s H, PG (cxComp X scope (own ++ caps.map (·.1)) fp s H) tg g) (he : ∀ fp s H, PE (cxComp X scope (own ++ caps.map (·.1)) fp s H) elt te)
    (hs : ∀ x, foldedSetIterable iter X.env x = pure x := by intro _; rfl) : PE X (.ListComp elt [⟨tg, iter, [], 0⟩] scope pos) (tComp wi g te own.length caps) := by
  intro pins s σ H Q I h
  rw [eval_ListComp]
  refine comp_core (use := none) (Q := Q) S hi hc hg he I h (fun D C H5 s5 I5 q ⟨m, hn⟩ hC hL hz hcell hpin => ?_) hs
  refine ⟨m, hn, fun h' hs' => ?_⟩
  exact ⟨.ref D, H5, I5.turned (t' := s5.toks) (fun b o hb e => (hs'.2 b hb).trans e) hC hL (.inr hz) hcell hpin, rfl, q⟩
theorem ps_setComp {i : Nat} {y : Str} {tg elt iter : Expr} {wi : TI} {g : TG} {te : TE} {pos spos py : Pos} (hN : X.N.Nodup) (hiN : X.N[i]? = some y) (hy : X.env.scope.names.lookup y = some .local) (S : CompScope X scope own caps) (hi : PI X tg iter wi) (hc : X.calm = true)
    (hg : ∀ fp s H, PG (cxComp X scope (own ++ caps.map (·.1)) fp s H) tg g) (he : ∀ fp s H, PE (cxComp X scope (own ++ caps.map (·.1)) fp s H) elt te)
    (hsw : swapsWith (.ListComp elt [⟨tg, iter, [], 0⟩] scope pos) (some (.Name y py)) spos.line X.env = pure true)
    (hs : ∀ x, foldedSetIterable iter X.env x = pure x := by intro _; rfl) : PS X (.Assign [.Name y py] (.ListComp elt [⟨tg, iter, [], 0⟩] scope pos) spos) (tAsg (tComp wi g te own.length caps) (gName i)) := by
  intro pins s σ H D I h
  rw [exec_Assign_Name_used _ _ _ _ hsw]
  refine wpAny_bind (wpAny_standAt (wpAny_bind ?_))
  show wpAny _ X.A (do let _ ← comprehension (.ListComp elt [⟨tg, iter, [], 0⟩] scope pos) scope X.env _ (newList []) false (eval iter X.env) (some (assign (.Name y py) X.env))) _ _ s
  refine wpAny_bind (wpAny_mono (comp_core (use := some (assign (.Name y py) X.env)) (Q := fun x H1 => D.nx (σ.set i (some x)) H1) (Q' := fun _ s' => SP X pins D .next s') S hi hc hg he I h (fun A C H5 s5 I5 q ⟨m, hn⟩ hC hL hz hcell hpin => ?_) hs)
    (fun _ s' hq => wpAny_pure (wpAny_pure hq)) fun _ _ e => e)
  show wpAny _ X.A (assign (.Name y py) X.env (.ref A)) _ _ _
  refine wpAny_assign_Name (store_ok2 I5 hN hiN (.inl hy) (v := .ref A) rfl (fun s6 I6 ⟨a, hsb, ha⟩ => ?_) (.inr hy))
  have haC : C ≠ a := by
    rcases ha with ha | ha
    · rw [ha]; exact hL
    · exact fun z => hcell y a ha z.symm
  refine ⟨m, hn.sameBut hsb haC, fun h' hs' => ?_⟩
  exact ⟨_, H5, I6.turned (t' := s6.toks) (fun b o hb e => (hs'.2 b hb).trans e) hC hL (.inr hz) hcell hpin, q⟩
end
end L2
namespace L2
open PySem PySem.Spec PyProof.Rows

structure Has (P : Program) (w : World) (K : PySem.W.Frag) (mg : Str → Option Value) (base : Heap) (k : Nat) (x : Str) (ps : List Str) (sp : Sp) : Prop where
  ex : ∃ f fd, FnOk P w K mg base CX0 k f fd ps sp ∧ mg x = some (.ref f) ∧ PySem.W.keepIn K (.ref f) = true ∧ Binds K fd ps []
section
variable {X : Cx} {k k' : Nat} {x : Str} {ps : List Str} {sp : Sp} {p pos : Pos} {e : Expr} {es : List Expr} {t : TA}
theorem pe_callH (h : Has X.prog X.w X.K X.mg X.base k x ps sp) (hr : Room k' X.A) (hk : k ≤ k') (hg : Gl X x) (ha : PA X (e :: es) t) (hdb : (x == ("__debug__" : Str)) = false := by decide)
    (he : starEach (e :: es) X.env = (false, eval e X.env) :: starEach es X.env := by rfl) (hpl : (backTo pos (starEach es X.env)).any (·.1) = false := by rfl) :
    PE X (.Call (.Name x p) (e :: es) [] pos) (tCall sp [] E0 t) := by
  obtain ⟨f, fd, F, hm, hkp, hb⟩ := h.ex
  exact pe_call F (hr.mono hk) hg hm hkp hb .nil pass0 ha hdb he hpl
end
structure Def (K : PySem.W.Frag) (mg : Str → Option Value) (x : Str) (st : Stmt) (ps : List Str) : Prop where
  ex : ∃ f fd, Fun K x x st f fd ∧ mg x = some (.ref f) ∧ Binds K fd ps []
theorem Def.has {P : Program} {w : World} {K : PySem.W.Frag} {mg : Str → Option Value} {base : Heap} {x : Str} {st : Stmt} {N ps : List Str} {k : Nat} {sp : Sp} (D : Def K mg x st ps) (S : FnScope N ps (defScope st)) (len : ∀ vs H Q E, sp vs H Q E → vs.length = ps.length)
    (hbody : ∀ (f : Addr) (cdv : Value) (A : Around) (outer : List Env) (s : Shared) (H : Hp) (vs : List V) (Q : VK) (E : XK), Room k (A.deeper (envOfC x (defScope st) s.heap.objs.size f cdv)) → sp vs H Q E →
      ∃ t, PSs (cxOf CX0 P w K mg base N x (defScope st) f cdv A outer s H E).nox (defBody st) t ∧ t { nx := fun _ H' => Q .non H', rt := Q } (start N vs) H) : Has P w K mg base (k + 1) x ps sp := by
  obtain ⟨f, fd, F, hm, hb⟩ := D.ex
  exact ⟨f, fd, F.ok S len (hbody f), hm, F.kp, hb⟩

theorem same_new {H : Hp} {p : Addr} (h : H p = none) (o : HO) : Same H (upd H p o) := fun b u q => by rw [upd_ne (ne_of_none q h)]; exact q
theorem Same.tup {K : PySem.W.Frag} {H H' : Hp} {a : Addr} {xs : List V} (e : Same H H') (h : SqT K H a xs) : SqT K H' a xs := by
  rcases h with (h | ⟨o, h⟩) | h
  · exact .inl (.inl (e _ _ h))
  · exact .inl (.inr ⟨o, e _ _ h⟩)
  · exact .inr h
theorem Same.put {H0 H : Hp} {p : Addr} {o : HO} (e : Same H0 H) (h : H0 p = none) : Same H0 (upd H p o) := fun b u q => by rw [upd_ne (ne_of_none q h)]; exact e b u q

theorem comp_list {K : PySem.W.Frag} {a : Addr} {xs : List V} {te : TE} {σ : St} {caps : List (Str × Nat)} {H : Hp} {Q : VK} (f : V → V) (hS : SqL K H a xs) (hz : xs.length ≤ 1000)
    (hel : ∀ x ∈ xs, ∀ H', Same H H' → ∀ Q' : VK, Q' (f x) H' → te (some x :: capt σ caps) H' Q') (hq : ∀ D, H D = none → Q (.ref D) (upd H D (.lst (xs.map f)))) :
    CompBody (Itl K a) (gName 0) te (List.replicate 1 none ++ capt σ caps) H Q := by
  intro D hD
  refine ⟨fun i m τ ys H' => m = xs.length - i ∧ i ≤ xs.length ∧ (∃ o, τ = o :: capt σ caps) ∧ ys = (xs.take i).map f ∧ H' = upd H D (.lst ys), ⟨xs.length, by simp, Nat.zero_le _, ⟨none, rfl⟩, by simp, rfl⟩, ?_⟩
  rintro i m τ ys H' ⟨rfl, hi, ⟨o, rfl⟩, rfl, rfl⟩
  have sm : Same H (upd H D (.lst ((xs.take i).map f))) := same_new hD _
  refine ⟨upd_same, ?_⟩
  by_cases hlt : i < xs.length
  · refine .inr ⟨⟨xs, xs[i], sm.seq hS, by simp [hlt]⟩, ?_, fun x H'' y => ?_⟩
    · rw [List.length_map, List.length_take]
      exact small1000 (by omega)
    obtain ⟨e, y⟩ := y
    subst e
    have hx := y xs (sm.seq hS)
    show te (some x :: capt σ caps) _ _
    refine hel x (List.mem_of_getElem? hx) _ sm _ ?_
    refine ⟨upd_same, xs.length - (i + 1), by omega, rfl, hlt, ⟨_, rfl⟩, ?_, ?_⟩
    · rw [List.take_add_one, hx, List.map_append]; rfl
    · rw [upd_upd]
  · have e : i = xs.length := by omega
    subst e
    refine .inl ⟨⟨xs, sm.seq hS, Nat.le_refl _⟩, ?_⟩
    rw [List.take_length]
    exact hq D hD
noncomputable def checkComp (xsc : Scope) (xN : List Str) (scope : Scope) (own : List Str) (caps : List (Str × Nat)) : Bool :=
  scope.names.all (fun y => y.2 != .cell) && scope.names.all (fun y => y.2 != .local || scope.names.lookup y.1 == some .local) && scope.names.all (fun y => y.2 != .free || xsc.names.lookup y.1 == some .cell)
    && own.all (fun x => scope.names.lookup x == some .local) && caps.all (fun p => xN[p.2]? == some p.1 && xsc.names.lookup p.1 == some .cell && scope.names.lookup p.1 == some .free)
theorem comp_scope {X : Cx} {scope : Scope} {own : List Str} {caps : List (Str × Nat)} (xsc : Scope) (xN : List Str) (hx : X.env.scope = xsc) (hN : X.N = xN) (hk : scope.kind = .function) (c : checkComp xsc xN scope own caps = true) : CompScope X scope own caps := by
  unfold checkComp at c
  simp only [Bool.and_eq_true, List.all_eq_true, Bool.or_eq_true, bne_iff_ne, beq_iff_eq, ne_eq] at c
  obtain ⟨⟨⟨⟨c1, c2⟩, c3⟩, c4⟩, c5⟩ := c
  refine ⟨hk, c1, fun y hy e => ?_, fun y hy e => ?_, c4, fun p hp => ?_⟩
  · rcases c2 y hy with z | z
    · exact absurd e z
    · exact z
  · rcases c3 y hy with z | z
    · exact absurd e z
    · show X.env.scope.names.lookup y.1 = _
      rw [hx]; exact z
  · obtain ⟨⟨z1, z2⟩, z3⟩ := c5 p hp
    refine ⟨by rw [hN]; exact z1, ?_, z3⟩
    show X.env.scope.names.lookup p.1 = _
    rw [hx]; exact z2
structure Blt (mg : Str → Option Value) : Prop where
  len_ : mg "len" = none
  min_ : mg "min" = none
  max_ : mg "max" = none
  sum_ : mg "sum" = none
  range_ : mg "range" = none
  enumerate_ : mg "enumerate" = none
  isinstance_ : mg "isinstance" = none
  tuple_ : mg "tuple" = none
  int_ : mg "int" = none
  bool_ : mg "bool" = none
  str_ : mg "str" = none
  list_ : mg "list" = none
theorem boot_min_ : bootBuiltins "min" = some (.builtin "min") := by decide +kernel
theorem boot_max_ : bootBuiltins "max" = some (.builtin "max") := by decide +kernel
theorem boot_sum_ : bootBuiltins "sum" = some (.builtin "sum") := by decide +kernel
theorem boot_isinstance_ : bootBuiltins "isinstance" = some (.builtin "isinstance") := by decide +kernel
theorem boot_tuple_ : bootBuiltins "tuple" = some (.type "tuple") := by decide +kernel
theorem boot_int_ : bootBuiltins "int" = some (.type "int") := by decide +kernel
theorem boot_list_ : bootBuiltins "list" = some (.type "list") := by decide +kernel
theorem pos' {j : Int} (h : decide (0 < j) = true := by decide) : 0 < j := of_decide_eq_true h
theorem div' {i j : Int} (h : (decide (0 < j) && decide (j < 1073741824)) = true := by decide) : CDiv i j :=
  ⟨of_decide_eq_true (Bool.and_eq_true_iff.mp h).1, of_decide_eq_true (Bool.and_eq_true_iff.mp h).2⟩
theorem iteD {c A B : Prop} [Decidable c] (h1 : c → A) (h2 : ¬ c → B) : if decide c = true then A else B := by
  by_cases h : c
  · rw [decide_eq_true h]; exact iteT (h1 h)
  · rw [decide_eq_false h]; exact iteF (h2 h)
theorem iteDN {c A B : Prop} [Decidable c] (h1 : ¬ c → A) (h2 : c → B) : if (!decide c) = true then A else B := by
  by_cases h : c
  · rw [decide_eq_true h]; exact iteF (h2 h)
  · rw [decide_eq_false h]; exact iteT (h1 h)
end L2
namespace L2
open PySem PySem.Spec PyProof.Rows

section
variable {P : Program} {w : World} {H H' : Hp} {h h' : Heap} {a : Addr} {o : HO}
theorem ObjOk.there (x : ObjOk P w H h a o) : ∃ ob, h.get? a = some ob := by
  cases o with
  | lst xs => obtain ⟨_, _, _, _, e⟩ := x; exact ⟨_, e⟩
  | tup xs => obtain ⟨_, _, _, _, e, _⟩ := x; exact ⟨_, e⟩
  | dK kvs => obtain ⟨_, _, _, _, o, _, _, e, _⟩ := x; exact ⟨_, e⟩
  | dT kvs => obtain ⟨_, _, _, _, o, _, _, e, _⟩ := x; exact ⟨_, e⟩
  | set S n => obtain ⟨o, _, _, _, e, _⟩ := x; exact ⟨_, e⟩
  | ins C dx fs => obtain ⟨_, _, _, e, _⟩ := x; exact ⟨_, e⟩
  | own y => exact x
  | xd fs => obtain ⟨_, ⟨_, _, _, e, _⟩, _⟩ := x; exact ⟨_, e⟩
  | rng lo hi => obtain ⟨_, _, _, e⟩ := x; exact ⟨_, e⟩
  | frz ob u => obtain ⟨e, _⟩ := x; exact ⟨_, e⟩
  | tbl ps => exact ⟨_, (show h.get? a = some _ from x)⟩
  | met f y => exact ⟨_, (show h.get? a = some _ from x)⟩
  | ext φ => obtain ⟨_, e, _⟩ := x; exact e
theorem HOk.notThere (x : HOk P w H h) (e : h.get? a = none) : H a = none := by
  cases q : H a with
  | none => rfl
  | some u => obtain ⟨ob, z⟩ := (x a u q).there; rw [e] at z; cases z
theorem HOk.part (x : HOk P w H h) (k : ∀ b u v, H b = some u → h.get? b = some v → h'.get? b = some v) : HOk P w H h' := fun a o e =>
  (x a o e).stay (fun b u hb q => by
    rcases hb with z | z
    · subst z; exact k _ _ _ e q
    · exact k _ _ _ z q) (fun _ q => q) fun _ _ q => q
end
theorem Un.fly {fs : List Addr} {L : Addr} {H₀ H H' : Hp} {h0 h h1 h2 B : Heap} (U1 : Un fs [] H₀ H h0 h) (U2 : Un (L :: fs) [] H H' h h1) (hL : h0.get? L = none)
    (cov : ∀ b o, h.get? b = some o → b ∉ L :: fs → ∃ o', B.get? b = some o') (k1 : ∀ b o, B.get? b = some o → h1.get? b = some o) (k2 : ∀ b o, B.get? b = some o → h2.get? b = some o)
    (sl : h1.UpToSlots h2) (nf : ∀ b ∈ fs, ∃ o, h1.get? b = some o ∧ ∀ vs, o.data ≠ .fields vs) : Un fs [] H₀ H' h0 h2 := by
  have nL : ∀ b o, h0.get? b = some o → b ∉ fs → b ∉ L :: fs := fun b o q hb z => by
    rcases List.mem_cons.mp z with z | z
    · rw [z, hL] at q; cases q
    · exact hb z
  refine ⟨fun b o q n hb hx => ?_, fun b o q n hb hx => ?_, fun b o q n hx => ?_, fun b o q hx => ?_, fun b xs q => U2.tups _ _ (U1.tups _ _ q), fun b o u q => U2.frzs _ _ _ (U1.frzs _ _ _ q), fun b ps q => ?_⟩
  · have q1 := U1.keep b o q n hb hx
    have q2 := U2.keep b o q1 (U1.free b o q n hx) (nL b o q hb) hx
    obtain ⟨o', e⟩ := cov b o q1 (nL b o q hb)
    have e1 := k1 _ _ e
    rw [q2] at e1
    cases e1
    exact k2 _ _ e
  · obtain ⟨s1, q1⟩ := U1.slot b o q n hb hx
    obtain ⟨s2, q2⟩ := U2.slot b _ q1 (U1.free b o q n hx) (List.mem_cons_of_mem _ hb) hx
    obtain ⟨ob, q3, d⟩ := nf b hb
    rw [q2] at q3
    cases q3
    obtain ⟨s4, q4⟩ := sl b _ q2 d
    exact ⟨s4, q4⟩
  · obtain ⟨o1, q1⟩ := U1.there b o q hx
    exact U2.free b o1 q1 (U1.free b o q n hx) hx
  · by_cases hb : b ∈ fs
    · obtain ⟨ob, q3, d⟩ := nf b hb
      obtain ⟨s4, q4⟩ := sl b _ q3 d
      exact ⟨_, q4⟩
    · obtain ⟨o1, q1⟩ := U1.there b o q hx
      obtain ⟨o', e⟩ := cov b o1 q1 (nL b o q hb)
      exact ⟨_, k2 _ _ e⟩
  · obtain ⟨m1, e1⟩ := U1.tbls b ps q
    obtain ⟨m2, e2⟩ := U2.tbls b _ e1
    exact ⟨m1 ++ m2, by rw [e2, Array.append_assoc]⟩

noncomputable def CXE (P : Program) (w : World) : CXT := fun outer H s E e s' => ∃ (ea C : Addr) (a0 : Value) (B : Heap) (H' : Hp), e = .ref ea ∧ Heap.FlyingW B outer ea (.ref C) a0 s'.heap ∧ s'.os = s.os ∧ AllBare s'.gens ∧
  HOk P w H' B ∧ Un (frs outer) [] H H' s.heap s'.heap ∧ (∀ b o, s.heap.get? b = some o → b ∉ frs outer → ∃ o', B.get? b = some o') ∧ E (.ref C) none H'

section
variable {P : Program} {w : World} {K : PySem.W.Frag} {mg : Str → Option Value} {base : Heap} {N : List Str} {qual : Str} {scope : Scope} {f : Addr} {cdv : Value} {A : Around} {outer : List Env} {s0 s : Shared} {H0 H : Hp} {E E' : XK}
  {pins : List (Addr × Obj)} {σ : St} {CX : CXT}
theorem stack_frs {e : Env} {L : Addr} {l : List Env} (h : e.frame = some L) : frs (e :: l) = L :: frs l := by
  unfold frs
  rw [List.filterMap_cons, h]
theorem flies {h' : Heap} {e C : Addr} {args : List Value} (I : Inv (cxOf (CXE P w) P w K mg base N qual scope f cdv A outer s0 H0 E) pins σ H s) (hx : Heap.MadeExcOf s.heap h' e (.ref C) args) (q : E (.ref C) none H) :
    (cxOf (CXE P w) P w K mg base N qual scope f cdv A outer s0 H0 E).xe (.ref e) { s with heap := h' } := by
  have fr : s.heap.FunFrames base (envOfC qual scope s0.heap.objs.size f cdv :: outer) := I.stack
  have sf : ∀ b ∈ frs (envOfC qual scope s0.heap.objs.size f cdv :: outer), H b = none := I.stkFree
  have hin : ∀ env ∈ (envOfC qual scope s0.heap.objs.size f cdv :: outer), ∀ b, env.frame = some b → b ∈ frs (envOfC qual scope s0.heap.objs.size f cdv :: outer) := fun env he b hb => List.mem_filterMap.mpr ⟨env, he, hb⟩
  have es : frs (envOfC qual scope s0.heap.objs.size f cdv :: outer) = s0.heap.objs.size :: frs outer := stack_frs rfl
  show wpAny _ _ (leaving _ _) _ _ _
  refine wpAny_leaves_madeW (base := PySem.W.hideAll s.heap (frs (envOfC qual scope s0.heap.objs.size f cdv :: outer))) (h := s.heap) I.ok.frames rfl (fun b o z => PySem.W.of_hideAll _ z) (PySem.W.funFrames_hide fr hin) hx ?_
  intro h'' t x1 x2 x3 x4
  have cov : ∀ b o, s.heap.get? b = some o → b ∉ s0.heap.objs.size :: frs outer → (PySem.W.hideAll s.heap (frs (envOfC qual scope s0.heap.objs.size f cdv :: outer))).get? b = some o := fun b o z hb => PySem.W.hideAll_get _ z (by rw [es]; exact hb)
  have Ib : Un (frs outer) [] H0 H s0.heap s.heap := I.base
  refine ⟨e, C, .ref t, _, H, rfl, x1, I.os, I.bare, HOk.part I.hok fun b u v z1 z2 => PySem.W.hideAll_get _ z2 fun hm => ?_, ?_, ?_, q⟩
  · rw [sf b hm] at z1; cases z1
  · refine Un.fly (h := s.heap) (h1 := h') (L := s0.heap.objs.size) Ib (Un.kept hx.keeps) (Heap.get?_none_of_le (Nat.le_refl _)) (fun b o z hb => ⟨o, cov b o z hb⟩) (fun b o z => hx.keeps _ _ (PySem.W.of_hideAll _ z)) x1.1 x4 fun b hb => ?_
    obtain ⟨_, o, z, d⟩ := fr.mem (b := b) (by show b ∈ frs _; rw [es]; exact List.mem_cons_of_mem _ hb)
    exact ⟨o, hx.keeps _ _ z, d⟩
  · intro b o z hb
    obtain ⟨o1, z1⟩ := Ib.there b o z (by simp)
    refine ⟨o1, cov b o1 z1 fun hm => ?_⟩
    rcases List.mem_cons.mp hm with y | y
    · rw [y, Heap.get?_none_of_le (Nat.le_refl _)] at z; cases z
    · exact hb y
theorem passE (hE : ∀ c H', E' c none H' → E c none H') : Passes (CXE P w) (cxOf (CXE P w) P w K mg base N qual scope f cdv A outer s0 H0 E) E' := by
  intro pins σ H s e s' I h
  obtain ⟨ea, C, a0, B, H', rfl, fl, os, bare, hok, un, cov, q⟩ := h
  have es : frs (envOfC qual scope s0.heap.objs.size f cdv :: outer) = s0.heap.objs.size :: frs outer := stack_frs rfl
  have Ib : Un (frs outer) [] H0 H s0.heap s.heap := I.base
  have un' : Un (s0.heap.objs.size :: frs outer) [] H H' s.heap s'.heap := by rw [← es]; exact un
  have cov' : ∀ b o, s.heap.get? b = some o → b ∉ s0.heap.objs.size :: frs outer → ∃ o', B.get? b = some o' := fun b o z hb => cov b o z (by show b ∉ frs (envOfC qual scope s0.heap.objs.size f cdv :: outer); rw [es]; exact hb)
  show wpAny _ _ (leaving _ _) _ _ _
  refine wpAny_leaves_onW I.ok.frames rfl fl fun h'' x1 x2 => ?_
  refine ⟨ea, C, a0, B, H', rfl, x1, os.trans I.os, bare, hok, ?_, ?_, hE _ _ q⟩
  · refine Un.fly Ib un' (Heap.get?_none_of_le (Nat.le_refl _)) cov' fl.1 x1.1 x2 fun b hb => ?_
    obtain ⟨_, o, z, d⟩ := fl.2.2.1.mem (b := b) (by show b ∈ frs (envOfC qual scope s0.heap.objs.size f cdv :: outer); rw [es]; exact List.mem_cons_of_mem _ hb)
    exact ⟨o, z, d⟩
  · intro b o z hb
    obtain ⟨o1, z1⟩ := Ib.there b o z (by simp)
    refine cov' b o1 z1 fun hm => ?_
    rcases List.mem_cons.mp hm with y | y
    · rw [y, Heap.get?_none_of_le (Nat.le_refl _)] at z; cases z
    · exact hb y
end

structure Exc (K : PySem.W.Frag) (mg : Str → Option Value) (x : Str) (C : Addr) : Prop where
  glob : mg x = some (.ref C)
  here : PySem.W.excIn K C [.type "ValueError", .type "Exception", .type "BaseException", .type "object"] "ValueError.__new__" = true
theorem Exc.own {K : PySem.W.Frag} {mg : Str → Option Value} {x : Str} {C : Addr} {h : Heap} (e : Exc K mg x C) (X : K.In h) : OwnCls x C [.type "ValueError", .type "Exception", .type "BaseException", .type "object"] "ValueError.__new__" mg h := by
  refine ⟨e.glob, ?_⟩
  have q := e.here
  unfold PySem.W.excIn at q
  split at q
  · rename_i dd cd sl ho
    split at q
    · rename_i C' bm k0 k1 k2 k3 n k5 hm hs
      simp only [Bool.and_eq_true, beq_iff_eq, Bool.not_eq_true'] at q
      obtain ⟨⟨⟨⟨⟨rfl, rfl⟩, hdel⟩, ht⟩, hok⟩, hni⟩ := q
      obtain ⟨nm, bs, mro, ns, qn, hd, sn, sub, ab, col, del⟩ := cd
      dsimp only at hm hdel hok hni
      subst hm hdel
      have hsl : sl = #[k0, k1, k2, k3, some (.builtin "ValueError.__new__"), k5] := by
        obtain ⟨l⟩ := sl
        simp only at hs
        rw [hs]
      subst hsl
      exact ⟨bm, ns, nm, qn, bs, hd, sn, sub, ab, col, dd, k0, k1, k2, k3, k5, _, X _ _ ho, .of_isNs (PySem.W.isNs_of_in X hok), PySem.W.nsMap_none_of_in X hok hni, PySem.W.tail_of_in X ht⟩
    · cases q
  · cases q
noncomputable def Flies (X : Cx) (C : Addr) (E : XK) : Prop := ∀ (pins : List (Addr × Obj)) (σ : St) (H : Hp) (s : Shared) (h' : Heap) (e : Addr) (args : List Value), Inv X pins σ H s → Heap.MadeExcOf s.heap h' e (.ref C) args → E (.ref C) none H → X.xe (.ref e) { s with heap := h' }
noncomputable def tRaise (C : Addr) (E : XK) (t : TA) : TS := fun _ σ H => t σ H fun vs H1 => vs.length ≤ sizeLine ∧ E (.ref C) none H1
theorem ps_raise {X : Cx} {x : Str} {C : Addr} {E : XK} {e₀ : Expr} {rest : List Expr} {t : TA} {np cpos pos : Pos} (O : Exc X.K X.mg x C) (hc : X.calm = true) (F : Flies X C E) (ha : PA X (e₀ :: rest) t) (hg : Gl X x)
    (he : starEach (e₀ :: rest) X.env = (false, eval e₀ X.env) :: starEach rest X.env := by rfl) (hplain : (backTo cpos (starEach rest X.env)).any (·.1) = false := by rfl) (hd : (x == ("__debug__" : Str)) = false := by decide) :
    PS X (.Raise (some (.Call (.Name x np) (e₀ :: rest) [] cpos)) none pos) (tRaise C E t) := by
  intro pins s σ H D I h
  obtain ⟨tl, N, nm, q, bs, hdct, sn, sub, ab, col, dd, k0, k1, k2, k3, k5, mN, hC, hN, hni, T⟩ := (O.own I.ok.mod.kin).obj
  refine wpAny_Raise_call_subT (C := C) (nm := nm) (q := q) (N := N) (bs := bs) (bm := tl) (hdct := hdct) (sn := sn) (sub := sub) (ab := ab) (col := col) (dd := dd) (k0 := k0) (k1 := k1) (k2 := k2) (k3 := k3) (k5 := k5)
    PySem.F.excBase_ValueError (mN := mN) (T.hasType PySem.F.excBase_ValueError.hasBase) (I.ok.hd hc) (by rw [he]; show (false || (backTo cpos (starEach rest X.env)).any (·.1)) = false; rw [hplain]; rfl) hni (ld_glob I hg O.glob ⟨rfl, ?_⟩ hd)
  have h₂ := ha cpos pins s σ H _ I h
  rw [he] at h₂ ⊢
  exact Calls.evalArgs_plain (wpAny_mono h₂ (fun vs s₂ ⟨xs, H1, I1, r, hl, hq⟩ => ⟨rfl, by rw [← r.length]; exact hl, I1.bk _ _ hC, hN.keeps I1.bk, T.keeps I1.bk, fun h' e hm => F pins σ H1 s₂ h' e vs I1 hm hq⟩) fun _ _ y => y)
end L2
namespace L2
open PySem PySem.Spec PyProof.Rows PySem.W

section
variable {prog : Program} {w : World} {A : Around} {E : Value → Shared → Prop} {h : Heap} {g : Array GenState} {d : Drawn} {t : Nat} {os : OsState} {a : Addr} {o : Obj}
  {nm q : Str} {C N : Addr} {bs bm : List Value} {hdct : Bool} {sn : List Str} {sub : List Value} {ab : Bool} {col : Option Bool} {dd : Option Addr} {k0 k1 k2 k3 k5 : Option Value} {newId : String}

theorem xc_get {R : Result → Shared → Prop} (hC : h.get? C = some (excClassObj nm q C N bs bm hdct sn sub ab col dd k0 k1 k2 k3 k5 newId)) (hb : bm.contains (.type "object") = true)
    (hx : h.get? a = some o) (hc : o.cls = .ref C) (hq : R (.ok (.ret (.ref C))) ⟨h, g, d, t, os⟩) :
    codeAny (model prog w) A (.call (.builtin "getset_descriptor.__get__") ⟨[.builtin "object.__class__", .ref a, .ref C], []⟩) R ⟨h, g, d, t, os⟩ := by
  have hT5 : (⟨h, g, d, t, os⟩ : Shared).TypeIs (.builtin "object.__class__") "getset_descriptor" := F.typeOf_object_class
  have hcB : (Value.ref C :: bm).contains (.type (".".intercalate ("object.__class__".cutAt '.').dropLast)) = true := by
    rw [F.owner_object_class, List.contains_cons, hb]; rfl
  refine codeAny_call_builtin F.slot_gs_get.plain F.entry_gs_get (F.slot_gs_get.check _ _ _ _ _ _ _ _ hT5 (F.args_gs_get _ _ _) ?_)
  repeat (any_goals (first | assumption | (with_reducible refine wpAny_loadPart_at hx ?_; rw [hc]) | (with_reducible refine wpAny_isSubtype_exc hC ?_; rw [hcB]) | wp_step))
  refine ⟨Code.quiet_builtin _ (by decide +kernel), codeAny_builtin F.entry_object_class ?_⟩
  repeat (any_goals (first | assumption | (with_reducible refine wpAny_loadPart_at hx ?_; rw [hc]) | wp_step))

theorem xc_check {M : Model} {nameV : Value} {Q : Unit → Shared → Prop} (hC : h.get? C = some (excClassObj nm q C N bs bm hdct sn sub ab col dd k0 k1 k2 k3 k5 newId)) (hb : bm.contains (.type "BaseException") = true)
    (hx : h.get? a = some o) (hc : o.cls = .ref C) (hq : Q () ⟨h, g, d, t, os⟩) : wpAny M A (checkBuiltinCall "BaseException.__getattribute__" ⟨[.ref a, nameV], []⟩) Q E ⟨h, g, d, t, os⟩ := by
  have hk : builtinKind "BaseException.__getattribute__" = some .slot := by decide +kernel
  have hsplit : splitId "BaseException.__getattribute__" = some ("BaseException", "__getattribute__") := by decide +kernel
  have hcB : (Value.ref C :: bm).contains (.type "BaseException") = true := by rw [List.contains_cons, hb]; rfl
  have ha := F.args_bexc_ga (.ref a) nameV
  simp only [checkBuiltinCall, hk, hsplit]
  refine wpAny_bind ?_
  · unfold isInstance
    repeat (first | (with_reducible refine wpAny_loadPart_at hx ?_; rw [hc]) | (with_reducible refine wpAny_isSubtype_exc hC ?_; rw [hcB]) | wp_step)
    exact hq

theorem xc_entry {tk : Tok} {Q : Fin → Shared → Prop} (hC : h.get? C = some (excClassObj nm q C N bs bm hdct sn sub ab col dd k0 k1 k2 k3 k5 newId)) (hb : bm.contains (.type "object") = true)
    (lk : Looks (model prog w) h (typeLookup (.ref C) "__class__") (some (.builtin "object.__class__"))) (hx : h.get? a = some o) (hc : o.cls = .ref C) (hq : Q (.done (.ret (.ref C))) ⟨h, g, d, t, os⟩) :
    wpAny (model prog w) A (Builtin.«object.__getattribute__» ⟨[.ref a, .str "__class__" tk], []⟩) Q E ⟨h, g, d, t, os⟩ := by
  have hT5 : (⟨h, g, d, t, os⟩ : Shared).TypeIs (.builtin "object.__class__") "getset_descriptor" := F.typeOf_object_class
  have f5 := F.typeOf_object_class
  have f6 := F.slot_gs_get.lookup
  have f7 := F.slot_gs_set.lookup
  repeat (any_goals (first | assumption | (with_reducible refine wpAny_loadPart_at hx ?_; rw [hc]) | with_reducible refine lk.at ?_ | wp_step))
  refine xc_get hC hb hx hc ?_
  repeat (any_goals (first | assumption | wp_step))

theorem xc_by {tk : Tok} {fill expr : Bool} {Q : Value → Shared → Prop} (hC : h.get? C = some (excClassObj nm q C N bs bm hdct sn sub ab col dd k0 k1 k2 k3 k5 newId)) (hb : bm.contains (.type "object") = true) (hb2 : bm.contains (.type "BaseException") = true)
    (lk : Looks (model prog w) h (typeLookup (.ref C) "__class__") (some (.builtin "object.__class__"))) (lg : Looks (model prog w) h (typeLookup (.ref C) "__getattribute__") (some (.builtin "BaseException.__getattribute__")))
    (ln : Looks (model prog w) h (typeLookup (.ref C) "__getattr__") none) (hx : h.get? a = some o) (hc : o.cls = .ref C) (hq : Q (.ref C) ⟨h, g, d, t, os⟩) :
    wpAny (model prog w) A (getAttrBy (.ref a) (.str "__class__" tk) fill expr) Q E ⟨h, g, d, t, os⟩ := by
  have FB := F.attrBase_ValueError
  have f3 := FB.ga.bind (.ref a)
  have hx0 : (expr && onTheHeap (Value.builtin "BaseException.__getattribute__")) = false := by cases expr <;> rfl
  have hx2 : (Value.builtin "BaseException.__getattribute__" == Value.builtin "object.__getattribute__") = false := by decide +kernel
  have hx1 : (onTheHeap (Value.ref C) && Value.builtin "BaseException.__getattribute__" == Value.builtin "object.__getattribute__") = false := by rw [hx2]; rfl
  repeat (any_goals (first | assumption | (with_reducible refine wpAny_loadPart_at hx ?_; rw [hc]) | with_reducible refine lg.at ?_ | with_reducible refine ln.at ?_ | wp_step))
  refine codeAny_call_builtin FB.ga.plain F.entry_bexc_ga (xc_check hC hb2 hx hc (xc_entry hC hb lk hx hc ?_))
  repeat (any_goals (first | assumption | wp_step))

theorem xc_attr {Q : Option Value → Shared → Prop} (hC : h.get? C = some (excClassObj nm q C N bs bm hdct sn sub ab col dd k0 k1 k2 k3 k5 newId)) (hb : bm.contains (.type "object") = true) (hb2 : bm.contains (.type "BaseException") = true)
    (lk : Looks (model prog w) h (typeLookup (.ref C) "__class__") (some (.builtin "object.__class__"))) (lg : Looks (model prog w) h (typeLookup (.ref C) "__getattribute__") (some (.builtin "BaseException.__getattribute__")))
    (ln : Looks (model prog w) h (typeLookup (.ref C) "__getattr__") none) (hx : h.get? a = some o) (hc : o.cls = .ref C) (hq : Q (some (.ref C)) ⟨h, g, d, t + 1, os⟩) :
    wpAny (model prog w) A (getAttr? (.ref a) "__class__") Q E ⟨h, g, d, t, os⟩ := by
  unfold getAttr? getAttrBy?
  repeat (any_goals (first | assumption | with_reducible apply xc_by hC hb hb2 lk lg ln hx hc | wp_step))
end
end L2
namespace L2
open PySem PySem.Spec PyProof.Rows

noncomputable def XO (ea C : Addr) : HO := .ext fun h => ∃ o, h.get? ea = some o ∧ o.cls = .ref C
noncomputable abbrev Cx.uncalm (X : Cx) (A : Around) (xe : Value → Shared → Prop) : Cx := { X with A := A, calm := false, xe := xe }
section
variable {X : Cx} {pins : List (Addr × Obj)} {σ : St} {H : Hp} {s : Shared} {xe : Value → Shared → Prop} {A : Around}
theorem Inv.uncalm (I : Inv X pins σ H s) (hf : A.frames = X.A.frames) : Inv (X.uncalm A xe) pins σ H s :=
  ⟨⟨I.ok.mod, I.ok.kind, I.ok.glob, I.ok.blt, I.ok.above, I.ok.inj, I.ok.has, I.ok.cab, (fun h => absurd (show false = true from h) (by decide)), hf.trans I.ok.frames, I.ok.stk, I.ok.exf, I.ok.bs, I.ok.bsz, I.ok.noex, I.ok.exfs, I.ok.funs, I.ok.frf⟩,
    I.os, I.bare, I.base, I.loc, I.cell, I.free, I.freeC, I.pin, I.hok, I.len⟩
theorem Inv.recalm (I : Inv (X.uncalm A xe) pins σ H s) (hd : X.calm = true → X.A.handled = none) (hf : X.A.frames = A.frames) : Inv X pins σ H s :=
  ⟨⟨I.ok.mod, I.ok.kind, I.ok.glob, I.ok.blt, I.ok.above, I.ok.inj, I.ok.has, I.ok.cab, hd, hf.trans I.ok.frames, I.ok.stk, I.ok.exf, I.ok.bs, I.ok.bsz, I.ok.noex, I.ok.exfs, I.ok.funs, I.ok.frf⟩,
    I.os, I.bare, I.base, I.loc, I.cell, I.free, I.freeC, I.pin, I.hok, I.len⟩
end
theorem Un.on {fs : List Addr} {H H' : Hp} {h h1 h2 B : Heap} (U : Un fs [] H H' h h1) (cov : ∀ b o, h.get? b = some o → b ∉ fs → ∃ o', B.get? b = some o') (k1 : ∀ b o, B.get? b = some o → h1.get? b = some o) (k2 : ∀ b o, B.get? b = some o → h2.get? b = some o)
    (sl : h1.UpToSlots h2) (nf : ∀ b ∈ fs, ∃ o, h1.get? b = some o ∧ ∀ vs, o.data ≠ .fields vs) : Un fs [] H H' h h2 := by
  refine ⟨fun b o q n hb hx => ?_, fun b o q n hb hx => ?_, U.free, fun b o q hx => ?_, U.tups, U.frzs, U.tbls⟩
  · have q2 := U.keep b o q n hb hx
    obtain ⟨o', e⟩ := cov b o q hb
    have e1 := k1 _ _ e
    rw [q2] at e1
    cases e1
    exact k2 _ _ e
  · obtain ⟨s1, q1⟩ := U.slot b o q n hb hx
    obtain ⟨ob, q3, d⟩ := nf b hb
    rw [q1] at q3
    cases q3
    obtain ⟨s4, q4⟩ := sl b _ q1 d
    exact ⟨s4, q4⟩
  · by_cases hb : b ∈ fs
    · obtain ⟨ob, q3, d⟩ := nf b hb
      obtain ⟨s4, q4⟩ := sl b _ q3 d
      exact ⟨_, q4⟩
    · obtain ⟨o', e⟩ := cov b o q hb
      exact ⟨_, k2 _ _ e⟩
theorem Un.more {fs : List Addr} {H H' : Hp} {h h2 : Heap} {a : Addr} {o : HO} (U : Un fs [] H H' h h2) (hn : h.get? a = none) (hH : H' a = none) : Un fs [] H (upd H' a o) h h2 := by
  have ne : ∀ b u, h.get? b = some u → b ≠ a := fun b u q z => by rw [z, hn] at q; cases q
  refine ⟨U.keep, U.slot, fun b u q n hx => by rw [upd_ne (ne b u q)]; exact U.free b u q n hx, U.there, fun b xs q => ?_, fun b u xs q => ?_, fun b ps q => ?_⟩
  · have e := U.tups b xs q
    rw [upd_ne (ne_of_none e hH)]; exact e
  · have e := U.frzs b u xs q
    rw [upd_ne (ne_of_none e hH)]; exact e
  · obtain ⟨m, e⟩ := U.tbls b ps q
    exact ⟨m, by rw [upd_ne (ne_of_none e hH)]; exact e⟩
section
variable {X : Cx} {pins : List (Addr × Obj)} {σ : St} {H0 H' : Hp} {s0 s' : Shared} {ea C : Addr} {a0 : Value} {B h5 : Heap} {env : Env} {outer : List Env}
theorem caught_inv (I : Inv X pins σ H0 s0) (fl : Heap.FlyingW B X.stack ea (.ref C) a0 s'.heap) (os : s'.os = s0.os) (bare : AllBare s'.gens) (hok : HOk X.prog X.w H' B) (un : Un (frs X.stack) [] H0 H' s0.heap s'.heap)
    (cov : ∀ b o, s0.heap.get? b = some o → b ∉ frs X.stack → ∃ o', B.get? b = some o') (k5 : ∀ b o, B.get? b = some o → h5.get? b = some o) (sl : s'.heap.UpToSlots h5) (he : ∃ o vs, h5.get? ea = some o ∧ o.cls = .ref C ∧ o.data = .fields vs) :
    Inv X pins σ (upd H' ea (XO ea C)) { s' with heap := h5 } ∧ H' ea = none := by
  have hn : H' ea = none := hok.notThere fl.2.1
  have fm : ∀ b ∈ frs X.stack, ∃ o, s'.heap.get? b = some o ∧ ∀ vs, o.data ≠ .fields vs := fun b hb => (fl.2.2.1.mem hb).2
  obtain ⟨oe, vs, h1, h2, h3⟩ := he
  have new : s0.heap.get? ea = none := by
    cases q : s0.heap.get? ea with
    | none => rfl
    | some o =>
      by_cases hb : ea ∈ frs X.stack
      · obtain ⟨ob, q3, d⟩ := fm ea hb
        obtain ⟨s4, q4⟩ := sl ea _ q3 d
        rw [h1] at q4
        cases q4
        exact absurd h3 (d vs)
      · obtain ⟨o', e⟩ := cov ea o q hb
        rw [fl.2.1] at e; cases e
  refine ⟨Inv.call' (s' := { s' with heap := h5 }) I os ((un.on cov fl.1 k5 sl fm).more new hn) ?_ bare (fun b z => absurd z (by simp)), hn⟩
  intro b u e
  have tup : ∀ c xs, H' c = some (.tup xs) → upd H' ea (XO ea C) c = some (.tup xs) := fun c xs z => by rw [upd_ne (ne_of_none z hn)]; exact z
  have own : ∀ c y, H' c = some (.own y) → upd H' ea (XO ea C) c = some (.own y) := fun c y z => by rw [upd_ne (ne_of_none z hn)]; exact z
  by_cases hb : b = ea
  · subst hb
    rw [upd_same] at e
    cases e
    refine ⟨⟨oe, h1, h2⟩, ⟨oe, h1⟩, fun g1 g2 ⟨o, z1, z2⟩ k => ⟨o, k o z1, z2⟩⟩
  · rw [upd_ne hb] at e
    exact (hok b u e).stay (fun c v hc q => k5 _ _ q) (fun c z => own c b z) tup
end
theorem gone_ok {X : Cx} {pins : List (Addr × Obj)} {σ : St} {H : Hp} {s : Shared} {M : Model} {A : Around} {E : Value → Shared → Prop} {i : Nat} {n : Str} {pos : Pos} {Q : Unit → Shared → Prop} (I : Inv X pins σ H s) (hN : X.N.Nodup) (hi : X.N[i]? = some n)
    (hk : X.env.scope.names.lookup n = some .local) (h : ∀ s', Inv X pins (σ.set i none) H s' → Q () s') : wpAny M A (do bindName X.env n .none; unbindBehindTheSuite X.env n pos) Q E s := by
  obtain ⟨m, hn, hl⟩ := id I.loc
  have hcls : (X.env.scope.kind == .class || (X.env.scope.kind == .module && X.env.locals != X.env.globals)) = false := by rw [I.ok.kind]; rfl
  have hiσ : i < σ.length := by rw [I.len]; exact (List.getElem?_eq_some_iff.mp hi).1
  have cne := I.cne
  obtain ⟨oL, _, _, hoL, _⟩ := id hn
  refine wpAny_nameGoes_keeps hk hn hcls fun h' v hn' hs => ?_
  refine h _ ⟨I.ok, I.os, I.bare, ⟨fun b o e n hb hx => ?_, fun b o e n hb hx => ?_, I.base.free, fun b o e hx => ?_, I.base.tups, I.base.frzs, I.base.tbls⟩, ⟨_, hn', fun j y v' e1 e2 e3 => ?_⟩, fun y c e => ?_, I.free, I.freeC, fun p hp => ?_, fun b ob e => ?_, by simpa using I.len⟩
  · exact (hs.2 b (Nat.ne_of_lt (Nat.lt_of_lt_of_le (Heap.lt_size e) I.ok.above))).trans (I.base.keep b o e n hb hx)
  · obtain ⟨sl, e1⟩ := I.base.slot b o e n hb hx
    exact ⟨sl, (hs.2 b (Nat.ne_of_lt (Nat.lt_of_lt_of_le (Heap.lt_size e) I.ok.above))).trans e1⟩
  · obtain ⟨o', e1⟩ := I.base.there b o e hx
    exact ⟨o', (hs.2 b (Nat.ne_of_lt (Nat.lt_of_lt_of_le (Heap.lt_size e) I.ok.above))).trans e1⟩
  · by_cases hj : j = i
    · subst hj
      rw [List.getElem?_set_self hiσ] at e2
      cases e2
    · rw [List.getElem?_set_ne (Ne.symm hj)] at e2
      obtain ⟨u', r', q⟩ := hl j y v' e1 e2 e3
      refine ⟨u', r', ?_⟩
      rcases q with ⟨k, e⟩ | ⟨k, c, e, z⟩
      · refine .inl ⟨k, ?_⟩
        have : y ≠ n := fun e => hj (nodup_ix hN e1 (e ▸ hi))
        simp [this, e]
      · exact .inr ⟨k, c, e, z.sameBut hs (cne y c e)⟩
  · obtain ⟨w', z⟩ := I.cell y c e
    exact ⟨w', z.sameBut hs (cne y c e)⟩
  · obtain ⟨e, n, ne, nf, d⟩ := I.pin p hp
    exact ⟨(hs.2 p.1 ne).trans e, n, ne, nf, d⟩
  · refine (I.hok b ob e).stay (fun c w' hc q => (hs.2 c ?_).trans q) (fun _ q => q) fun _ _ q => q
    rintro rfl
    rcases hc with rfl | hc
    · rw [I.free] at e; cases e
    · rw [I.free] at hc; cases hc

noncomputable def Wish (X : Cx) (pins : List (Addr × Obj)) (σ : St) (E : XK) (xe : Value → Shared → Prop) : Prop := ∀ (H0 : Hp) (s0 : Shared) (e : Value) (s' : Shared), Inv X pins σ H0 s0 → CXE X.prog X.w X.stack H0 s0 E e s' → xe e s'
noncomputable def PEt (X : Cx) (e : Expr) (t : XK → TE) : Prop := ∀ (E : XK) (pins : List (Addr × Obj)) (s : Shared) (σ : St) (H : Hp) (Q : VK) (xe : Value → Shared → Prop), Wish X pins σ E xe → Inv X pins σ H s → t E σ H Q →
  wpAny (model X.prog X.w) X.A (eval e X.env) (EP X pins σ Q) xe s
noncomputable def PSt (X : Cx) (st : List Stmt) (t : XK → TS) : Prop := ∀ (E : XK) (pins : List (Addr × Obj)) (s : Shared) (σ : St) (H : Hp) (D : Ends) (xe : Value → Shared → Prop), Wish X pins σ E xe → Inv X pins σ H s → t E D σ H →
  wpAny (model X.prog X.w) X.A (execs st X.env) (SP X pins D) xe s
section
variable {X : Cx} {k : Nat} {f : Addr} {fd : FuncData} {ps : List Str} {sp : Sp} {dvs : List V} {ds : List Value} {x : Str} {p pos : Pos} {e : Expr} {es : List Expr} {t : TA}
theorem run_fnX {CX : CXT} {E : XK} {xe : Value → Shared → Prop} {pins : List (Addr × Obj)} {σ : St} {H : Hp} {s : Shared} {Q : VK} {us : List Value} {vs : List V} (F : FnOk X.prog X.w X.K X.mg X.base CX k f fd ps sp) (hr : Room k X.A) (hb : Binds X.K fd ps ds) (hd : Vals dvs ds)
    (I : Inv X pins σ H s) (hx : ∀ e s', CX X.stack H s E e s' → xe e s') (r : Vals vs us) (h : sp (vs ++ dvs) H Q E) : wpAny (model X.prog X.w) X.A (call (.ref f) us) (EP X pins σ Q) xe s := by
  have r2 : Vals (vs ++ dvs) (us ++ ds) := r.append hd
  have hl : (us ++ ds).length = ps.length := by rw [← r2.length]; exact F.len _ _ _ _ h
  refine wpAny_call (codeAny_mono (F.run X.A X.stack s H ⟨us, []⟩ (us ++ ds) (vs ++ dvs) Q E hr I.env0 (hb s us I.kIn hl) r2 h) fun r s' hq => ?_)
  cases r with
  | error e => exact hx e s' hq
  | ok fl =>
    cases fl with
    | ret u => exact I.after hq
    | next => exact False.elim hq
    | brk => exact False.elim hq
    | cont => exact False.elim hq
theorem pet_call (F : FnOk X.prog X.w X.K X.mg X.base (CXE X.prog X.w) k f fd ps sp) (hr : Room k X.A) (hg : Gl X x) (hm : X.mg x = some (.ref f)) (hk : PySem.W.keepIn X.K (.ref f) = true) (hb : Binds X.K fd ps ds) (hd : Vals dvs ds)
    (ha : PA X.nox (e :: es) t) (hdb : (x == ("__debug__" : Str)) = false := by decide) (he : starEach (e :: es) X.env = (false, eval e X.env) :: starEach es X.env := by rfl) (hpl : (backTo pos (starEach es X.env)).any (·.1) = false := by rfl) :
    PEt X (.Call (.Name x p) (e :: es) [] pos) (fun E => tCall sp dvs E t) := by
  intro E pins s σ H Q xe W I h
  refine wpAny_Call_Name_kw (ld_glob I hg hm ?_ hdb)
  refine PySem.W.callWith_K (h₀ := X.base) I.ok.mod.kin hk (wpAny_mono (ha pos pins s σ H _ (I.wish _) h) (fun us s1 ⟨vs, H1, I1, r, q⟩ => ⟨I1.unwish.kIn, ?_⟩) fun _ _ z => False.elim z) he hpl
  exact run_fnX F hr hb hd I1.unwish (fun e s' hq => W H1 s1 e s' I1.unwish hq) r q
theorem pst_set {i : Nat} {y : Str} {te : XK → TE} {pos' : Pos} (hN : X.N.Nodup) (hi : X.N[i]? = some y) (hx : Loc X.env.scope y) (he : PEt X e te) (hs : swapsWith e (some (.Name y pos')) pos.line X.env = pure false := by rfl)
    (hf : X.fn y = true ∨ X.env.scope.names.lookup y = some .local := by first | exact .inl rfl | exact .inr rfl | assumption) : PSt X [.Assign [.Name y pos'] e pos] (fun E => tAsg (te E) (gName i)) := by
  intro E pins s σ H D xe W I h
  refine wpAny_execs_cons (wpAny_Assign_Name (thn (he E pins s σ H _ xe W I h) fun v s1 ⟨z, H1, I1, r1, q1⟩ => ?_) hs)
  exact store_ok I1 hN hi hx r1 (fun s2 I2 => wpAny_execs_nil ⟨_, H1, I2, q1⟩) hf
end
noncomputable def tTry (K : PySem.W.Frag) (CH : Addr) (i : Nat) (tb : XK → TS) (th : TS) : TS := fun D σ H =>
  tb (fun cls _ H' => ∃ C, cls = .ref C ∧ PySem.W.exmOne K (.ref C) (.ref CH) = some true ∧ ∀ ea, H' ea = none →
    th { nx := fun σ' H'' => D.nx (σ'.set i none) H'', rt := D.rt, bk := fun σ' H'' => D.bk (σ'.set i none) H'', ct := fun σ' H'' => D.ct (σ'.set i none) H'' } (σ.set i (some (.ref ea))) (upd H' ea (XO ea C))) D σ H
theorem ps_try {X : Cx} {body : List Stmt} {tb : XK → TS} {th : TS} {x n : Str} {i : Nat} {CH : Addr} {b₀ : Stmt} {suite : List Stmt} {np hpos pos : Pos} (hst : X.stack = X.env :: X.outer ∧ X.env.frame = some X.env.locals)
    (hN : X.N.Nodup) (hi : X.N[i]? = some n) (hl : X.env.scope.names.lookup n = some .local) (hg : Gl X x) (hm : X.mg x = some (.ref CH)) (hb : PSt X body tb)
    (hh : ∀ ea : Addr, PSs (X.uncalm (X.A.mark (some (.ref ea))) fun _ _ => False) (b₀ :: suite) th) (hd : (x == ("__debug__" : Str)) = false := by decide) :
    PS X (.Try body [.ExceptHandler (some (.Name x np)) (some n) (b₀ :: suite) hpos] [] [] pos) (tTry X.K CH i tb th) := by
  intro pins s σ H D I h
  refine wpAny_Try_except (wpAny_mono (hb _ pins s σ H D _ ?W I h) (fun f s1 q => ?_) fun _ _ z => z)
  case W =>
    intro H0 s0 e s' I0 hx
    obtain ⟨ea, C, a0, B, H', rfl, fl, os, bare, hok, un, cov, C', hc, hex, hth⟩ := hx
    cases hc
    have hfr : X.A.frames = some (X.env :: X.outer) := by rw [I0.ok.frames, hst.1]
    have fl0 : Heap.FlyingW B (X.env :: X.outer) ea (.ref C) a0 s'.heap := by rw [← hst.1]; exact fl
    refine wpAny_looks_onW hfr hst.2 fl0 fun h₄ held₄ sm₄ => ?_
    refine wpAny_landsW held₄ fun h₅ fl₅ sm₅ => ?_
    obtain ⟨o5, vs5, g1, g2, g3, _⟩ := fl₅.first
    obtain ⟨I5, hea⟩ := caught_inv (h5 := h₅) I0 fl os bare hok un cov fl₅.1 (sm₄.trans sm₅) ⟨o5, vs5, g1, g2, g3⟩
    have J5 : Inv (X.uncalm (X.A.mark (some (.ref ea))) fun _ _ => False) pins σ (upd H' ea (XO ea C)) { s' with heap := h₅ } := I5.uncalm rfl
    refine wpAny_handleBy_cons (codeAny_handlers_test (ld_glob J5 hg hm ?_ hd)) (by intro q; cases q)
    have LT : PySem.W.Looks (model X.prog X.w) h₅ (typeOf (.ref ea)) (.ref C) := g2 ▸ (PySem.W.Looks.ld g1).andThen .now
    refine (PySem.W.exm_one (M := model X.prog X.w) I5.kIn LT hex).at ?_
    show codeAny _ _ _ _ _
    refine codeAny_handlers_suite_as ?_
    refine lands_againW fl₅ fun h₆ fl₆ sm₆ => ?_
    obtain ⟨o6, vs6, j1, j2, j3, _⟩ := fl₆.first
    obtain ⟨I6, _⟩ := caught_inv (h5 := h₆) I0 fl os bare hok un cov fl₆.1 ((sm₄.trans sm₅).trans sm₆) ⟨o6, vs6, j1, j2, j3⟩
    refine store_ok I6 hN hi (.inl hl) (v := .ref ea) rfl (fun s7 J7 => ?_) (.inr hl)
    refine wpAny_mono (hh ea pins s7 _ _ _ (J7.uncalm rfl) (hth ea hea)) (fun f s8 q8 => ?_) fun _ _ z => False.elim z
    have back : ∀ {σ' H''} {s9 : Shared}, Inv (X.uncalm (X.A.mark (some (.ref ea))) fun _ _ => False) pins σ' H'' s9 → Inv X pins σ' H'' s9 := fun J => J.recalm I0.ok.hd rfl
    cases f with
    | next =>
      obtain ⟨σ', H'', J, q⟩ := q8
      exact gone_ok (back J) hN hi hl fun s9 I9 => ⟨_, _, I9, q⟩
    | brk =>
      obtain ⟨σ', H'', J, q⟩ := q8
      exact gone_ok (back J) hN hi hl fun s9 I9 => ⟨_, _, I9, q⟩
    | cont =>
      obtain ⟨σ', H'', J, q⟩ := q8
      exact gone_ok (back J) hN hi hl fun s9 I9 => ⟨_, _, I9, q⟩
    | ret u =>
      obtain ⟨v, σ', H'', J, r, q⟩ := q8
      exact gone_ok (back J) hN hi hl fun s9 I9 => ⟨v, _, _, I9, r, q⟩
  cases f with
  | next => exact wpAny_execs_nil q
  | brk => exact q
  | cont => exact q
  | ret u => exact q


structure ExcI (K : PySem.W.Frag) (C : Addr) : Prop where
  cl : PySem.W.findIn K (.ref C) "__class__" = some (some (.builtin "object.__class__"))
  ga : PySem.W.findIn K (.ref C) "__getattribute__" = some (some (.builtin "BaseException.__getattribute__"))
  gn : PySem.W.findIn K (.ref C) "__getattr__" = some none
theorem call_isX {X : Cx} {x : Str} {C : Addr} (O : Exc X.K X.mg x C) (Z : ExcI X.K C) :
    CallR X (.builtin "isinstance") (fun xs H Q => ∃ ea c cv b, xs = [.ref ea, c] ∧ H ea = some (XO ea C) ∧ RelV c cv ∧ (∀ u v, RelV c u → RelV c v → u = v) ∧ PySem.W.kitOne X.K (.ref C) cv = some b ∧ Q (.bl b) H) := by
  intro pins s σ H xs us Q I r h
  obtain ⟨ea, c, cv, b, rfl, hea, rc, hcv, e, q⟩ := h
  obtain ⟨u, w', rfl, rx, ry⟩ := vals2 r
  cases (show u = Value.ref ea from rx)
  obtain ⟨⟨o, h1, h2⟩, _⟩ := (show ObjOk X.prog X.w H s.heap ea (XO ea C) from I.hok ea _ hea)
  have hw : w' = cv := hcv _ _ ry rc
  subst hw
  obtain ⟨bm, N, nm, qn, bs, hdct, sn, sub, ab, col, dd, k0, k1, k2, k3, k5, mN, hC, hN, hni, TL⟩ := (O.own I.kIn).obj
  have hob : bm.contains (.type "object") = true := TL.hasType (by decide +kernel)
  have hbb : bm.contains (.type "BaseException") = true := TL.hasType (by decide +kernel)
  have Zx : PySem.W.KitX X.K (.ref ea) (.ref C) (fun h => (∃ o, h.get? ea = some o ∧ o.cls = .ref C)) := {
    ty := fun M h _ p => by
      obtain ⟨o, h1, h2⟩ := p
      exact h2 ▸ (PySem.W.Looks.ld h1).andThen .now
    it := fun M h XX _ => by
      obtain ⟨bm, N, nm, qn, bs, hdct, sn, sub, ab, col, dd, k0, k1, k2, k3, k5, mN, hC, _⟩ := (O.own XX).obj
      intro A' Q' E' s' k q
      unfold isType loadHead
      exact wpAny_bind (wpAny_loadPart (k _ _ hC) (wpAny_pure q))
    ne := fun h tp dd' its n sl XX htp => by
      obtain ⟨bm, N, nm, qn, bs, hdct, sn, sub, ab, col, dd, k0, k1, k2, k3, k5, mN, hC, _⟩ := (O.own XX).obj
      refine Bool.eq_false_iff.mpr fun q => ?_
      have e : C = tp := Value.ref.inj (beq_iff_eq.mp q)
      subst e
      rw [hC] at htp
      have z2 := congrArg Obj.cls (Option.some.inj htp)
      exact absurd (Value.type.inj z2) (by decide)
    ca := fun {prog w A E Q s} XX p hq => by
      obtain ⟨bm, N, nm, qn, bs, hdct, sn, sub, ab, col, dd, k0, k1, k2, k3, k5, mN, hC, hN, hni, TL⟩ := (O.own XX).obj
      obtain ⟨o, h1, h2⟩ := p
      obtain ⟨hp, g, d, t, os⟩ := s
      exact xc_attr hC (TL.hasType (by decide +kernel)) (TL.hasType (by decide +kernel)) (PySem.W.looks_findIn XX Z.cl) (PySem.W.looks_findIn XX Z.ga) (PySem.W.looks_findIn XX Z.gn) h1 h2 hq }
  exact PySem.W.kia_one Zx I.kIn ⟨o, h1, h2⟩ e (fun z => nomatch z) fun tk => ⟨.bl b, H, I.tok _, rfl, q⟩
end L2
namespace L2
open PySem PySem.Spec PyProof.Rows

theorem joins_mono {M : Model} {A : Around} {E : Value → Shared → Prop} {R R' : Str → Shared → Prop} (h : ∀ z s, R z s → R' z s) : ∀ {l : List (Sem Value)} {acc : Str} {s : Shared}, Joins M A E l acc R s → Joins M A E l acc R' s
  | [], acc, s, q => h _ _ q
  | x :: r, acc, s, q => wpAny_mono q (fun v s1 ⟨y, t, e, hz, q1⟩ => ⟨y, t, e, hz, joins_mono h q1⟩) fun _ _ z => z
section
variable {X : Cx}
noncomputable abbrev TJ := St → Hp → (Hp → Prop) → Prop
noncomputable def PJ (X : Cx) (es : List Expr) (t : TJ) : Prop := ∀ (pins : List (Addr × Obj)) (s : Shared) (σ : St) (H : Hp) (acc : Str) (Q : Hp → Prop), Inv X pins σ H s → acc.length + 1000 * es.length ≤ 100000 →
  t σ H Q → Joins (model X.prog X.w) X.A X.xe (evalEach es X.env) acc (fun out s1 => out.length ≤ 100000 ∧ ∃ H1, Inv X pins σ H1 s1 ∧ Q H1) s
noncomputable def jNil : TJ := fun _ H Q => Q H
noncomputable def jCons (te : TE) (t : TJ) : TJ := fun σ H Q => te σ H fun x H1 => ∃ z, x = .str z ∧ z.length ≤ 1000 ∧ t σ H1 Q
theorem pj_nil : PJ X [] jNil := fun pins s σ H acc R I hl h => ⟨by simpa using hl, H, I, h⟩
theorem pj_cons {e : Expr} {es : List Expr} {te : TE} {t : TJ} (he : PE X e te) (hr : PJ X es t) (hs : evalEach (e :: es) X.env = eval e X.env :: evalEach es X.env := by rfl) : PJ X (e :: es) (jCons te t) := by
  intro pins s σ H acc R I hl h
  rw [hs]
  rw [List.length_cons] at hl
  refine thn (he pins s σ H _ I h) fun v s1 ⟨x, H1, I1, rx, z, ex, hz, q⟩ => ?_
  subst ex
  obtain ⟨tk, rfl⟩ := rx
  have hlen : (acc ++ z).length = acc.length + z.length := Str.length_append _ _
  refine ⟨z, tk, rfl, by rw [hlen]; exact Nat.le_trans (by omega : _ ≤ 100000) (by decide), hr pins s1 σ H1 (acc ++ z) R I1 (by rw [hlen]; omega) q⟩
noncomputable def tJoined (n : Nat) (t : TJ) : TE := fun σ H Q => n ≤ 90 ∧ t σ H fun H1 => ∀ z : Str, Q (.str z) H1
theorem pe_joined {a b : Expr} {r : List Expr} {t : TJ} {pos : Pos} (h : PJ X (a :: b :: r) t) : PE X (.JoinedStr (a :: b :: r) pos) (tJoined (a :: b :: r).length t) := by
  intro pins s σ H Q I hw
  obtain ⟨hn, hq⟩ := hw
  refine wpAny_JoinedStr (joins_mono (fun z s1 ⟨hz, H1, I1, q⟩ => ⟨Nat.le_trans hz (by decide), ⟨.str z, H1, I1.tok _, ⟨_, rfl⟩, q z⟩⟩) (h pins s σ H Str.empty _ I ?_ hq))
  show 0 + _ ≤ _
  omega
noncomputable def tFmtI (tv : TE) : TE := fun σ H Q => tv σ H fun x H1 => ∃ i, x = .int i ∧ i.natAbs.log2 < 1920 ∧ Q (.str (toString i)) H1
theorem pe_fmtI {v : Expr} {tv : TE} {pos : Pos} (h : PE X v tv) : PE X (.FormattedValue v (-1) none pos) (tFmtI tv) := by
  intro pins s σ H Q I hw
  refine FormattedValue_plain (thn (h pins s σ H _ I hw) fun u s1 ⟨x, H1, I1, rx, i, ex, hi, q⟩ => ?_)
  subst ex
  obtain ⟨tk, rfl⟩ := rx
  exact formatField_int_small hi ⟨.str _, H1, I1.tok _, ⟨_, rfl⟩, q⟩
theorem pe_globI {x : Str} {i : Int} {pos : Pos} (h : ∃ t, X.mg x = some (.int i t)) (hg : Gl X x) (hd : (x == ("__debug__" : Str)) = false := by decide) : PE X (.Name x pos) (tC (.int i)) :=
  let ⟨t, e⟩ := h; pe_glob hg e ⟨t, rfl⟩ hd
end

theorem Fun.okE {P : Program} {w : World} {K : PySem.W.Frag} {mg : Str → Option Value} {base : Heap} {x qual : Str} {st : Stmt} {f : Addr} {fd : FuncData} {N ps : List Str} {k : Nat} {sp : Sp} (F : Fun K x qual st f fd) (S : FnScope N ps (defScope st)) (len : ∀ vs H Q E, sp vs H Q E → vs.length = ps.length)
    (hbody : ∀ (cdv : Value) (A : Around) (outer : List Env) (s : Shared) (H : Hp) (vs : List V) (Q : VK) (E : XK), Room k (A.deeper (envOfC qual (defScope st) s.heap.objs.size f cdv)) → sp vs H Q E →
      ∃ t, PSs (cxOf (CXE P w) P w K mg base N qual (defScope st) f cdv A outer s H E) (defBody st) t ∧ t { nx := fun _ H' => Q .non H', rt := Q } (start N vs) H) : FnOk P w K mg base (CXE P w) (k + 1) f fd ps sp := by
  obtain ⟨oc, od, kV, doc, pm, an, cdv, ct, osl, rfl, lk, hcd⟩ := F.ex
  exact fn_of lk hcd S len fun A outer s H vs Q E hr hsp => hbody cdv A outer s H vs Q E hr hsp
structure HasE (P : Program) (w : World) (K : PySem.W.Frag) (mg : Str → Option Value) (base : Heap) (k : Nat) (x : Str) (ps : List Str) (sp : Sp) : Prop where
  ex : ∃ f fd, FnOk P w K mg base (CXE P w) k f fd ps sp ∧ mg x = some (.ref f) ∧ PySem.W.keepIn K (.ref f) = true ∧ Binds K fd ps []
section
variable {P : Program} {w : World} {K : PySem.W.Frag} {mg : Str → Option Value} {base : Heap} {x m qual : Str} {C : Addr} {st : Stmt} {N ps : List Str} {k : Nat} {sp : Sp}
theorem Def.hasE (D : Def K mg x st ps) (S : FnScope N ps (defScope st)) (len : ∀ vs H Q E, sp vs H Q E → vs.length = ps.length)
    (hbody : ∀ (f : Addr) (cdv : Value) (A : Around) (outer : List Env) (s : Shared) (H : Hp) (vs : List V) (Q : VK) (E : XK), Room k (A.deeper (envOfC x (defScope st) s.heap.objs.size f cdv)) → sp vs H Q E →
      ∃ t, PSs (cxOf (CXE P w) P w K mg base N x (defScope st) f cdv A outer s H E) (defBody st) t ∧ t { nx := fun _ H' => Q .non H', rt := Q } (start N vs) H) : HasE P w K mg base (k + 1) x ps sp := by
  obtain ⟨f, fd, F, hm, hb⟩ := D.ex
  exact ⟨f, fd, F.okE S len (hbody f), hm, F.kp, hb⟩
end
section
variable {X : Cx} {k k' : Nat} {x m : Str} {C : Addr} {ps : List Str} {sp : Sp} {p pos apos : Pos} {e o : Expr} {es : List Expr} {ta : TE} {t : TA} {E : XK}
theorem pe_callE (h : HasE X.prog X.w X.K X.mg X.base k x ps sp) (hr : Room k' X.A) (hk : k ≤ k') (hx : Passes (CXE X.prog X.w) X E) (hg : Gl X x) (ha : PA X (e :: es) t) (hdb : (x == ("__debug__" : Str)) = false := by decide)
    (he : starEach (e :: es) X.env = (false, eval e X.env) :: starEach es X.env := by rfl) (hpl : (backTo pos (starEach es X.env)).any (·.1) = false := by rfl) :
    PE X (.Call (.Name x p) (e :: es) [] pos) (tCall sp [] E t) := by
  obtain ⟨f, fd, F, hm, hkp, hb⟩ := h.ex
  exact pe_call F (hr.mono hk) hg hm hkp hb .nil hx ha hdb he hpl
theorem pet_callE (h : HasE X.prog X.w X.K X.mg X.base k x ps sp) (hr : Room k' X.A) (hk : k ≤ k') (hg : Gl X x) (ha : PA X.nox (e :: es) t) (hdb : (x == ("__debug__" : Str)) = false := by decide)
    (he : starEach (e :: es) X.env = (false, eval e X.env) :: starEach es X.env := by rfl) (hpl : (backTo pos (starEach es X.env)).any (·.1) = false := by rfl) :
    PEt X (.Call (.Name x p) (e :: es) [] pos) (fun E => tCall sp [] E t) := by
  obtain ⟨f, fd, F, hm, hkp, hb⟩ := h.ex
  exact pet_call F (hr.mono hk) hg hm hkp hb .nil ha hdb he hpl
end
end L2
namespace L2
open PySem PySem.Spec PyProof.Rows
theorem boot_ValueError_ : bootBuiltins "ValueError" = some (.type "ValueError") := by rfl
theorem call_isXK {X : Cx} {K : PySem.W.Frag} (hK : X.K = K) {x : Str} {C : Addr} (O : Exc K X.mg x C) (Z : ExcI K C) :
    CallR X (.builtin "isinstance") (fun xs H Q => ∃ ea c cv b, xs = [.ref ea, c] ∧ H ea = some (XO ea C) ∧ RelV c cv ∧ (∀ u v, RelV c u → RelV c v → u = v) ∧ PySem.W.kitOne K (.ref C) cv = some b ∧ Q (.bl b) H) := by
  subst hK
  exact call_isX O Z
end L2
namespace L2
open PySem PySem.Spec PyProof.Rows
section
variable {X : Cx}
inductive J_call_intB (xs : List V) (H : Hp) (Q : VK) : Prop
  | mk : ∀ b, (xs = [.bl b]) → (Q (.int (if b then 1 else 0)) H) → J_call_intB xs H Q
theorem call_intB : CallR X (.type "int") (fun xs H Q => J_call_intB xs H Q) := by
  intro pins s σ H xs us Q I r h
  obtain ⟨b, rfl, q⟩ := h
  obtain ⟨u, rfl, rx⟩ := Vals.one r
  cases (show u = Value.bool b from rx)
  exact call_int_bool ⟨.int _, H, I.tok _, ⟨_, rfl⟩, q⟩
end
theorem comp_tupS {K : PySem.W.Frag} {a : Addr} {xs ys : List V} {te : TE} {σ : St} {caps : List (Str × Nat)} {H : Hp} {Q : VK} (hS : SqT K H a xs) (hz : xs.length ≤ 1000) (hy : ys.length = xs.length)
    (hel : ∀ (i : Nat) (x y : V), xs[i]? = some x → ys[i]? = some y → ∀ H', Same H H' → ∀ Q' : VK, (∀ H'', Same H' H'' → Q' y H'') → te (some x :: capt σ caps) H' Q') (hq : ∀ D H', H D = none → Same H H' → H' D = some (.lst ys) → Q (.ref D) H') :
    CompBody (Itt K a) (gName 0) te (List.replicate 1 none ++ capt σ caps) H Q := by
  intro D hD
  refine ⟨fun i m τ zs H' => m = xs.length - i ∧ i ≤ xs.length ∧ (∃ o, τ = o :: capt σ caps) ∧ zs = ys.take i ∧ Same H H' ∧ H' D = some (.lst zs), ⟨xs.length, by simp, Nat.zero_le _, ⟨none, rfl⟩, by simp, same_new hD _, upd_same⟩, ?_⟩
  rintro i m τ zs H' ⟨rfl, hi, ⟨o, rfl⟩, rfl, sm, hDl⟩
  refine ⟨hDl, ?_⟩
  by_cases hlt : i < xs.length
  · refine .inr ⟨⟨xs, xs[i], sm.tup hS, by simp [hlt]⟩, ?_, fun x H'' y => ?_⟩
    · rw [List.length_take]
      exact small1000 (by omega)
    obtain ⟨e, y⟩ := y
    subst e
    have hx := y xs (sm.tup hS)
    have hyi : ys[i]? = some ys[i] := List.getElem?_eq_getElem (by omega)
    show te (some x :: capt σ caps) _ _
    refine hel i x ys[i] hx hyi _ sm _ (fun H2 s2 => ?_)
    refine ⟨s2 _ _ hDl, xs.length - (i + 1), by omega, rfl, hlt, ⟨_, rfl⟩, ?_, (sm.trans s2).put hD, ?_⟩
    · rw [List.take_add_one, hyi]; rfl
    · rw [upd_same]
  · have e : i = xs.length := by omega
    subst e
    refine .inl ⟨⟨xs, sm.tup hS, Nat.le_refl _⟩, ?_⟩
    rw [← hy, List.take_length] at hDl
    exact hq D H' hD sm hDl
end L2
namespace L2
open PySem PySem.Spec PyProof.Rows
inductive StrsC : List Expr → List Str → Prop where
  | nil : StrsC [] []
  | cons {x : Str} {j : Nat} {p : Pos} {es : List Expr} {L : List Str} (h : StrsC es L) : StrsC (.Constant (.str x) j p :: es) (x :: L)
noncomputable def tStrs (L : List Str) : TA := fun _ H Q => Q (L.map V.str) H
theorem pa_strs {X : Cx} {es : List Expr} {L : List Str} (h : StrsC es L) : PA X es (tStrs L) := by
  induction h with
  | nil => exact pa_nil
  | cons h ih => exact pa_cons pe_str ih
end L2
namespace L2
open PySem PySem.Spec PyProof.Rows
noncomputable def strsOf : List Expr → Option (List Str)
  | [] => some []
  | .Constant (.str x) _ _ :: es => (strsOf es).map (x :: ·)
  | _ => none
theorem strsC_of : ∀ {es : List Expr} {L : List Str}, strsOf es = some L → StrsC es L
  | [], L, h => by
    cases (show some [] = some L from h)
    exact .nil
  | e :: es, L, h => by
    unfold strsOf at h
    split at h
    · rename_i heq; cases heq
    · rename_i x j p es' heq
      cases heq
      cases q : strsOf es with
      | none => rw [q] at h; cases h
      | some L' =>
        rw [q] at h
        cases h
        exact .cons (strsC_of q)
    · cases h
theorem pa_strsB {X : Cx} {es : List Expr} {L : List Str} (h : strsOf es = some L) : PA X es (tStrs L) := pa_strs (strsC_of h)
end L2
namespace L2
open PySem PySem.Spec PyProof.Rows

section
variable {κ : Type} [DecidableEq κ]
noncomputable def valV (kvs : List (κ × V)) (k : κ) : Option V := (kvs.find? fun kv => decide (kv.1 = k)).map (·.2)
noncomputable def putK (kvs : List (κ × V)) (k : κ) (v : V) : List (κ × V) :=
  if (kvs.any fun kv => decide (kv.1 = k)) = true then kvs.map (fun kv => if kv.1 = k then (kv.1, v) else kv) else kvs ++ [(k, v)]

theorem valV_nil {k : κ} : valV ([] : List (κ × V)) k = none := rfl
theorem valV_pos {p : κ × V} {r : List (κ × V)} {k : κ} (e : p.1 = k) : valV (p :: r) k = some p.2 := by simp [valV, List.find?_cons, e]
theorem valV_neg {p : κ × V} {r : List (κ × V)} {k : κ} (e : ¬ p.1 = k) : valV (p :: r) k = valV r k := by simp [valV, List.find?_cons, e]
theorem valV_any (k : κ) : ∀ kvs : List (κ × V), (kvs.any fun kv => decide (kv.1 = k)) = (valV kvs k).isSome
  | [] => rfl
  | p :: r => by
    rw [List.any_cons]
    by_cases e : p.1 = k
    · simp only [valV_pos e, decide_eq_true e, Bool.true_or, Option.isSome_some]
    · rw [valV_neg e, decide_eq_false e, Bool.false_or]; exact valV_any k r
theorem valV_map (k j : κ) (y : V) : ∀ kvs : List (κ × V), valV (kvs.map fun kv => if kv.1 = k then (kv.1, y) else kv) j = (valV kvs j).map fun x => if j = k then y else x
  | [] => rfl
  | p :: r => by
    have ih := valV_map k j y r
    rw [List.map_cons]
    by_cases h : p.1 = k
    · rw [if_pos h]
      by_cases e : p.1 = j
      · rw [valV_pos (p := (p.1, y)) e, valV_pos e, Option.map_some, if_pos (e.symm.trans h)]
      · rw [valV_neg (p := (p.1, y)) e, valV_neg e, ih]
    · rw [if_neg h]
      by_cases e : p.1 = j
      · rw [valV_pos (p := p) e, valV_pos e, Option.map_some, if_neg (fun z => h (e.trans z))]
      · rw [valV_neg (p := p) e, valV_neg e, ih]
theorem valV_snoc (k j : κ) (y : V) : ∀ kvs : List (κ × V), valV kvs k = none → valV (kvs ++ [(k, y)]) j = if j = k then some y else valV kvs j
  | [], _ => by
    by_cases e : k = j
    · rw [if_pos e.symm]; exact valV_pos (p := (k, y)) e
    · rw [if_neg (fun z => e z.symm)]; exact valV_neg (p := (k, y)) e
  | p :: r, hn => by
    rw [List.cons_append]
    have hk : ¬ p.1 = k := fun z => by rw [valV_pos z] at hn; cases hn
    rw [valV_neg hk] at hn
    have ih := valV_snoc k j y r hn
    by_cases e : p.1 = j
    · rw [valV_pos e, valV_pos e, if_neg (fun z => hk (e.trans z))]
    · rw [valV_neg e, valV_neg e, ih]
theorem valV_put (kvs : List (κ × V)) (k j : κ) (y : V) : valV (putK kvs k y) j = if j = k then some y else valV kvs j := by
  unfold putK
  by_cases a : (kvs.any fun kv => decide (kv.1 = k)) = true
  · rw [if_pos a, valV_map]
    rw [valV_any] at a
    by_cases e : j = k
    · obtain ⟨x, hx⟩ := Option.isSome_iff_exists.mp a
      rw [if_pos e, e, hx, Option.map_some, if_pos rfl]
    · rw [if_neg e]
      cases valV kvs j with
      | none => rfl
      | some x => rw [Option.map_some, if_neg e]
  · rw [if_neg a]
    refine valV_snoc k j y kvs ?_
    rw [valV_any] at a
    cases q : valV kvs k with
    | none => rfl
    | some x => rw [q] at a; exact (a rfl).elim
theorem length_putK (kvs : List (κ × V)) (k : κ) (v : V) : (putK kvs k v).length ≤ kvs.length + 1 := by
  unfold putK
  split
  · rw [List.length_map]; omega
  · rw [List.length_append, List.length_cons, List.length_nil]; omega
theorem putK_new {kvs : List (κ × V)} {k : κ} (v : V) (h : valV kvs k = none) : putK kvs k v = kvs ++ [(k, v)] := by
  unfold putK
  rw [valV_any, h]
  exact if_neg (by decide)

theorem RelO.isSome_eq {o : Option V} {u : Option Value} (r : RelO o u) : o.isSome = u.isSome := by
  cases o with
  | none => cases u with
    | none => rfl
    | some _ => exact (show False from r).elim
  | some _ => cases u with
    | none => exact (show False from r).elim
    | some _ => rfl

theorem KV.val {kvs : List (κ × V)} {vs : List (κ × Value)} (r : KV kvs vs) (k : κ) : RelO (valV kvs k) (valueAt vs k) := by
  unfold KV at r
  induction r with
  | nil => exact True.intro
  | @cons p q ps qs h t ih =>
    obtain ⟨h1, h2⟩ := h
    by_cases e : p.1 = k
    · have e' : q.1 = k := h1.symm.trans e
      have b : valueAt (q :: qs) k = some q.2 := by simp [valueAt, List.find?_cons, e']
      rw [valV_pos e, b]; exact h2
    · have e' : ¬ q.1 = k := fun z => e (h1.trans z)
      have b : valueAt (q :: qs) k = valueAt qs k := by simp [valueAt, List.find?_cons, e']
      rw [valV_neg e, b]; exact ih
theorem KV.any {kvs : List (κ × V)} {vs : List (κ × Value)} (r : KV kvs vs) (k : κ) : (kvs.any fun kv => decide (kv.1 = k)) = vs.any fun kv => decide (kv.1 = k) := by
  unfold KV at r
  induction r with
  | nil => rfl
  | cons h t ih => rw [List.any_cons, List.any_cons, ih, h.1]
theorem KV.repl {kvs : List (κ × V)} {vs : List (κ × Value)} (r : KV kvs vs) (k : κ) {y : V} {u : Value} (ry : RelV y u) :
    KV (kvs.map fun kv => if kv.1 = k then (kv.1, y) else kv) (vs.map fun kv => if kv.1 = k then (kv.1, u) else kv) := by
  unfold KV at r ⊢
  induction r with
  | nil => exact .nil
  | @cons p q ps qs h t ih =>
    rw [List.map_cons, List.map_cons]
    refine .cons ?_ ih
    obtain ⟨h1, h2⟩ := h
    by_cases e : p.1 = k
    · rw [if_pos e, if_pos (h1.symm.trans e)]; exact ⟨h1, ry⟩
    · rw [if_neg e, if_neg (fun z => e (h1.trans z))]; exact ⟨h1, h2⟩
theorem KV.put {kvs : List (κ × V)} {vs : List (κ × Value)} (r : KV kvs vs) (k : κ) {y : V} {u : Value} (ry : RelV y u) : KV (putK kvs k y) (stored vs k u) := by
  unfold putK stored
  rw [r.any k]
  by_cases e : (vs.any fun kv => decide (kv.1 = k)) = true
  · rw [if_pos e, if_pos e]; exact r.repl k ry
  · rw [if_neg e, if_neg e]; exact Paired.snoc r ⟨rfl, ry⟩
theorem KV.length {kvs : List (κ × V)} {vs : List (κ × Value)} (r : KV kvs vs) : kvs.length = vs.length := Paired.length r
end


theorem kV_is {P : Program} {w : World} {k : Key} {u : Value} (r : RelV (kV k) u) : (mixKind P w).is k u = true := by
  cases k with
  | inl i => obtain ⟨t, e⟩ := (show ∃ t, u = Value.int i t from r); subst e; exact mixKind_int P w i t
  | inr x => obtain ⟨t, e⟩ := (show ∃ t, u = Value.str x t from r); subst e; exact mixKind_str P w x t
theorem items_are {P : Program} {w : World} : ∀ {ks : List Key} {us : List Value}, Vals (ks.map kV) us → ItemsAre (mixKind P w) ks us
  | [], _, r => by rw [List.map_nil] at r; cases r; exact .nil
  | k :: ks, _, r => by
    rw [List.map_cons] at r
    cases r with
    | cons h t => exact .cons (kV_is h) (items_are t)

noncomputable abbrev KT (H : Hp) : List (List Key × V) → List (List Key × Addr × Value) → Prop := Paired fun p q => p.1 = q.1 ∧ H q.2.1 = some (.tup (p.1.map kV)) ∧ RelV p.2 q.2.2
theorem KT.val {H : Hp} {kvs : List (List Key × V)} {xs : List (List Key × Addr × Value)} (r : KT H kvs xs) (k : List Key) : RelO (valV kvs k) ((atKey xs k).map (·.2)) := by
  induction r with
  | nil => exact True.intro
  | @cons p q ps qs h t ih =>
    obtain ⟨h1, _, h2⟩ := h
    by_cases e : p.1 = k
    · have e' : q.1 = k := h1.symm.trans e
      have b : atKey (q :: qs) k = some q.2 := by simp [atKey, List.find?_cons, e']
      rw [valV_pos e, b]; exact h2
    · have e' : ¬ q.1 = k := fun z => e (h1.trans z)
      have b : atKey (q :: qs) k = atKey qs k := by simp [atKey, List.find?_cons, e']
      rw [valV_neg e, b]; exact ih
theorem KT.repl {H : Hp} {kvs : List (List Key × V)} {xs : List (List Key × Addr × Value)} (r : KT H kvs xs) (k : List Key) {y : V} {u : Value} (ry : RelV y u) :
    KT H (kvs.map fun kv => if kv.1 = k then (kv.1, y) else kv) (xs.map (putAt k u)) := by
  induction r with
  | nil => exact .nil
  | @cons p q ps qs h t ih =>
    rw [List.map_cons, List.map_cons]
    refine .cons ?_ ih
    obtain ⟨h1, h2, h3⟩ := h
    unfold putAt
    by_cases e : p.1 = k
    · rw [if_pos e, if_pos (h1.symm.trans e)]; exact ⟨h1, h2, ry⟩
    · rw [if_neg e, if_neg (fun z => e (h1.trans z))]; exact ⟨h1, h2, h3⟩
theorem KT.put {H : Hp} {kvs : List (List Key × V)} {xs : List (List Key × Addr × Value)} (r : KT H kvs xs) (k : List Key) {b : Addr} {y : V} {u : Value} (hb : H b = some (.tup (k.map kV))) (ry : RelV y u) :
    KT H (putK kvs k y) (storedH xs k b u) := by
  have e : (kvs.any fun kv => decide (kv.1 = k)) = (atKey xs k).isSome := by
    rw [valV_any, (r.val k).isSome_eq, Option.isSome_map]
  unfold putK storedH
  rw [e]
  by_cases q : (atKey xs k).isSome = true
  · rw [if_pos q, if_pos q]; exact r.repl k ry
  · rw [if_neg q, if_neg q]; exact Paired.snoc r ⟨rfl, hb, ry⟩
theorem KT.keeps {H H' : Hp} {kvs : List (List Key × V)} {xs : List (List Key × Addr × Value)} (r : KT H kvs xs) (ht : ∀ b ys, H b = some (.tup ys) → H' b = some (.tup ys)) : KT H' kvs xs :=
  Paired.mapP r fun _ _ z => ⟨z.1, ht _ _ z.2.1, z.2.2⟩

section
variable {P : Program} {w : World} {H : Hp} {h : Heap} {a : Addr}
theorem rd_of {u : HO} (ok : HOk P w H h) (e : Rd H a u) : ObjOk P w H h a u := e.ok ok
theorem dk_rd {kvs : List (Key × V)} (ok : HOk P w H h) (e : Rd H a (.dK kvs)) : kvs.length ≤ sizeLine ∧ (a == sysModules) = false ∧ ∃ vs, KV kvs vs ∧ h.DictOf (mixKind P w) a vs :=
  show ObjOk P w H h a (.dK kvs) from rd_of ok e
theorem dk_of {kvs : List (Key × V)} (ok : HOk P w H h) (e : H a = some (.dK kvs)) : kvs.length ≤ sizeLine ∧ (a == sysModules) = false ∧ ∃ vs, KV kvs vs ∧ h.DictOf (mixKind P w) a vs := dk_rd ok (.inl e)
theorem key_of {ks : List Key} (ok : HOk P w H h) (e : H a = some (.tup (ks.map kV))) : (tupleKind (mixKind P w)).is h ks a := by
  obtain ⟨_, its, r, o, h1, h2, n, h3⟩ := (show ObjOk P w H h a (.tup (ks.map kV)) from ok a _ e)
  exact ⟨o, its.toArray, n, h1, h2, h3, by simpa using items_are r⟩
theorem dt_rd {kvs : List (List Key × V)} (ok : HOk P w H h) (e : Rd H a (.dT kvs)) : kvs.length ≤ sizeLine ∧ (a == sysModules) = false ∧
    ∃ xs, KT H kvs xs ∧ h.DictOfH (tupleKind (mixKind P w)) a xs := by
  obtain ⟨z, y, xs, r, o, es, ep, h1, h2, h3, h4, h5⟩ := (show ObjOk P w H h a (.dT kvs) from rd_of ok e)
  refine ⟨z, y, xs, r, o, es, ep, h1, h2, h3, h4, fun x hx => ?_, h5⟩
  have all : ∀ {l : List (List Key × V)} {m : List (List Key × Addr × Value)}, KT H l m → ∀ x ∈ m, (tupleKind (mixKind P w)).is h x.1 x.2.1 := by
    intro l m q
    induction q with
    | nil => intro x hx; exact nomatch hx
    | @cons p q ps qs hq t ih =>
      intro x hx
      rcases List.mem_cons.mp hx with e | hx
      · subst e
        exact key_of ok (by rw [← hq.1]; exact hq.2.1)
      · exact ih x hx
  exact all r x hx
theorem dt_of {kvs : List (List Key × V)} (ok : HOk P w H h) (e : H a = some (.dT kvs)) : kvs.length ≤ sizeLine ∧ (a == sysModules) = false ∧
    ∃ xs, KT H kvs xs ∧ h.DictOfH (tupleKind (mixKind P w)) a xs := dt_rd ok (.inl e)
end

noncomputable def DGet (H : Hp) (a : Addr) (y : V) (r : Option V) : Prop :=
  (∃ kvs k, Rd H a (.dK kvs) ∧ y = kV k ∧ r = valV kvs k) ∨ ∃ kvs k b, Rd H a (.dT kvs) ∧ y = .ref b ∧ H b = some (.tup (k.map kV)) ∧ r = valV kvs k
noncomputable def DPut (H : Hp) (a : Addr) (y v : V) (H' : Hp) : Prop :=
  (∃ kvs k, H a = some (.dK kvs) ∧ y = kV k ∧ kvs.length < sizeLine ∧ H' = upd H a (.dK (putK kvs k v))) ∨
  ∃ kvs k b, H a = some (.dT kvs) ∧ y = .ref b ∧ H b = some (.tup (k.map kV)) ∧ kvs.length < sizeLine ∧ H' = upd H a (.dT (putK kvs k v))
theorem DGet.k {H : Hp} {a : Addr} {kvs : List (Key × V)} {k : Key} (e : H a = some (.dK kvs)) : DGet H a (kV k) (valV kvs k) := .inl ⟨kvs, k, .inl e, rfl, rfl⟩
theorem DPut.k {H : Hp} {a : Addr} {kvs : List (Key × V)} {k : Key} {v : V} (e : H a = some (.dK kvs)) (hl : kvs.length < sizeLine) : DPut H a (kV k) v (upd H a (.dK (putK kvs k v))) := .inl ⟨kvs, k, e, rfl, hl, rfl⟩


section
variable {X : Cx} {pins : List (Addr × Obj)} {σ : St} {H : Hp} {s : Shared} {a : Addr} {y v : V} {u r : Value} {o : Option V} {A : Around} {E : Value → Shared → Prop}

theorem Inv.big (I : Inv X pins σ H s) : sysModules < s.heap.objs.size := by
  have h : mainGlobals < s.heap.objs.size := (I.mod.glob.keeps I.bk).lt
  exact Nat.lt_trans (by decide) h

theorem d_getItem {Q : Value → Shared → Prop} (hu : A.units + 1 < cLine) (I : Inv X pins σ H s) (g : DGet H a y (some v)) (ry : RelV y u) (h : ∀ w' s', Inv X pins σ H s' → RelV v w' → Q w' s') :
    wpAny (model X.prog X.w) A (getItem (.ref a) u) Q E s := by
  rcases g with ⟨kvs, k, e, ey, l⟩ | ⟨kvs, k, b, e, ey, eb, l⟩
  · subst ey
    obtain ⟨z, hd, vs, rel, dd⟩ := dk_rd I.hok e
    obtain ⟨w', hw, rw'⟩ := RelO.some_of (v := v) (o := valueAt vs k) (by rw [l]; exact rel.val k)
    exact wpAny_getItem_of (kV_is ry) dd.mapOf hw (h w' _ (I.tok _) rw')
  · subst ey
    cases (show u = Value.ref b from ry)
    obtain ⟨z, hd, xs, rel, dd⟩ := dt_rd I.hok e
    obtain ⟨w', hw, rw'⟩ := RelO.some_of (v := v) (o := (atKey xs k).map (·.2)) (by rw [l]; exact rel.val k)
    obtain ⟨p, hp, hp2⟩ := Option.map_eq_some_iff.mp hw
    refine wpAny_getItem_heap (tupleKind_room_in1 hu) (key_of I.hok eb) dd hp ?_
    rw [hp2]
    exact h w' _ (I.tok _) rw'
theorem d_in {Q : Value → Shared → Prop} (hu : A.units + 1 < cLine) (I : Inv X pins σ H s) (g : DGet H a y o) (ry : RelV y u) (h : ∀ s', Inv X pins σ H s' → Q (.bool o.isSome) s') :
    wpAny (model X.prog X.w) A (compareOp .In u (.ref a)) Q E s := by
  rcases g with ⟨kvs, k, e, ey, l⟩ | ⟨kvs, k, b, e, ey, eb, l⟩
  · subst ey
    obtain ⟨z, hd, vs, rel, dd⟩ := dk_rd I.hok e
    refine wpAny_in_of (kV_is ry) hd dd.mapOf ?_
    rw [← (rel.val k).isSome_eq, ← l]
    exact h _ (I.tok _)
  · subst ey
    cases (show u = Value.ref b from ry)
    obtain ⟨z, hd, xs, rel, dd⟩ := dt_rd I.hok e
    refine wpAny_in_heap (tupleKind_room_in1 hu) (key_of I.hok eb) hd dd ?_
    have q := (rel.val k).isSome_eq
    rw [Option.isSome_map] at q
    rw [← q, ← l]
    exact h _ (I.tok _)
theorem d_notIn {Q : Value → Shared → Prop} (hu : A.units + 1 < cLine) (I : Inv X pins σ H s) (g : DGet H a y o) (ry : RelV y u) (h : ∀ s', Inv X pins σ H s' → Q (.bool (!o.isSome)) s') :
    wpAny (model X.prog X.w) A (compareOp .NotIn u (.ref a)) Q E s := by
  rcases g with ⟨kvs, k, e, ey, l⟩ | ⟨kvs, k, b, e, ey, eb, l⟩
  · subst ey
    obtain ⟨z, hd, vs, rel, dd⟩ := dk_rd I.hok e
    refine wpAny_notIn_of (kV_is ry) hd dd.mapOf ?_
    rw [← (rel.val k).isSome_eq, ← l]
    exact h _ (I.tok _)
  · subst ey
    cases (show u = Value.ref b from ry)
    obtain ⟨z, hd, xs, rel, dd⟩ := dt_rd I.hok e
    refine wpAny_notIn_heap (tupleKind_room_in1 hu) (key_of I.hok eb) hd dd ?_
    have q := (rel.val k).isSome_eq
    rw [Option.isSome_map] at q
    rw [← q, ← l]
    exact h _ (I.tok _)
theorem d_write {h' : Heap} {t' : Nat} {ob : HO} (I : Inv X pins σ H s) (mu : Mut (H a)) (hs : Heap.SameBut a s.heap h') (he : ∃ q, h'.get? a = some q) (new : ObjOk X.prog X.w (upd H a ob) h' a ob) :
    Inv X pins σ (upd H a ob) { s with heap := h', toks := t' } :=
  I.write (x := a) (e := a) mu (.inl rfl) (fun b q hb z => (hs.2 b hb).trans z) he new
theorem dk_new {P : Program} {w : World} {H' : Hp} {h' : Heap} {kvs : List (Key × V)} {vs : List (Key × Value)} (z : kvs.length ≤ sizeLine) (hd : (a == sysModules) = false) (rel : KV kvs vs) (dd : h'.DictOf (mixKind P w) a vs) :
    ObjOk P w H' h' a (.dK kvs) := ⟨z, hd, vs, rel, dd⟩
theorem d_setItem {H' : Hp} {Q : Unit → Shared → Prop} (hu : A.units + 1 < cLine) (I : Inv X pins σ H s) (g : DPut H a y v H') (ry : RelV y u) (rv : RelV v r) (h : ∀ s', Inv X pins σ H' s' → Q () s') :
    wpAny (model X.prog X.w) A (setItem (.ref a) u r) Q E s := by
  rcases g with ⟨kvs, k, e, ey, l, eH⟩ | ⟨kvs, k, b, e, ey, eb, l, eH⟩
  · subst ey eH
    obtain ⟨z, hd, vs, rel, dd⟩ := dk_of I.hok e
    have hz : vs.length ≤ sizeLine := by rw [← rel.length]; exact z
    have hl : (putK kvs k v).length ≤ sizeLine := by have := length_putK kvs k v; omega
    refine wpAny_setItem_pairs (hsz := hz) (kV_is ry) dd fun h' dd' hs => h _ ?_
    have he : ∃ q, h'.get? a = some q := let ⟨q, _, _, hq, _⟩ := dd'; ⟨q, hq⟩
    exact d_write I (by rw [e]; exact True.intro) hs he (dk_new hl hd (rel.put k rv) dd')
  · subst ey eH
    cases (show u = Value.ref b from ry)
    obtain ⟨z, hd, xs, rel, dd⟩ := dt_of I.hok e
    have hz : xs.length ≤ sizeLine := by rw [← Paired.length rel]; exact z
    have hl : (putK kvs k v).length ≤ sizeLine := by have := length_putK kvs k v; omega
    refine wpAny_setItem_heap (hsz := hz) (tupleKind_room_in1 hu) (key_of I.hok eb) dd fun h' dd' hs => h _ ?_
    obtain ⟨q, es, ep, hq, h2, h3, h4, _, h5⟩ := dd'
    refine d_write I (by rw [e]; exact True.intro) hs ⟨q, hq⟩ ⟨hl, hd, _, (rel.put k eb rv).keeps fun c ys ec => ?_, q, es, ep, hq, h2, h3, h4, h5⟩
    rw [upd_ne (ne_of ec e (fun z => nomatch z))]
    exact ec
end

section
variable {X : Cx} {pins : List (Addr × Obj)} {σ : St} {H : Hp} {s : Shared} {a : Addr} {kvs : List (Key × V)} {k : Key} {u : Value} {A : Around} {E : Value → Shared → Prop}
end


noncomputable def NoSl (i : Expr) : Prop := ∀ ov iv, subscripted i false ov iv = operate [ov, iv] (getItem ov iv)
theorem subD_of {prog : Program} {w : World} {A : Around} {E : Value → Shared → Prop} {s : Shared} {env : Env} {value slice : Expr} {pos : Pos} {T id : String} {Q : Value → Shared → Prop}
    (hl : typeLookup (.type T) "__getitem__" = pure (some (.builtin id))) (hs : NoSl slice)
    (h : wpAny (model prog w) A (eval value env) (fun o s₁ => wpAny (model prog w) A (eval slice env) (fun i s₂ => s₂.TypeIs o T ∧ wpAny (model prog w) A (getItem o i) Q E s₂) E s₁) E s) :
    wpAny (model prog w) A (eval (.Subscript value slice pos) env) Q E s := by
  refine Subscript_ (wpAny_mono h (fun o s₁ h₁ => wpAny_mono h₁ (fun i s₂ h₂ => ?_) fun _ _ x => x) fun _ _ x => x)
  obtain ⟨hT, h₂⟩ := h₂
  unfold subscriptTail
  refine wpAny_bind ?_
  rw [getitemInPython_of_ne hT.not_modules]
  refine wpAny_bind (wpAny_specialOf hT hl ?_)
  have fin : wpAny (model prog w) A (subscripted slice false o i) (fun r s₃ => wpAny (model prog w) A (letTemporaryGo value o r >>= fun _ => pure r) Q E s₃) E s₂ := by
    rw [hs o i]
    exact wpAny_operating (wpAny_mono h₂ (fun r s₃ h₃ => wpAny_bind (wpAny_letTemporaryGo (wpAny_pure h₃))) fun _ _ x => x)
  first
    | exact wpAny_pure (wpAny_bind fin)
    | exact wpAny_bind (wpAny_pure (wpAny_bind fin))
    | exact wpAny_bind fin

theorem dict_typeIs {X : Cx} {pins : List (Addr × Obj)} {σ : St} {H : Hp} {s : Shared} {a : Addr} {y : V} {o : Option V} (I : Inv X pins σ H s) (g : DGet H a y o) : s.TypeIs (.ref a) "dict" := by
  rcases g with ⟨kvs, k, e, _, _⟩ | ⟨kvs, k, b, e, _, _, _⟩
  · obtain ⟨_, _, vs, _, dd⟩ := dk_rd I.hok e
    exact dd.typeIs
  · obtain ⟨_, _, xs, _, dd⟩ := dt_rd I.hok e
    exact dd.typeIs

inductive J_tDGet (Q : VK) (x : V) (y : V) (H2 : Hp) : Prop
  | mk : ∀ a v, (x = .ref a) → (DGet H2 a y (some v)) → (Q v H2) → J_tDGet Q x y H2
noncomputable def tDGet (td ty : TE) : TE := fun σ H Q => td σ H fun x H1 => ty σ H1 fun y H2 => J_tDGet Q x y H2
inductive J_tDIn (Q : VK) (y : V) (x : V) (H2 : Hp) : Prop
  | mk : ∀ a o, (x = .ref a) → (DGet H2 a y o) → (Q (.bl o.isSome) H2) → J_tDIn Q y x H2
noncomputable def tDIn (ty td : TE) : TE := fun σ H Q => ty σ H fun y H1 => td σ H1 fun x H2 => J_tDIn Q y x H2
inductive J_tDNotIn (Q : VK) (y : V) (x : V) (H2 : Hp) : Prop
  | mk : ∀ a o, (x = .ref a) → (DGet H2 a y o) → (Q (.bl (!o.isSome)) H2) → J_tDNotIn Q y x H2
noncomputable def tDNotIn (ty td : TE) : TE := fun σ H Q => ty σ H fun y H1 => td σ H1 fun x H2 => J_tDNotIn Q y x H2
inductive J_sDPut (D : Ends) (σ : St) (v : V) (x : V) (y : V) (H3 : Hp) : Prop
  | mk : ∀ a H4, (x = .ref a) → (DPut H3 a y v H4) → (D.nx σ H4) → J_sDPut D σ v x y H3
noncomputable def sDPut (td ty tv : TE) : TS := fun D σ H => tv σ H fun v H1 => td σ H1 fun x H2 => ty σ H2 fun y H3 => J_sDPut D σ v x y H3

section
variable {X : Cx} {o i e value : Expr} {pos pos' tpos : Pos} {td ty tv : TE}
theorem pe_dget (hu : X.A.units + 1 < cLine) (ho : PE X o td) (hi : PE X i ty) (hs : NoSl i) : PE X (.Subscript o i pos) (tDGet td ty) := by
  intro pins s σ H Q I h
  refine subD_of PySem.F.slot_dict_getitem.lookup hs (thn (ho pins s σ H _ I h) fun u s1 ⟨x, H1, I1, rx, q1⟩ => thn (hi pins s1 σ H1 _ I1 q1) fun iv s2 ⟨y, H2, I2, ry, a, v, ex, g, q2⟩ => ?_)
  subst ex
  obtain rfl : u = Value.ref a := rx
  exact ⟨dict_typeIs I2 g, d_getItem hu I2 g ry fun w' s3 I3 rw' => ⟨v, H2, I3, rw', q2⟩⟩
theorem pc_din (hu : X.A.units + 1 < cLine) (hi : PE X i ty) (ho : PE X o td) : PC X .In i o (tDIn ty td) := by
  intro pins s σ H Q I h
  refine thn (hi pins s σ H _ I h) fun iv s1 ⟨y, H1, I1, ry, q1⟩ => thn (ho pins s1 σ H1 _ I1 q1) fun u s2 ⟨x, H2, I2, rx, a, ov, ex, g, q2⟩ => ?_
  subst ex
  obtain rfl : u = Value.ref a := rx
  exact d_in hu I2 g ry fun s3 I3 => ⟨.bl ov.isSome, H2, I3, rfl, q2⟩
theorem pc_dnotin (hu : X.A.units + 1 < cLine) (hi : PE X i ty) (ho : PE X o td) : PC X .NotIn i o (tDNotIn ty td) := by
  intro pins s σ H Q I h
  refine thn (hi pins s σ H _ I h) fun iv s1 ⟨y, H1, I1, ry, q1⟩ => thn (ho pins s1 σ H1 _ I1 q1) fun u s2 ⟨x, H2, I2, rx, a, ov, ex, g, q2⟩ => ?_
  subst ex
  obtain rfl : u = Value.ref a := rx
  exact d_notIn hu I2 g ry fun s3 I3 => ⟨.bl (!ov.isSome), H2, I3, rfl, q2⟩
theorem ps_dput (hu : X.A.units + 1 < cLine) (ho : PE X o td) (hi : PE X i ty) (hv : PE X value tv) (hs : swapsWith value (some (.Subscript o i pos')) pos.line X.env = pure false) :
    PS X (.Assign [.Subscript o i pos'] value pos) (sDPut td ty tv) := by
  intro pins s σ H D I h
  refine wpAny_Assign_Subscript (thn (hv pins s σ H _ I h) fun r s1 ⟨v, H1, I1, rv, q1⟩ => thn (ho pins s1 σ H1 _ I1 q1) fun u s2 ⟨x, H2, I2, rx, q2⟩ => thn (hi pins s2 σ H2 _ I2 q2) fun iv s3 ⟨y, H3, I3, ry, a, H4, ex, g, q3⟩ => ?_) hs
  subst ex
  obtain rfl : u = Value.ref a := rx
  exact d_setItem hu I3 g ry rv fun s4 I4 => ⟨σ, H4, I4, q3⟩
end


theorem dk_empty {P : Program} {w : World} {H : Hp} (h : Heap) (hb : sysModules < h.objs.size) : ObjOk P w H (h.push { cls := .type "dict", data := .dict #[] }) h.objs.size (.dK []) :=
  ⟨Nat.zero_le _, beq_eq_false_iff_ne.mpr (Ne.symm (Nat.ne_of_lt hb)), [], .nil, Heap.DictOf.new h⟩
noncomputable def tDNewK : TE := fun _ H Q => ∀ p, H p = none → Q (.ref p) (upd H p (.dK []))
section
variable {X : Cx} {pos : Pos}
theorem pe_dnewK : PE X (.Dict [] [] pos) tDNewK := fun pins s σ H Q I h =>
  wpAny_Dict_empty ⟨.ref s.heap.objs.size, _, I.laid (a := s.heap.objs.size) (o := .dK []) (t' := s.toks) (fun _ _ q => Heap.get?_push_of_some _ q) (Nat.le_refl _) (dk_empty s.heap I.big), rfl, h _ (I.hok.fresh (Nat.le_refl _))⟩
end


noncomputable def mergeK (kvs more : List (Key × V)) : List (Key × V) := more.foldl (fun acc kv => putK acc kv.1 kv.2) kvs
theorem KV.merge : ∀ {more : List (Key × V)} {rs : List (Key × Value)} {kvs : List (Key × V)} {vs : List (Key × Value)}, KV more rs → KV kvs vs → KV (mergeK kvs more) (merged vs rs) := by
  intro more rs kvs vs r
  unfold KV at r
  induction r generalizing kvs vs with
  | nil => intro q; exact q
  | @cons p q ps qs h t ih =>
    intro r0
    have e : KV (putK kvs p.1 p.2) (stored vs q.1 q.2) := by
      have := r0.put p.1 h.2
      rw [← h.1]; exact this
    exact ih e
theorem length_mergeK : ∀ (more kvs : List (Key × V)), (mergeK kvs more).length ≤ kvs.length + more.length
  | [], kvs => by show kvs.length ≤ kvs.length + 0; omega
  | p :: r, kvs => by
    have h1 := length_mergeK r (putK kvs p.1 p.2)
    have h2 := length_putK kvs p.1 p.2
    show (mergeK (putK kvs p.1 p.2) r).length ≤ _
    rw [List.length_cons]; omega


structure M2 (X : Cx) (o : Expr) (m : Str) (apos : Pos) (e f : Expr) (cpos : Pos) : Prop where
  base : attributeBase o m X.env (eval o X.env) = eval o X.env
  few : ((backTo cpos (starEach [e, f] X.env)).all (fun x => !x.1) && (backToKw cpos (keywordEach [] X.env)).all (fun x => x.1.isSome)
    && decide (([e, f] : List Expr).length + ([] : List Keyword).length + (if ([] : List Keyword).isEmpty then 0 else 1) < 30)) = true
  line : (apos.endLine == cpos.line) = true
  trees : backTo cpos (starEach [e, f] X.env) = [(false, eval e X.env), (false, eval f X.env)]


section
variable {X : Cx} {pins : List (Addr × Obj)} {σ : St} {H : Hp} {s : Shared} {a : Addr} {y d : V} {u r : Value} {o : Option V} {A : Around} {E : Value → Shared → Prop}
end

section
variable {X : Cx} {o e f : Expr} {apos cpos : Pos} {td ty tx : TE}
end

section
variable {X : Cx} {pins : List (Addr × Obj)} {σ : St} {H : Hp} {s : Shared} {a : Addr} {kvs : List (Key × V)} {A : Around} {E : Value → Shared → Prop}
end


section
variable {X : Cx} {pins : List (Addr × Obj)} {σ : St} {H : Hp} {s : Shared} {a : Addr} {y : V} {u : Value} {A : Around} {E : Value → Shared → Prop}
end
end L2
namespace L2
open PySem PySem.Spec PyProof.Rows
section
variable {X : Cx}
end
end L2
namespace L2
open PySem PySem.Spec PyProof.Rows

inductive D where
  | non | int (i : Int) | str (x : Str) | tup (ds : List D) | lst (ds : List D)
noncomputable instance : DecidableEq D := fun _ _ => Classical.propDecidable _
mutual
noncomputable def D.deep : D → Nat
  | .tup ds => D.deeps ds + 1
  | .lst ds => D.deeps ds + 1
  | .non => 0
  | .int _ => 0
  | .str _ => 0
noncomputable def D.deeps : List D → Nat
  | [] => 0
  | d :: ds => max d.deep (D.deeps ds)
end
theorem deeps_le : ∀ {ds : List D} {d : D}, d ∈ ds → d.deep ≤ D.deeps ds
  | e :: ds, d, h => by
    rw [D.deeps]
    rcases List.mem_cons.mp h with rfl | h
    · omega
    · have := deeps_le h; omega
mutual
noncomputable def DenR (h : Heap) : D → Value → Prop
  | .non, u => u = Value.none
  | .int i, u => (∃ t, u = Value.int i t) ∨ ∃ b, u = Value.bool b ∧ i = (if b then 1 else 0)
  | .str x, u => ∃ t, u = Value.str x t
  | .tup ds, u => ∃ a us, u = Value.ref a ∧ h.IsTuple a us.toArray ∧ DenRs h ds us
  | .lst ds, u => ∃ a us, u = Value.ref a ∧ h.IsList a us.toArray ∧ DenRs h ds us
noncomputable def DenRs (h : Heap) : List D → List Value → Prop
  | [], us => us = []
  | d :: ds, us => ∃ u us', us = u :: us' ∧ DenR h d u ∧ DenRs h ds us'
end
mutual
noncomputable def Den (H : Hp) : D → V → Prop
  | .non, v => v = .non
  | .int i, v => v = .int i ∨ ∃ b, v = .bl b ∧ i = (if b then 1 else 0)
  | .str x, v => v = .str x
  | .tup ds, v => ∃ a vs, v = .ref a ∧ H a = some (.tup vs) ∧ Dens H ds vs
  | .lst ds, v => ∃ a vs, v = .ref a ∧ H a = some (.lst vs) ∧ Dens H ds vs
noncomputable def Dens (H : Hp) : List D → List V → Prop
  | [], vs => vs = []
  | d :: ds, vs => ∃ v vs', vs = v :: vs' ∧ Den H d v ∧ Dens H ds vs'
end
theorem denRs_len {h : Heap} : ∀ {ds : List D} {us : List Value}, DenRs h ds us → us.length = ds.length
  | [], us, r => by rw [DenRs] at r; subst r; rfl
  | d :: ds, us, r => by
    rw [DenRs] at r
    obtain ⟨u, us', rfl, _, r⟩ := r
    rw [List.length_cons, List.length_cons, denRs_len r]
theorem denRs_at {h : Heap} : ∀ {ds : List D} {us : List Value} {j : Nat} {d : D}, DenRs h ds us → ds[j]? = some d → ∃ u, us[j]? = some u ∧ DenR h d u
  | [], us, j, d, r, e => by simp at e
  | c :: ds, us, 0, d, r, e => by
    rw [DenRs] at r
    obtain ⟨u, us', rfl, r1, _⟩ := r
    simp at e; subst e
    exact ⟨u, rfl, r1⟩
  | c :: ds, us, j + 1, d, r, e => by
    rw [DenRs] at r
    obtain ⟨u, us', rfl, _, r⟩ := r
    obtain ⟨u', e', r'⟩ := denRs_at (j := j) (d := d) r (by simpa using e)
    exact ⟨u', by simpa using e', r'⟩
theorem dens_cons {H : Hp} {d : D} {v : V} {ds : List D} {vs : List V} (r : Den H d v) (q : Dens H ds vs) : Dens H (d :: ds) (v :: vs) := by
  rw [Dens]; exact ⟨v, vs, rfl, r, q⟩
theorem dens_nil {H : Hp} : Dens H [] [] := by rw [Dens]
mutual
theorem den_keep {H H' : Hp} (k : ∀ a vs, (H a = some (.tup vs) → H' a = some (.tup vs)) ∧ (H a = some (.lst vs) → H' a = some (.lst vs))) : ∀ {d : D} {v : V}, Den H d v → Den H' d v
  | .non, v, r => by rw [Den] at r ⊢; exact r
  | .int i, v, r => by rw [Den] at r ⊢; exact r
  | .str x, v, r => by rw [Den] at r ⊢; exact r
  | .tup ds, v, r => by
    rw [Den] at r ⊢
    obtain ⟨a, vs, rfl, e, r⟩ := r
    exact ⟨a, vs, rfl, (k a vs).1 e, dens_keep k r⟩
  | .lst ds, v, r => by
    rw [Den] at r ⊢
    obtain ⟨a, vs, rfl, e, r⟩ := r
    exact ⟨a, vs, rfl, (k a vs).2 e, dens_keep k r⟩
theorem dens_keep {H H' : Hp} (k : ∀ a vs, (H a = some (.tup vs) → H' a = some (.tup vs)) ∧ (H a = some (.lst vs) → H' a = some (.lst vs))) : ∀ {ds : List D} {vs : List V}, Dens H ds vs → Dens H' ds vs
  | [], vs, r => by rw [Dens] at r ⊢; exact r
  | d :: ds, vs, r => by
    rw [Dens] at r ⊢
    obtain ⟨v, vs', rfl, r1, r⟩ := r
    exact ⟨v, vs', rfl, den_keep k r1, dens_keep k r⟩
end
theorem den_same {H H' : Hp} {d : D} {v : V} (sm : Same H H') (r : Den H d v) : Den H' d v := den_keep (fun a vs => ⟨sm _ _, sm _ _⟩) r
theorem dens_same {H H' : Hp} {d : List D} {v : List V} (sm : Same H H') (r : Dens H d v) : Dens H' d v := dens_keep (fun a vs => ⟨sm _ _, sm _ _⟩) r
mutual
noncomputable def D.noL : D → Bool
  | .tup ds => D.noLs ds
  | .lst _ => false
  | .non => true
  | .int _ => true
  | .str _ => true
noncomputable def D.noLs : List D → Bool
  | [] => true
  | d :: ds => d.noL && D.noLs ds
end
mutual
theorem den_keepT {H H' : Hp} (k : ∀ a vs, H a = some (.tup vs) → H' a = some (.tup vs)) : ∀ {d : D} {v : V}, d.noL = true → Den H d v → Den H' d v
  | .non, v, _, r => by rw [Den] at r ⊢; exact r
  | .int i, v, _, r => by rw [Den] at r ⊢; exact r
  | .str x, v, _, r => by rw [Den] at r ⊢; exact r
  | .tup ds, v, n, r => by
    rw [D.noL] at n
    rw [Den] at r ⊢
    obtain ⟨a, vs, rfl, e, r⟩ := r
    exact ⟨a, vs, rfl, k a vs e, dens_keepT k n r⟩
  | .lst ds, v, n, r => by rw [D.noL] at n; cases n
theorem dens_keepT {H H' : Hp} (k : ∀ a vs, H a = some (.tup vs) → H' a = some (.tup vs)) : ∀ {ds : List D} {vs : List V}, D.noLs ds = true → Dens H ds vs → Dens H' ds vs
  | [], vs, _, r => by rw [Dens] at r ⊢; exact r
  | d :: ds, vs, n, r => by
    rw [D.noLs, Bool.and_eq_true] at n
    rw [Dens] at r ⊢
    obtain ⟨v, vs', rfl, r1, r⟩ := r
    exact ⟨v, vs', rfl, den_keepT k n.1 r1, dens_keepT k n.2 r⟩
end
mutual
theorem den_raw {P : Program} {w : World} {H : Hp} {h : Heap} (ok : HOk P w H h) : ∀ {d : D} {v : V} {u : Value}, Den H d v → RelV v u → DenR h d u
  | .non, v, u, r, q => by rw [Den] at r; subst r; rw [DenR]; exact q
  | .int i, v, u, r, q => by
    rw [Den] at r
    rw [DenR]
    rcases r with rfl | ⟨b, rfl, e⟩
    · exact .inl q
    · exact .inr ⟨b, q, e⟩
  | .str x, v, u, r, q => by rw [Den] at r; subst r; rw [DenR]; exact q
  | .tup ds, v, u, r, q => by
    rw [Den] at r
    obtain ⟨a, vs, rfl, e, r⟩ := r
    rw [DenR]
    obtain ⟨_, its, rv, p⟩ := (show ObjOk P w H h a (.tup vs) from ok a _ e)
    exact ⟨a, its, q, p, dens_raw ok r rv⟩
  | .lst ds, v, u, r, q => by
    rw [Den] at r
    obtain ⟨a, vs, rfl, e, r⟩ := r
    rw [DenR]
    obtain ⟨_, its, n, rv, p⟩ := (show ObjOk P w H h a (.lst vs) from ok a _ e)
    exact ⟨a, its, q, ⟨_, p, rfl, n, rfl⟩, dens_raw ok r rv⟩
theorem dens_raw {P : Program} {w : World} {H : Hp} {h : Heap} (ok : HOk P w H h) : ∀ {ds : List D} {vs : List V} {us : List Value}, Dens H ds vs → Vals vs us → DenRs h ds us
  | [], vs, us, r, q => by rw [Dens] at r; subst r; cases q; rw [DenRs]
  | d :: ds, vs, us, r, q => by
    rw [Dens] at r
    obtain ⟨v, vs', rfl, r1, r⟩ := r
    cases q with
    | cons q1 q2 =>
      rw [DenRs]
      exact ⟨_, _, rfl, den_raw ok r1 q1, dens_raw ok r q2⟩
end
theorem tup_seq {h : Heap} {a : Addr} {x y : Array Value} (p : h.IsTuple a x) (q : h.IsTuple a y) : x = y := by
  obtain ⟨o, e, _, n, d⟩ := p
  obtain ⟨o', e', _, n', d'⟩ := q
  rw [e] at e'; cases e'
  rw [d] at d'
  injection d'
theorem lst_seq {h : Heap} {a : Addr} {x y : Array Value} (p : h.IsList a x) (q : h.IsList a y) : x = y := by
  obtain ⟨o, e, _, n, d⟩ := p
  obtain ⟨o', e', _, n', d'⟩ := q
  rw [e] at e'; cases e'
  rw [d] at d'
  injection d'
theorem lst_tup {h : Heap} {a : Addr} {x y : Array Value} (p : h.IsList a x) (q : h.IsTuple a y) : False := by
  obtain ⟨o, e, c, n, d⟩ := p
  obtain ⟨o', e', c', n', d'⟩ := q
  rw [e] at e'; cases e'
  rw [c] at c'
  exact absurd (Value.type.inj c') (by decide)
mutual
theorem denR_inj {h : Heap} : ∀ {d e : D} {u : Value}, DenR h d u → DenR h e u → d = e
  | .non, e, u, r, q => by
    rw [DenR] at r; subst r
    cases e with
    | non => rfl
    | int i => rw [DenR] at q; rcases q with ⟨t, z⟩ | ⟨b, z, _⟩ <;> cases z
    | str x => rw [DenR] at q; obtain ⟨t, z⟩ := q; cases z
    | tup es => rw [DenR] at q; obtain ⟨a, us, z, _⟩ := q; cases z
    | lst es => rw [DenR] at q; obtain ⟨a, us, z, _⟩ := q; cases z
  | .int i, e, u, r, q => by
    rw [DenR] at r
    cases e with
    | non => rw [DenR] at q; subst q; rcases r with ⟨t, z⟩ | ⟨b, z, _⟩ <;> cases z
    | int j =>
      rw [DenR] at q
      rcases r with ⟨t, rfl⟩ | ⟨b, rfl, hb⟩ <;> rcases q with ⟨t', z⟩ | ⟨b', z, hb'⟩ <;> cases z
      · rfl
      · rw [hb, hb']
    | str x => rw [DenR] at q; obtain ⟨t, rfl⟩ := q; rcases r with ⟨t, z⟩ | ⟨b, z, _⟩ <;> cases z
    | tup es => rw [DenR] at q; obtain ⟨a, us, rfl, _⟩ := q; rcases r with ⟨t, z⟩ | ⟨b, z, _⟩ <;> cases z
    | lst es => rw [DenR] at q; obtain ⟨a, us, rfl, _⟩ := q; rcases r with ⟨t, z⟩ | ⟨b, z, _⟩ <;> cases z
  | .str x, e, u, r, q => by
    rw [DenR] at r
    obtain ⟨t, rfl⟩ := r
    cases e with
    | non => rw [DenR] at q; cases q
    | int i => rw [DenR] at q; rcases q with ⟨t, z⟩ | ⟨b, z, _⟩ <;> cases z
    | str x => rw [DenR] at q; obtain ⟨t, z⟩ := q; cases z; rfl
    | tup es => rw [DenR] at q; obtain ⟨a, us, z, _⟩ := q; cases z
    | lst es => rw [DenR] at q; obtain ⟨a, us, z, _⟩ := q; cases z
  | .tup ds, e, u, r, q => by
    rw [DenR] at r
    obtain ⟨a, us, rfl, p, r⟩ := r
    cases e with
    | non => rw [DenR] at q; cases q
    | int i => rw [DenR] at q; rcases q with ⟨t, z⟩ | ⟨b, z, _⟩ <;> cases z
    | str x => rw [DenR] at q; obtain ⟨t, z⟩ := q; cases z
    | tup es =>
      rw [DenR] at q; obtain ⟨a', us', z, p', q⟩ := q; cases z
      have e : us = us' := by have := tup_seq p p'; simpa using this
      subst e
      rw [denRs_inj r q]
    | lst es => rw [DenR] at q; obtain ⟨a', us', z, p', _⟩ := q; cases z; exact absurd p (fun p => lst_tup p' p)
  | .lst ds, e, u, r, q => by
    rw [DenR] at r
    obtain ⟨a, us, rfl, p, r⟩ := r
    cases e with
    | non => rw [DenR] at q; cases q
    | int i => rw [DenR] at q; rcases q with ⟨t, z⟩ | ⟨b, z, _⟩ <;> cases z
    | str x => rw [DenR] at q; obtain ⟨t, z⟩ := q; cases z
    | tup es => rw [DenR] at q; obtain ⟨a', us', z, p', _⟩ := q; cases z; exact absurd p (fun p => lst_tup p p')
    | lst es =>
      rw [DenR] at q; obtain ⟨a', us', z, p', q⟩ := q; cases z
      have e : us = us' := by have := lst_seq p p'; simpa using this
      subst e
      rw [denRs_inj r q]
theorem denRs_inj {h : Heap} : ∀ {ds es : List D} {us : List Value}, DenRs h ds us → DenRs h es us → ds = es
  | [], es, us, r, q => by
    rw [DenRs] at r; subst r
    cases es with
    | nil => rfl
    | cons e es => rw [DenRs] at q; obtain ⟨u, us', z, _⟩ := q; cases z
  | d :: ds, es, us, r, q => by
    rw [DenRs] at r
    obtain ⟨u, us', rfl, r1, r⟩ := r
    cases es with
    | nil => rw [DenRs] at q; cases q
    | cons e es =>
      rw [DenRs] at q; obtain ⟨u', us'', z, q1, q⟩ := q
      cases z
      rw [denR_inj r1 q1, denRs_inj r q]
end
theorem dec_true {p : Prop} [Decidable p] {b : Bool} (h : p ↔ b = true) : b = decide p := by
  cases b with
  | true => exact (decide_eq_true (h.mpr rfl)).symm
  | false => exact (decide_eq_false fun z => Bool.false_ne_true (h.mp z)).symm
theorem all_eq (ds es : List D) : ((List.range (min ds.length es.length)).all (fun j => decide (ds[j]? = es[j]?)) && ds.length == es.length) = decide (ds = es) := by
  refine dec_true ⟨fun h => by subst h; simp, fun h => ?_⟩
  rw [Bool.and_eq_true, List.all_eq_true] at h
  have hl : ds.length = es.length := eq_of_beq h.2
  refine List.ext_getElem? fun j => ?_
  by_cases hj : j < ds.length
  · exact of_decide_eq_true (h.1 j (List.mem_range.mpr (by omega)))
  · rw [List.getElem?_eq_none (by omega), List.getElem?_eq_none (by omega)]
theorem all_eq' (ds es : List D) (hl : ds.length = es.length) : (List.range ds.length).all (fun j => decide (ds[j]? = es[j]?)) = decide (ds = es) := by
  have := all_eq ds es
  rw [← hl, Nat.min_self] at this
  simpa using this
section
open SeqAt
variable {A : Around} {s : Shared}
theorem eqAt_cast {u v : Value} {b c : Bool} (h : EqAt A s u v b) (e : b = c) : EqAt A s u v c := e ▸ h
theorem eqAt_D : ∀ (n : Nat) {d e : D} {A : Around} {u v : Value}, d.deep ≤ n → DenR s.heap d u → DenR s.heap e v → A.units + n < cLine → EqAt A s u v (decide (d = e)) := by
  intro n
  induction n with
  | zero => ?_
  | succ n ih => ?_
  all_goals intro d e A u v hn r q hu
  all_goals have hu0 : A.units < cLine := by omega
  all_goals cases d with
    | non =>
      rw [DenR] at r; subst r
      cases e with
      | non => rw [DenR] at q; subst q; exact eqAt_cast (EqAt.same _) (decide_eq_true rfl).symm
      | int j =>
        rw [DenR] at q
        rcases q with ⟨t, rfl⟩ | ⟨b, rfl, _⟩
        · exact eqAt_cast (EqAt.none_int j t) (decide_eq_false (fun z => nomatch z)).symm
        · exact eqAt_cast (EqAt.none_bool b) (decide_eq_false (fun z => nomatch z)).symm
      | str y => rw [DenR] at q; obtain ⟨t, rfl⟩ := q; exact eqAt_cast (EqAt.none_str y t) (decide_eq_false (fun z => nomatch z)).symm
      | tup es => rw [DenR] at q; obtain ⟨a, us, rfl, p, _⟩ := q; exact eqAt_cast (EqAt.none_tuple p hu0) (decide_eq_false (fun z => nomatch z)).symm
      | lst es => rw [DenR] at q; obtain ⟨a, us, rfl, p, _⟩ := q; exact eqAt_cast (EqAt.none_list p hu0) (decide_eq_false (fun z => nomatch z)).symm
    | int i =>
      rw [DenR] at r
      cases e with
      | non =>
        rw [DenR] at q; subst q
        rcases r with ⟨t, rfl⟩ | ⟨b, rfl, _⟩
        · exact eqAt_cast (EqAt.int_none i t) (decide_eq_false (fun z => nomatch z)).symm
        · exact eqAt_cast (EqAt.bool_none b) (decide_eq_false (fun z => nomatch z)).symm
      | int j =>
        rw [DenR] at q
        have key : ∀ x y : Int, (x == y) = decide (D.int x = D.int y) := fun x y => dec_true ⟨fun z => by cases z; simp, fun z => by rw [eq_of_beq z]⟩
        rcases r with ⟨t, rfl⟩ | ⟨b, rfl, hb⟩ <;> rcases q with ⟨t', rfl⟩ | ⟨b', rfl, hb'⟩
        · exact eqAt_cast (EqAt.int_int i t j t') (key i j)
        · rw [hb']; exact eqAt_cast (EqAt.int_bool i t b') (key _ _)
        · rw [hb]; exact eqAt_cast (EqAt.bool_int b j t') (key _ _)
        · rw [hb, hb']; exact eqAt_cast (EqAt.bool_bool b b') (by rw [← key]; cases b <;> cases b' <;> rfl)
      | str y =>
        rw [DenR] at q; obtain ⟨t, rfl⟩ := q
        rcases r with ⟨t', rfl⟩ | ⟨b, rfl, _⟩
        · exact eqAt_cast (EqAt.int_str i t' y t) (decide_eq_false (fun z => nomatch z)).symm
        · exact eqAt_cast (EqAt.bool_str b y t) (decide_eq_false (fun z => nomatch z)).symm
      | tup es =>
        rw [DenR] at q; obtain ⟨a, us, rfl, p, _⟩ := q
        rcases r with ⟨t', rfl⟩ | ⟨b, rfl, _⟩
        · exact eqAt_cast (EqAt.int_tuple i t' p hu0) (decide_eq_false (fun z => nomatch z)).symm
        · exact eqAt_cast (EqAt.bool_tuple b p hu0) (decide_eq_false (fun z => nomatch z)).symm
      | lst es =>
        rw [DenR] at q; obtain ⟨a, us, rfl, p, _⟩ := q
        rcases r with ⟨t', rfl⟩ | ⟨b, rfl, _⟩
        · exact eqAt_cast (EqAt.int_list i t' p hu0) (decide_eq_false (fun z => nomatch z)).symm
        · exact eqAt_cast (EqAt.bool_list b p hu0) (decide_eq_false (fun z => nomatch z)).symm
    | str x =>
      rw [DenR] at r; obtain ⟨t', rfl⟩ := r
      cases e with
      | non => rw [DenR] at q; subst q; exact eqAt_cast (EqAt.str_none x t') (decide_eq_false (fun z => nomatch z)).symm
      | int j =>
        rw [DenR] at q
        rcases q with ⟨t, rfl⟩ | ⟨b, rfl, _⟩
        · exact eqAt_cast (EqAt.str_int x t' j t) (decide_eq_false (fun z => nomatch z)).symm
        · exact eqAt_cast (EqAt.str_bool x t' b) (decide_eq_false (fun z => nomatch z)).symm
      | str y =>
        rw [DenR] at q; obtain ⟨t, rfl⟩ := q
        exact eqAt_cast (EqAt.str_str x t' y t) (dec_true ⟨fun z => by cases z; simp, fun z => by rw [eq_of_beq z]⟩)
      | tup es => rw [DenR] at q; obtain ⟨a, us, rfl, p, _⟩ := q; exact eqAt_cast (EqAt.str_tuple x t' p hu0) (decide_eq_false (fun z => nomatch z)).symm
      | lst es => rw [DenR] at q; obtain ⟨a, us, rfl, p, _⟩ := q; exact eqAt_cast (EqAt.str_list x t' p hu0) (decide_eq_false (fun z => nomatch z)).symm
    | tup ds => ?_
    | lst ds => ?_
  · rw [D.deep] at hn; omega
  · rw [D.deep] at hn; omega
  · rw [D.deep] at hn
    have r0 := r
    rw [DenR] at r
    obtain ⟨a, us, rfl, p, r⟩ := r
    cases e with
    | non => rw [DenR] at q; subst q; exact eqAt_cast (EqAt.tuple_none p hu0) (decide_eq_false (fun z => nomatch z)).symm
    | int j =>
      rw [DenR] at q
      rcases q with ⟨t, rfl⟩ | ⟨b, rfl, _⟩
      · exact eqAt_cast (EqAt.tuple_int j t p hu0) (decide_eq_false (fun z => nomatch z)).symm
      · exact eqAt_cast (EqAt.tuple_bool b p hu0) (decide_eq_false (fun z => nomatch z)).symm
    | str y => rw [DenR] at q; obtain ⟨t, rfl⟩ := q; exact eqAt_cast (EqAt.tuple_str y t p hu0) (decide_eq_false (fun z => nomatch z)).symm
    | tup es =>
      have q0 := q
      rw [DenR] at q
      obtain ⟨b, us', rfl, p', q⟩ := q
      by_cases hab : a = b
      · subst hab
        rw [denR_inj r0 q0]
        exact eqAt_cast (EqAt.same _) (decide_eq_true rfl).symm
      · refine eqAt_cast (EqAt.of_refs hab (RcAt.tuples (e := fun j => decide (ds[j]? = es[j]?)) p p' hu0 fun j h1 h2 => ?_)) ?_
        · have l1 := denRs_len r
          have l2 := denRs_len q
          have h1' : j < us.length := by simpa using h1
          have h2' : j < us'.length := by simpa using h2
          have e1 := List.getElem?_eq_getElem (l := ds) (i := j) (by omega)
          have e2 := List.getElem?_eq_getElem (l := es) (i := j) (by omega)
          obtain ⟨u, f1, g1⟩ := denRs_at r e1
          obtain ⟨v, f2, g2⟩ := denRs_at q e2
          have z1 : us.toArray[j] = u := by rw [List.getElem?_eq_getElem h1'] at f1; simpa using f1
          have z2 : us'.toArray[j] = v := by rw [List.getElem?_eq_getElem h2'] at f2; simpa using f2
          rw [z1, z2]
          have := ih (d := ds[j]) (e := es[j]) (A := A.in1) (by have := deeps_le (List.getElem_mem (l := ds) (n := j) (by omega)); omega) g1 g2 (by show A.units + 1 + n < cLine; omega)
          refine eqAt_cast this ?_
          rw [e1, e2]
          exact decide_eq_decide.mpr ⟨fun z => by rw [z], fun z => Option.some.inj z⟩
        · have := all_eq ds es
          simp only [List.size_toArray, denRs_len r, denRs_len q]
          rw [this]
          exact decide_eq_decide.mpr ⟨fun z => by rw [z], fun z => by injection z⟩
    | lst es => rw [DenR] at q; obtain ⟨b, us', rfl, p', _⟩ := q; exact eqAt_cast (EqAt.tuple_list p p' hu0) (decide_eq_false (fun z => nomatch z)).symm
  · rw [D.deep] at hn
    have r0 := r
    rw [DenR] at r
    obtain ⟨a, us, rfl, p, r⟩ := r
    cases e with
    | non => rw [DenR] at q; subst q; exact eqAt_cast (EqAt.list_none p hu0) (decide_eq_false (fun z => nomatch z)).symm
    | int j =>
      rw [DenR] at q
      rcases q with ⟨t, rfl⟩ | ⟨b, rfl, _⟩
      · exact eqAt_cast (EqAt.list_int j t p hu0) (decide_eq_false (fun z => nomatch z)).symm
      · exact eqAt_cast (EqAt.list_bool b p hu0) (decide_eq_false (fun z => nomatch z)).symm
    | str y => rw [DenR] at q; obtain ⟨t, rfl⟩ := q; exact eqAt_cast (EqAt.list_str y t p hu0) (decide_eq_false (fun z => nomatch z)).symm
    | tup es => rw [DenR] at q; obtain ⟨b, us', rfl, p', _⟩ := q; exact eqAt_cast (EqAt.list_tuple p p' hu0) (decide_eq_false (fun z => nomatch z)).symm
    | lst es =>
      have q0 := q
      rw [DenR] at q
      obtain ⟨b, us', rfl, p', q⟩ := q
      have l1 := denRs_len r
      have l2 := denRs_len q
      by_cases hab : a = b
      · subst hab
        rw [denR_inj r0 q0]
        exact eqAt_cast (EqAt.same _) (decide_eq_true rfl).symm
      by_cases hl : ds.length = es.length
      · refine eqAt_cast (EqAt.of_refs hab (RcAt.lists (e := fun j => decide (ds[j]? = es[j]?)) p p' (by simp only [List.size_toArray]; omega) hu0 fun j h1 h2 => ?_)) ?_
        · have h1' : j < us.length := by simpa using h1
          have h2' : j < us'.length := by simpa using h2
          have e1 := List.getElem?_eq_getElem (l := ds) (i := j) (by omega)
          have e2 := List.getElem?_eq_getElem (l := es) (i := j) (by omega)
          obtain ⟨u, f1, g1⟩ := denRs_at r e1
          obtain ⟨v, f2, g2⟩ := denRs_at q e2
          have z1 : us.toArray[j] = u := by rw [List.getElem?_eq_getElem h1'] at f1; simpa using f1
          have z2 : us'.toArray[j] = v := by rw [List.getElem?_eq_getElem h2'] at f2; simpa using f2
          rw [z1, z2]
          have := ih (d := ds[j]) (e := es[j]) (A := A.in1) (by have := deeps_le (List.getElem_mem (l := ds) (n := j) (by omega)); omega) g1 g2 (by show A.units + 1 + n < cLine; omega)
          refine eqAt_cast this ?_
          rw [e1, e2]
          exact decide_eq_decide.mpr ⟨fun z => by rw [z], fun z => Option.some.inj z⟩
        · have := all_eq' ds es hl
          simp only [List.size_toArray, l1]
          rw [this]
          exact decide_eq_decide.mpr ⟨fun z => by rw [z], fun z => by injection z⟩
      · refine eqAt_cast (EqAt.of_refs hab (RcAt.lists_lengths p p' (by simp only [List.size_toArray]; simp; omega) hu0)) ?_
        exact (decide_eq_false (fun z => hl (by injection z with z; rw [z]))).symm
end
section
variable {X : Cx}
inductive J_rEqD (x : V) (y : V) (H : Hp) (Q : VK) : Prop
  | mk : ∀ ds es, (((Den H (.tup ds) x ∧ Den H (.tup es) y) ∨ (Den H (.lst ds) x ∧ Den H (.lst es) y))) → (D.deeps ds ≤ 150) → (Q (.bl (decide (ds = es))) H) → J_rEqD x y H Q
noncomputable def rEqD : R2 := fun x y H Q => J_rEqD x y H Q
inductive J_rNeD (x : V) (y : V) (H : Hp) (Q : VK) : Prop
  | mk : ∀ ds es, (((Den H (.tup ds) x ∧ Den H (.tup es) y) ∨ (Den H (.lst ds) x ∧ Den H (.lst es) y))) → (D.deeps ds ≤ 150) → (Q (.bl (!decide (ds = es))) H) → J_rNeD x y H Q
noncomputable def rNeD : R2 := fun x y H Q => J_rNeD x y H Q
theorem deep_items {A : Around} {s : Shared} {ds es : List D} {us us' : List Value} (hu : A.units + 151 < cLine) (hd : D.deeps ds ≤ 150) (r : DenRs s.heap ds us) (q : DenRs s.heap es us') (j : Nat) (h1 : j < us.toArray.size) (h2 : j < us'.toArray.size) :
    SeqAt.EqAt A.in1 s us.toArray[j] us'.toArray[j] (decide (ds[j]? = es[j]?)) := by
  have l1 := denRs_len r
  have l2 := denRs_len q
  have h1' : j < us.length := by simpa using h1
  have h2' : j < us'.length := by simpa using h2
  have e1 := List.getElem?_eq_getElem (l := ds) (i := j) (by omega)
  have e2 := List.getElem?_eq_getElem (l := es) (i := j) (by omega)
  obtain ⟨u, f1, g1⟩ := denRs_at r e1
  obtain ⟨v, f2, g2⟩ := denRs_at q e2
  have z1 : us.toArray[j] = u := by rw [List.getElem?_eq_getElem h1'] at f1; simpa using f1
  have z2 : us'.toArray[j] = v := by rw [List.getElem?_eq_getElem h2'] at f2; simpa using f2
  rw [z1, z2]
  refine eqAt_cast (eqAt_D 150 (by have := deeps_le (List.getElem_mem (l := ds) (n := j) (by omega)); omega) g1 g2 (by show A.units + 1 + 150 < cLine; omega)) ?_
  rw [e1, e2]
  exact decide_eq_decide.mpr ⟨fun z => by rw [z], fun z => Option.some.inj z⟩
theorem op_eqD (hu : X.A.units + 151 < cLine) : OpR X (compareOp .Eq) rEqD := by
  intro pins s σ H x y v u Q I rx ry h
  obtain ⟨ds, es, hh, hd, q⟩ := h
  have hu0 : X.A.units < cLine := by omega
  rcases hh with ⟨h1, h2⟩ | ⟨h1, h2⟩
  · have g1 := den_raw I.hok h1 rx
    have g2 := den_raw I.hok h2 ry
    rw [DenR] at g1 g2
    obtain ⟨a, us, rfl, p, r⟩ := g1
    obtain ⟨b, us', rfl, p', r'⟩ := g2
    refine SeqAt.eq_tupleAt (e := fun j => decide (ds[j]? = es[j]?)) p p' hu0 (deep_items hu hd r r') ?_
    refine ⟨.bl (decide (ds = es)), H, I, ?_, q⟩
    have := all_eq ds es
    simp only [List.size_toArray, denRs_len r, denRs_len r']
    rw [this]
    rfl
  · have g1 := den_raw I.hok h1 rx
    have g2 := den_raw I.hok h2 ry
    rw [DenR] at g1 g2
    obtain ⟨a, us, rfl, p, r⟩ := g1
    obtain ⟨b, us', rfl, p', r'⟩ := g2
    have l1 := denRs_len r
    have l2 := denRs_len r'
    by_cases hl : ds.length = es.length
    · refine SeqAt.eq_listAt (e := fun j => decide (ds[j]? = es[j]?)) p p' (by simp only [List.size_toArray]; omega) hu0 (deep_items hu hd r r') ?_
      refine ⟨.bl (decide (ds = es)), H, I, ?_, q⟩
      have := all_eq' ds es hl
      simp only [List.size_toArray, l1]
      rw [this]
      rfl
    · refine SeqAt.eq_list_lengthsAt p p' (by simp only [List.size_toArray]; simp; omega) hu0 ⟨.bl (decide (ds = es)), H, I, ?_, q⟩
      rw [decide_eq_false (fun z => hl (by rw [z]))]
      rfl
theorem op_neD (hu : X.A.units + 151 < cLine) : OpR X (compareOp .NotEq) rNeD := by
  intro pins s σ H x y v u Q I rx ry h
  obtain ⟨ds, es, hh, hd, q⟩ := h
  have hu0 : X.A.units < cLine := by omega
  rcases hh with ⟨h1, h2⟩ | ⟨h1, h2⟩
  · have g1 := den_raw I.hok h1 rx
    have g2 := den_raw I.hok h2 ry
    rw [DenR] at g1 g2
    obtain ⟨a, us, rfl, p, r⟩ := g1
    obtain ⟨b, us', rfl, p', r'⟩ := g2
    refine SeqAt.RcNeAt.tuples (e := fun j => decide (ds[j]? = es[j]?)) p p' hu0 (deep_items hu hd r r') _ _ _ _ ?_
    refine ⟨.bl (!decide (ds = es)), H, I, ?_, q⟩
    have := all_eq ds es
    simp only [List.size_toArray, denRs_len r, denRs_len r']
    rw [this]
    rfl
  · have g1 := den_raw I.hok h1 rx
    have g2 := den_raw I.hok h2 ry
    rw [DenR] at g1 g2
    obtain ⟨a, us, rfl, p, r⟩ := g1
    obtain ⟨b, us', rfl, p', r'⟩ := g2
    have l1 := denRs_len r
    have l2 := denRs_len r'
    by_cases hl : ds.length = es.length
    · refine SeqAt.RcNeAt.lists (e := fun j => decide (ds[j]? = es[j]?)) p p' (by simp only [List.size_toArray]; omega) hu0 (deep_items hu hd r r') _ _ _ _ ?_
      refine ⟨.bl (!decide (ds = es)), H, I, ?_, q⟩
      have := all_eq' ds es hl
      simp only [List.size_toArray, l1]
      rw [this]
      rfl
    · refine SeqAt.RcNeAt.lists_lengths p p' (by simp only [List.size_toArray]; simp; omega) hu0 _ _ _ _ ⟨.bl (!decide (ds = es)), H, I, ?_, q⟩
      rw [decide_eq_false (fun z => hl (by rw [z]))]
      rfl
inductive J_rInD (neg : Bool) (x : V) (y : V) (H : Hp) (Q : VK) : Prop
  | mk : ∀ d ds, (Den H d x) → ((Den H (.lst ds) y ∨ Den H (.tup ds) y)) → (D.deeps ds ≤ 150) → (Q (.bl (if neg then !decide (d ∈ ds) else decide (d ∈ ds))) H) → J_rInD neg x y H Q
noncomputable def rInD (neg : Bool) : R2 := fun x y H Q => J_rInD neg x y H Q
noncomputable def eqR (h : Heap) (d : D) (y : Value) : Bool := @decide (DenR h d y) (Classical.propDecidable _)
theorem eqR_eq {h : Heap} {d e : D} {y : Value} (r : DenR h e y) : eqR h d y = decide (e = d) := by
  unfold eqR
  by_cases z : e = d
  · subst z; rw [decide_eq_true rfl]; exact @decide_eq_true _ (Classical.propDecidable _) r
  · rw [decide_eq_false z]; exact @decide_eq_false _ (Classical.propDecidable _) fun q => z (denR_inj r q)
theorem denRs_mem {h : Heap} : ∀ {ds : List D} {us : List Value} {u : Value}, DenRs h ds us → u ∈ us → ∃ d ∈ ds, DenR h d u
  | [], us, u, r, m => by rw [DenRs] at r; subst r; cases m
  | d :: ds, us, u, r, m => by
    rw [DenRs] at r
    obtain ⟨v, us', rfl, r1, r⟩ := r
    rcases List.mem_cons.mp m with rfl | m
    · exact ⟨d, List.mem_cons_self, r1⟩
    · obtain ⟨e, he, q⟩ := denRs_mem r m
      exact ⟨e, List.mem_cons_of_mem _ he, q⟩
theorem any_eqR {h : Heap} {d : D} : ∀ {ds : List D} {us : List Value}, DenRs h ds us → us.any (eqR h d) = decide (d ∈ ds)
  | [], us, r => by rw [DenRs] at r; subst r; simp
  | e :: ds, us, r => by
    rw [DenRs] at r
    obtain ⟨v, us', rfl, r1, r⟩ := r
    rw [List.any_cons, any_eqR r, eqR_eq r1]
    refine dec_true ⟨fun z => ?_, fun z => ?_⟩
    · rcases List.mem_cons.mp z with rfl | z
      · simp
      · rw [decide_eq_true z]; simp
    · rw [Bool.or_eq_true] at z
      rcases z with z | z
      · rw [of_decide_eq_true z]; exact List.mem_cons_self
      · exact List.mem_cons_of_mem _ (of_decide_eq_true z)
theorem op_notInD (hu : X.A.units + 151 < cLine) : OpR X (compareOp .NotIn) (rInD true) := by
  intro pins s σ H x y v u Q I rx ry h
  obtain ⟨d, ds, h1, h2, hd, q⟩ := h
  have g1 := den_raw I.hok h1 rx
  have el : ∀ us : List Value, DenRs s.heap ds us → ∀ y, y ∈ us.toArray → SeqAt.EqAt X.A.in1 s y v (eqR s.heap d y) := fun us r y hy => by
    obtain ⟨e, he, r1⟩ := denRs_mem r (by simpa using hy)
    refine eqAt_cast (eqAt_D 150 (by have := deeps_le he; omega) r1 g1 (by show X.A.units + 1 + 150 < cLine; omega)) (eqR_eq r1).symm
  rcases h2 with h2 | h2
  · have g2 := den_raw I.hok h2 ry
    rw [DenR] at g2
    obtain ⟨b, us', rfl, p', r'⟩ := g2
    refine SeqAt.notIn_listAt (eqR s.heap d) p' (el us' r') ⟨.bl (!decide (d ∈ ds)), H, I, ?_, q⟩
    rw [← any_eqR r']
    show Value.bool _ = Value.bool _
    rw [List.any_toArray]
  · have g2 := den_raw I.hok h2 ry
    rw [DenR] at g2
    obtain ⟨b, us', rfl, p', r'⟩ := g2
    refine SeqAt.notIn_tupleAt (eqR s.heap d) p' (el us' r') ⟨.bl (!decide (d ∈ ds)), H, I, ?_, q⟩
    rw [← any_eqR r']
    show Value.bool _ = Value.bool _
    rw [List.any_toArray]
end
end L2
namespace L2
open PySem PySem.Spec PyProof.Rows

noncomputable abbrev NK := List (Sum Key (List Key))
noncomputable def kD : Key → D
  | .inl i => .int i
  | .inr x => .str x
noncomputable def iD : Sum Key (List Key) → D
  | .inl k => kD k
  | .inr l => .tup (l.map kD)
noncomputable def nkD (k : NK) : D := .tup (k.map iD)
theorem kD_inj {a b : Key} (e : kD a = kD b) : a = b := by
  cases a with
  | inl i => cases b with
    | inl j => have e' : D.int i = D.int j := e; injection e' with e'; rw [e']
    | inr y => exact nomatch (show D.int i = D.str y from e)
  | inr x => cases b with
    | inl j => exact nomatch (show D.str x = D.int j from e)
    | inr y => have e' : D.str x = D.str y := e; injection e' with e'; rw [e']
theorem map_inj_of {α β : Type} {f : α → β} (hf : ∀ a b, f a = f b → a = b) : ∀ {x y : List α}, x.map f = y.map f → x = y
  | [], [], _ => rfl
  | [], _ :: _, e => by simp at e
  | _ :: _, [], e => by simp at e
  | a :: xs, b :: ys, e => by
    rw [List.map_cons, List.map_cons] at e
    injection e with e1 e2
    rw [hf _ _ e1, map_inj_of hf e2]
theorem iD_inj {a b : Sum Key (List Key)} (e : iD a = iD b) : a = b := by
  cases a with
  | inl i => cases b with
    | inl j => rw [kD_inj e]
    | inr y => cases i <;> exact nomatch e
  | inr x => cases b with
    | inl j => cases j <;> exact nomatch e
    | inr y =>
      have e' : D.tup (x.map kD) = D.tup (y.map kD) := e
      injection e' with e'
      rw [map_inj_of (fun _ _ => kD_inj) e']
theorem nkD_inj {a b : NK} (e : nkD a = nkD b) : a = b := by
  have e' : D.tup (a.map iD) = D.tup (b.map iD) := e
  injection e' with e'
  exact map_inj_of (fun _ _ => iD_inj) e'
section
variable (P : Program) (w : World)
noncomputable def NIt (h : Heap) : NK → List Value → Prop
  | [], us => us = []
  | .inl k :: ks, us => ∃ u us', us = u :: us' ∧ (mixKind P w).is k u = true ∧ NIt h ks us'
  | .inr l :: ks, us => ∃ b us', us = Value.ref b :: us' ∧ IsTupleKey (mixKind P w) h l b ∧ NIt h ks us'
noncomputable def IsNK (h : Heap) (k : NK) (a : Addr) : Prop := ∃ us : List Value, IsTup h a us.toArray ∧ NIt P w h k us
noncomputable def iHash : Sum Key (List Key) → Int
  | .inl k => (mixKind P w).hash k
  | .inr l => tupleKeyHash (mixKind P w) l
noncomputable def iDraws : Sum Key (List Key) → Nat
  | .inl _ => 1
  | .inr l => l.length + 1
noncomputable def nkHash (k : NK) : Int := reduceHash (Builtin.Tuple.tupleHashOf (k.map (iHash P w)))
noncomputable def nkDraws (k : NK) : Nat := (k.map iDraws).sum + 1
end
section
variable {P : Program} {w : World} {h h' : Heap}
theorem NIt.inj : ∀ {x y : NK} {us : List Value}, NIt P w h x us → NIt P w h y us → x = y
  | [], [], us, _, _ => rfl
  | [], .inl k :: ks, us, r, q => by rw [NIt] at r; rw [NIt] at q; subst r; obtain ⟨_, _, z, _⟩ := q; cases z
  | [], .inr k :: ks, us, r, q => by rw [NIt] at r; rw [NIt] at q; subst r; obtain ⟨_, _, z, _⟩ := q; cases z
  | .inl k :: ks, [], us, r, q => by rw [NIt] at r; rw [NIt] at q; subst q; obtain ⟨_, _, z, _⟩ := r; cases z
  | .inr k :: ks, [], us, r, q => by rw [NIt] at r; rw [NIt] at q; subst q; obtain ⟨_, _, z, _⟩ := r; cases z
  | .inl k :: ks, .inl l :: ls, us, r, q => by
    rw [NIt] at r; rw [NIt] at q
    obtain ⟨u, us', rfl, r1, r⟩ := r
    obtain ⟨u', us'', z, q1, q⟩ := q
    cases z
    rw [(mixKind P w).inj _ _ _ r1 q1, NIt.inj r q]
  | .inr k :: ks, .inr l :: ls, us, r, q => by
    rw [NIt] at r; rw [NIt] at q
    obtain ⟨u, us', rfl, r1, r⟩ := r
    obtain ⟨u', us'', z, q1, q⟩ := q
    cases z
    rw [r1.inj q1, NIt.inj r q]
  | .inl k :: ks, .inr l :: ls, us, r, q => by
    rw [NIt] at r; rw [NIt] at q
    obtain ⟨u, us', rfl, r1, r⟩ := r
    obtain ⟨u', us'', z, q1, q⟩ := q
    cases z
    rcases keyIs_shape r1 with ⟨i, t, _, e⟩ | ⟨x, t, _, e⟩ <;> cases e
  | .inr k :: ks, .inl l :: ls, us, r, q => by
    rw [NIt] at r; rw [NIt] at q
    obtain ⟨u, us', rfl, r1, r⟩ := r
    obtain ⟨u', us'', z, q1, q⟩ := q
    cases z
    rcases keyIs_shape q1 with ⟨i, t, _, e⟩ | ⟨x, t, _, e⟩ <;> cases e
theorem NIt.keeps {d : Addr} {o : Obj} {es ep} (ho : h.get? d = some o) (hd : o.data = .dict es ep) (hs : Heap.SameBut d h h') : ∀ {k : NK} {us : List Value}, NIt P w h k us → NIt P w h' k us
  | [], us, r => by rw [NIt] at r ⊢; exact r
  | .inl k :: ks, us, r => by
    rw [NIt] at r ⊢
    obtain ⟨u, us', e, r1, r⟩ := r
    exact ⟨u, us', e, r1, NIt.keeps ho hd hs r⟩
  | .inr k :: ks, us, r => by
    rw [NIt] at r ⊢
    obtain ⟨u, us', e, r1, r⟩ := r
    exact ⟨u, us', e, r1.keeps ho hd hs, NIt.keeps ho hd hs r⟩
theorem IsNK.inj {x y : NK} {a : Addr} (r : IsNK P w h x a) (q : IsNK P w h y a) : x = y := by
  obtain ⟨us, p, r⟩ := r
  obtain ⟨us', p', q⟩ := q
  have e : us = us' := by have := tup_seq p p'; simpa using this
  subst e
  exact r.inj q
theorem IsNK.keeps {k : NK} {a d : Addr} {o : Obj} {es ep} (r : IsNK P w h k a) (ho : h.get? d = some o) (hd : o.data = .dict es ep) (hs : Heap.SameBut d h h') : IsNK P w h' k a := by
  obtain ⟨us, ⟨o', e', c', n', d'⟩, r⟩ := r
  have hne : a ≠ d := by
    rintro rfl
    rw [ho] at e'; cases e'
    rw [hd] at d'; cases d'
  exact ⟨us, ⟨o', (hs.2 a hne).trans e', c', n', d'⟩, r.keeps ho hd hs⟩
theorem key_denR {k : Key} {u : Value} (r : (mixKind P w).is k u = true) : DenR h (kD k) u := by
  rcases keyIs_shape r with ⟨i, t, rfl, rfl⟩ | ⟨x, t, rfl, rfl⟩
  · show DenR h (.int i) _
    rw [DenR]; exact .inl ⟨t, rfl⟩
  · show DenR h (.str x) _
    rw [DenR]; exact ⟨t, rfl⟩
theorem items_denR {ks : List Key} {us : List Value} (r : ItemsAre (mixKind P w) ks us) : DenRs h (ks.map kD) us := by
  induction r with
  | nil => rw [List.map_nil, DenRs]
  | cons r1 _ ih => rw [List.map_cons, DenRs]; exact ⟨_, _, rfl, key_denR r1, ih⟩
theorem NIt.denR : ∀ {k : NK} {us : List Value}, NIt P w h k us → DenRs h (k.map iD) us
  | [], us, r => by rw [NIt] at r; rw [List.map_nil, DenRs]; exact r
  | .inl k :: ks, us, r => by
    rw [NIt] at r
    obtain ⟨u, us', e, r1, r⟩ := r
    rw [List.map_cons, DenRs]
    exact ⟨u, us', e, key_denR r1, NIt.denR r⟩
  | .inr k :: ks, us, r => by
    rw [NIt] at r
    obtain ⟨b, us', e, ⟨o, its, n, g, c, d, i⟩, r⟩ := r
    rw [List.map_cons, DenRs]
    refine ⟨_, us', e, ?_, NIt.denR r⟩
    show DenR h (.tup (k.map kD)) _
    rw [DenR]
    exact ⟨b, its.toList, rfl, ⟨o, g, c, n, by simpa using d⟩, items_denR i⟩
theorem IsNK.denR {k : NK} {a : Addr} (r : IsNK P w h k a) : DenR h (nkD k) (.ref a) := by
  obtain ⟨us, p, r⟩ := r
  rw [nkD, DenR]
  exact ⟨a, us, rfl, p, r.denR⟩
theorem kDs_deep : ∀ l : List Key, D.deeps (l.map kD) = 0
  | [] => by rw [List.map_nil, D.deeps]
  | .inl k :: ks => by rw [List.map_cons, D.deeps, kDs_deep ks]; show max (D.deep (.int k)) 0 = 0; rw [D.deep]; rfl
  | .inr k :: ks => by rw [List.map_cons, D.deeps, kDs_deep ks]; show max (D.deep (.str k)) 0 = 0; rw [D.deep]; rfl
theorem nk_deeps : ∀ l : NK, D.deeps (l.map iD) ≤ 1
  | [] => by rw [List.map_nil, D.deeps]; omega
  | .inl (.inl k) :: ks => by rw [List.map_cons, D.deeps]; have := nk_deeps ks; show max (D.deep (.int k)) _ ≤ 1; rw [D.deep]; omega
  | .inl (.inr k) :: ks => by rw [List.map_cons, D.deeps]; have := nk_deeps ks; show max (D.deep (.str k)) _ ≤ 1; rw [D.deep]; omega
  | .inr l :: ks => by rw [List.map_cons, D.deeps]; have := nk_deeps ks; show max (D.deep (.tup (l.map kD))) _ ≤ 1; rw [D.deep, kDs_deep]; omega
theorem nk_deep (k : NK) : (nkD k).deep ≤ 2 := by rw [nkD, D.deep]; have := nk_deeps k; omega
end
section
variable {P : Program} {w : World} {A : Around} {E : Value → Shared → Prop} {s : Shared}
theorem wpAny_eqBool_nk {x y : NK} {a b : Addr} {Q : Bool → Shared → Prop} (hu : A.units + 5 < cLine) (hx : IsNK P w s.heap x a) (hy : IsNK P w s.heap y b) (h : Q (decide (x = y)) s) :
    wpAny (model P w) A (eqBool (.ref a) (.ref b)) Q E s := by
  refine eqAt_D 2 (nk_deep x) hx.denR hy.denR (by omega) P w E Q ?_
  have e : decide (nkD x = nkD y) = decide (x = y) := decide_eq_decide.mpr ⟨nkD_inj, fun z => by rw [z]⟩
  rw [e]; exact h
theorem quiet_flat {K : Type} [DecidableEq K] {knd : KeyKind P w K} (n : Nat) {ks : List K} {a : Addr} {Q : Bool → Shared → Prop} (hk : IsTupleKey knd s.heap ks a) (h : Q true s) : wpAny (model P w) A (eqIsQuiet (n + 1) (.ref a)) Q E s := by
  have hT := hk.typeIs
  obtain ⟨o, items, m, ho, _, hd, hi⟩ := hk
  unfold eqIsQuiet
  refine wpAny_bind (wpAny_specialOf hT F.slot_tuple_eq.lookup ?_)
  show wpAny _ _ (isInstance (.ref a) (.type "tuple") >>= _) _ _ s
  refine wpAny_bind (wpAny_isInstance hT isSubtype_tuple_tuple ?_)
  simp only [Bool.not_true, Bool.false_eq_true, if_false]
  refine wpAny_bind (wpAny_seqItems ho hd ?_)
  refine wpAny_bind ?_
  show wpAny _ _ (forIn items _ _) _ _ s
  rw [← Array.forIn_toList]
  refine wpAny_forIn_list _ (fun rest r s' => r.1 = none ∧ s' = s ∧ ∀ v ∈ rest, carriedByValue v = true) _ ?_ ?_ _ _ ⟨rfl, rfl, hi.byValue⟩
  · rintro v rest r s' ⟨hr, rfl, hall⟩
    rw [eqIsQuiet_byValue _ (hall v List.mem_cons_self)]
    refine wpAny_bind (wpAny_pure ?_)
    simp only [Bool.not_true, Bool.false_eq_true, if_false]
    exact wpAny_pure ⟨rfl, rfl, fun u hu' => hall u (List.mem_cons_of_mem _ hu')⟩
  · rintro ⟨r1, r2⟩ s' ⟨hr, rfl, _⟩
    simp only at hr
    subst hr
    exact wpAny_pure h
theorem quiet_nk {k : NK} {a : Addr} {Q : Bool → Shared → Prop} (hk : IsNK P w s.heap k a) (h : Q true s) : wpAny (model P w) A (eqIsQuiet 8 (.ref a)) Q E s := by
  obtain ⟨us, p, hi⟩ := hk
  have hT : s.TypeIs (.ref a) "tuple" := p.typeIs
  obtain ⟨o, ho, _, m, hd⟩ := p
  unfold eqIsQuiet
  refine wpAny_bind (wpAny_specialOf hT F.slot_tuple_eq.lookup ?_)
  show wpAny _ _ (isInstance (.ref a) (.type "tuple") >>= _) _ _ s
  refine wpAny_bind (wpAny_isInstance hT isSubtype_tuple_tuple ?_)
  simp only [Bool.not_true, Bool.false_eq_true, if_false]
  refine wpAny_bind (wpAny_seqItems ho hd ?_)
  refine wpAny_bind ?_
  show wpAny _ _ (forIn us.toArray _ _) _ _ s
  rw [← Array.forIn_toList]
  refine wpAny_forIn_list _ (fun rest r s' => r.1 = none ∧ s' = s ∧ ∃ left, NIt P w s.heap left rest) _ ?_ ?_ _ _ ⟨rfl, rfl, k, by simpa using hi⟩
  · rintro v rest r s' ⟨hr, rfl, left, hl⟩
    cases left with
    | nil => rw [NIt] at hl; cases hl
    | cons i left =>
      cases i with
      | inl k =>
        rw [NIt] at hl
        obtain ⟨u, us', e, r1, hl⟩ := hl
        cases e
        rw [eqIsQuiet_byValue _ ((mixKind P w).byValue _ _ r1)]
        refine wpAny_bind (wpAny_pure ?_)
        simp only [Bool.not_true, Bool.false_eq_true, if_false]
        exact wpAny_pure ⟨rfl, rfl, left, hl⟩
      | inr l =>
        rw [NIt] at hl
        obtain ⟨b, us', e, r1, hl⟩ := hl
        cases e
        refine wpAny_bind (quiet_flat 6 r1 ?_)
        simp only [Bool.not_true, Bool.false_eq_true, if_false]
        exact wpAny_pure ⟨rfl, rfl, left, hl⟩
  · rintro ⟨r1, r2⟩ s' ⟨hr, rfl, _⟩
    simp only at hr
    subst hr
    exact wpAny_pure h
theorem wpAny_pyHash_nk {k : NK} {a : Addr} {Q : Int → Shared → Prop} (hu : A.units + 5 < cLine) (hk : IsNK P w s.heap k a) (h : Q (nkHash P w k) { s with toks := s.toks + nkDraws k }) :
    wpAny (model P w) A (pyHash (.ref a)) Q E s := by
  obtain ⟨us, p, hi⟩ := hk
  have hT : s.TypeIs (.ref a) "tuple" := p.typeIs
  obtain ⟨o, ho, _, n, hd⟩ := p
  unfold pyHash
  first | unfold pyHashByItsType | skip
  first | refine wpAny_bind (wpAny_cRoomFor_or (.inr (by omega)) ?_) | skip
  refine wpAny_bind (wpAny_specialOf hT F.slot_tuple_hash.lookup ?_)
  show wpAny _ _ (if (some (Value.builtin "tuple.__hash__") == some Value.none) = true then _ else _) Q E s
  rw [if_neg (by rw [beq_builtin_none]; exact Bool.false_ne_true)]
  refine wpAny_bind (wpAny_specialOf hT F.slot_tuple_hash.lookup ?_)
  show wpAny _ _ (callSpecialIfBoundUnlessNone? (.ref a) "__hash__" _ >>= _) Q E s
  refine wpAny_bind (wpAny_callSpecialIfBoundUnlessNone?_slot hT F.slot_tuple_hash (wpAny_call_entry F.slot_tuple_hash hT F.entry_tuple_hash ?_ (F.args_tuple_hash_1 _)))
  show wpAny _ _ (Builtin.Tuple.tupleItemsOf (.ref a) >>= _) _ _ s
  refine wpAny_bind (wpAny_tupleItemsOf ho hd ?_)
  refine wpAny_bind ?_
  rw [← Array.forIn_toList]
  refine wpAny_forIn_list _
    (fun rest (b : Array Int) s' => ∃ done left : NK, k = done ++ left ∧ NIt P w s.heap left rest ∧ b.toList = done.map (iHash P w) ∧ s' = { s with toks := s.toks + (done.map iDraws).sum })
    _ ?_ ?_ _ _ ⟨[], k, rfl, by simpa using hi, rfl, rfl⟩
  · rintro x rest b s' ⟨done, left, rfl, hl, hb, rfl⟩
    cases left with
    | nil => rw [NIt] at hl; cases hl
    | cons i left =>
      cases i with
      | inl k =>
        rw [NIt] at hl
        obtain ⟨u, us', e, r1, hl⟩ := hl
        cases e
        refine wpAny_bind ((mixKind P w).pyHash r1 ?_)
        first
          | exact wpAny_pure ⟨done ++ [.inl k], left, by simp, hl, by simp [hb, iHash], by simp [Nat.add_assoc, iDraws]⟩
          | exact wpAny_bind (wpAny_pure (wpAny_pure ⟨done ++ [.inl k], left, by simp, hl, by simp [hb, iHash], by simp [Nat.add_assoc, iDraws]⟩))
      | inr l =>
        rw [NIt] at hl
        obtain ⟨c, us', e, r1, hl⟩ := hl
        cases e
        refine wpAny_bind (wpAny_pyHash_tuple (by show A.units + 1 < cLine; omega) r1 ?_)
        first
          | exact wpAny_pure ⟨done ++ [.inr l], left, by simp, hl, by simp [hb, iHash], by simp [Nat.add_assoc, iDraws]⟩
          | exact wpAny_bind (wpAny_pure (wpAny_pure ⟨done ++ [.inr l], left, by simp, hl, by simp [hb, iHash], by simp [Nat.add_assoc, iDraws]⟩))
  · rintro b s' ⟨done, left, rfl, hl, hb, rfl⟩
    have e : left = [] := by
      cases left with
      | nil => rfl
      | cons i left => cases i <;> rw [NIt] at hl <;> obtain ⟨_, _, z, _⟩ := hl <;> cases z
    subst e
    rw [List.append_nil] at h
    show wpAny _ _ (retInt (Builtin.Tuple.tupleHashOf b.toList)) _ _ _
    rw [hb]
    refine wpAny_ret_mkInt ?_
    show wpAny _ _ (if (decide (-(2 : Int) ^ 63 ≤ Builtin.Tuple.tupleHashOf (done.map (iHash P w))) && decide (Builtin.Tuple.tupleHashOf (done.map (iHash P w)) < 2 ^ 63)) = true then _ else _) Q E _
    unfold nkHash reduceHash nkDraws at h
    by_cases hr : (decide (-(2 : Int) ^ 63 ≤ Builtin.Tuple.tupleHashOf (done.map (iHash P w))) && decide (Builtin.Tuple.tupleHashOf (done.map (iHash P w)) < 2 ^ 63)) = true
    · rw [if_pos hr]
      rw [if_pos hr] at h
      exact wpAny_pure (by simpa [Nat.add_assoc] using h)
    · rw [if_neg hr]
      rw [if_neg hr] at h
      exact wpAny_bind (wpAny_rule (wpAny_pure (by simpa [Nat.add_assoc] using h)))
end
noncomputable def nkKind (P : Program) (w : World) : HeapKind P w NK where
  is := IsNK P w
  hash := nkHash P w
  draws := nkDraws
  room := fun A => A.units + 5 < cLine
  inj := fun hx hy => hx.inj hy
  keeps := fun x ho hd hs => x.keeps ho hd hs
  pyHash := fun hu hk h => wpAny_pyHash_nk hu hk h
  eqBool := fun hu hx hy h => wpAny_eqBool_nk hu hx hy h
  quiet := fun hk h => quiet_nk hk h

section
variable {prog : Program} {w : World} {K : Type} [DecidableEq K] {knd : HeapKind prog w K} {A : Around} {E : Value → Shared → Prop} {s : Shared} {d a : Addr} {k : K} {xs : List (K × Addr × Value)}
theorem wpAny_dictSetDefault_heap {dflt : Value} {Q : Value → Shared → Prop} (hu : knd.room A) (hkey : knd.is s.heap k a) (hm : s.heap.DictOfH knd d xs)
    (hthere : ∀ p, atKey xs k = some p → Q p.2 { s with toks := s.toks + knd.draws k })
    (hnew : atKey xs k = none → ∀ h', h'.DictOfH knd d (xs ++ [(k, a, dflt)]) → Heap.SameBut d s.heap h' → Q dflt { s with heap := h', toks := s.toks + knd.draws k })
    (hsz : xs.length ≤ sizeLine) : wpAny (model prog w) A (dictSetDefault d (.ref a) dflt) Q E s := by
  obtain ⟨o, es, ep, ho, hc, hd, he, his, hn⟩ := hm
  unfold dictSetDefault
  try with_reducible refine wpAny_holding ?_
  refine wpAny_bind (knd.pyHash hu hkey ?_)
  refine wpAny_bind (wpAny_dictFind_heap (s := { s with toks := s.toks + knd.draws k }) hu hkey ho hd he his hn ?_ ?_)
  · intro hno
    have hnot : k ∉ xs.map (·.1) := not_mem_keys_of_get hno
    refine wpAny_bind (wpAny_rule (wpAny_bind (wpAny_updateDictKeys (hz := by have e := size_of_entries he; omega) (s := { s with toks := s.toks + knd.draws k }) ho hd (wpAny_pure (hnew (atKey_none_of_get hno) _ ⟨_, _, ep + 1, Heap.get?_update_self _ ho (Obj.isFreed_of_dict (Obj.data_mapDictKeys hd _)),
      hc.mapDictKeys _, Obj.data_mapDictKeys hd _, ?_, ?_, ?_⟩ (Heap.SameBut.update ..))))))
    · simp [he, entryOfKey]
    · intro x hx
      rcases List.mem_append.mp hx with hx | hx
      · exact knd.keeps (his x hx) ho hd (Heap.SameBut.update ..)
      · simp only [List.mem_singleton] at hx
        subst hx
        exact knd.keeps hkey ho hd (Heap.SameBut.update ..)
    · rw [List.map_append, List.nodup_append]
      refine ⟨hn, by simp, ?_⟩
      intro x hx y hy
      simp only [List.map_cons, List.map_nil, List.mem_singleton] at hy
      subst hy
      exact fun e => hnot (e ▸ hx)
  · intro j p hj
    refine wpAny_bind (wpAny_dictEntries (s := { s with toks := s.toks + knd.draws k }) ho hd ?_)
    rw [entry_at he j, hj]
    exact wpAny_bind (wpAny_rule (wpAny_pure (hthere p (atKey_of_get hn hj))))
end
section
variable {prog : Program} {w : World} {K : Type} [DecidableEq K] (knd : HeapKind prog w K) (d a : Addr)
theorem meetsH_dict_setdefault (hd : (d == sysModules) = false) (dflt : Value) :
    MeetsIn prog w (Builtin.«dict.setdefault» ⟨[.ref d, .ref a, dflt], []⟩) (fun A R s => knd.room A.in1 ∧ ∃ k xs, knd.is s.heap k a ∧ s.heap.DictOfH knd d xs ∧ xs.length ≤ sizeLine ∧
      (∀ p, atKey xs k = some p → R (.ok (.ret p.2)) { s with toks := s.toks + knd.draws k }) ∧
      (atKey xs k = none → ∀ h', h'.DictOfH knd d (xs ++ [(k, a, dflt)]) → Heap.SameBut d s.heap h' → R (.ok (.ret dflt)) { s with heap := h', toks := s.toks + knd.draws k })) :=
  .of_wp fun A R s ⟨hu, k, xs, hkey, hm, hz, h1, h2⟩ => by
    unfold Builtin.«dict.setdefault»
    refine wpAny_bind ?_
    unfold Builtin.Dict.keyAndDefault
    refine wpAny_bind (wpAny_notOrdered_dict hm.typeIs ?_)
    show wpAny _ _ (pure (d, Value.ref a, some dflt)) _ _ s
    refine wpAny_pure ?_
    show wpAny _ _ (if (d == sysModules) = true then _ else (dictSetDefault d (.ref a) dflt >>= _)) _ _ s
    rw [if_neg (by rw [hd]; exact Bool.false_ne_true)]
    exact wpAny_bind (wpAny_dictSetDefault_heap hu hkey hm (fun p hp => wpAny_pure ⟨p.2, rfl, h1 p hp⟩) (fun hn h' hm' hs' => wpAny_pure ⟨dflt, rfl, h2 hn h' hm' hs'⟩) hz)
end
end L2
namespace L2
open PySem PySem.Spec PyProof.Rows

section
variable {X : Cx} {scope : Scope} {own : List Str} {caps : List (Str × Nat)} {pins : List (Addr × Obj)} {σ : St} {H : Hp} {s : Shared} {fp : List Addr}
theorem comp_goI {prog : Program} {w : World} {A : Around} {R : Result → Shared → Prop} {elt target iter tst : Expr} {pos : Pos} {it acc : Value} {env : Env} (Iv : Nat → Shared → Prop)
    (turn : ∀ n s, Iv n s → wpAny (model prog w) A (pyNext it) (fun r s₁ => match r with
      | none => R (.ok .next) s₁
      | some v => wpAny (model prog w) A (letOwnedTupleGo target it v) (fun _ s₂ => wpAny (model prog w) A (assign target env v) (fun _ s₃ => wpAny (model prog w) A (isTrue tst env (eval tst env)) (fun ok s₆ => if ok = true then wpAny (model prog w) A (eval elt env) (fun x s₄ =>
              wpAny (model prog w) A (call (.builtin "list.append") [acc, x]) (fun _ s₅ => ∃ m, m < n ∧ Iv m s₅) (fun _ _ => False) s₄) (fun _ _ => False) s₆ else ∃ m, m < n ∧ Iv m s₆) (fun _ _ => False) s₃) (fun _ _ => False) s₂) (fun _ _ => False) s₁) (fun _ _ => False) s)
    (n : Nat) (h : Iv n s) : codeAny (model prog w) A (.compLoop (.ListComp elt [⟨target, iter, [tst], 0⟩] scope pos) 0 it acc env) R s := by
  refine codeAny_loop rfl Iv (fun n s hI => ?_) n h
  show wpAny _ A ((compTurn (.ListComp elt [⟨target, iter, [tst], 0⟩] scope pos) 0 it acc env).onRaise (fun x => do noteFrame x env; theTreesLotGoes x)) _ _ s
  refine wpAny_noted ?_
  rw [compTurn_list]
  refine wpAny_bind (wpAny_standAt (wpAny_bind (wpAny_mono (turn n s hI) (fun r s₁ h₁ => ?_) fun _ _ z => z.elim)))
  cases r with
  | none => exact wpAny_pure h₁
  | some v =>
    refine wpAny_bind (wpAny_mono h₁ (fun _ s₂ h₂ => wpAny_bind (wpAny_mono h₂ (fun _ s₃ h₃ => wpAny_bind (wpAny_tests_one (wpAny_mono h₃ (fun ok s₆ h₆ => ?_) fun _ _ z => z.elim))) fun _ _ z => z.elim)) fun _ _ z => z.elim)
    cases ok with
    | true =>
      have h₆' := (if_pos rfl : (if true = true then _ else _) = _) ▸ h₆
      exact wpAny_bind (wpAny_bind (wpAny_mono h₆' (fun x s₄ h₄ => wpAny_bind (wpAny_mono h₄ (fun _ s₅ h₅ => wpAny_pure (wpAny_pure ⟨rfl, h₅⟩)) fun _ _ z => z.elim)) fun _ _ z => z.elim))
    | false =>
      have h₆' : ∃ m, m < n ∧ Iv m s₆ := h₆
      exact wpAny_bind (wpAny_pure (wpAny_pure ⟨rfl, h₆'⟩))

noncomputable def CompBodyI (J : It) (g : TG) (ct : TT) (te : TE) (τ0 : St) (H1 : Hp) (Q : VK) : Prop := ∀ D, H1 D = none → ∃ W : Nat → Nat → St → List V → Hp → Prop,
  (∃ m, W 0 m τ0 [] (upd H1 D (.lst []))) ∧
  ∀ i m τ ys H, W i m τ ys H → H D = some (.lst ys) ∧ ((J.stop i H ∧ Q (.ref D) H) ∨ (J.go i H ∧ ys.length < sizeLine ∧ ∀ x H', J.yld i H x H' → g x τ H' fun τ2 H2 => ct τ2 H2 fun b H4 => if b = true then te τ2 H4 fun y H3 =>
    H3 D = some (.lst ys) ∧ ∃ m', m' < m ∧ W (i + 1) m' τ2 (ys ++ [y]) (upd H3 D (.lst (ys ++ [y]))) else ∃ m', m' < m ∧ W (i + 1) m' τ2 ys H4))
noncomputable def tCompI (wi : TI) (g : TG) (ct : TT) (te : TE) (k : Nat) (caps : List (Str × Nat)) : TE := fun σ H Q => wi σ H fun J H1 => CompBodyI J g ct te (List.replicate k none ++ capt σ caps) H1 Q

theorem comp_coreI {tg elt iter tst : Expr} {wi : TI} {g : TG} {ct : TT} {te : TE} {pos p2 : Pos} {use : Option (Value → Sem Unit)} {Q : VK} {Q' : Value → Shared → Prop} (S : CompScope X scope own caps) (hi : PI X tg iter wi) (hc : X.calm = true)
    (hg : ∀ fp s H, PG (cxComp X scope (own ++ caps.map (·.1)) fp s H) tg g) (hct : ∀ fp s H, PT (cxComp X scope (own ++ caps.map (·.1)) fp s H) tst ct) (he : ∀ fp s H, PE (cxComp X scope (own ++ caps.map (·.1)) fp s H) elt te)
    (I : Inv X pins σ H s) (h : tCompI wi g ct te own.length caps σ H Q)
    (fin : ∀ D C H5 s5, Inv X pins σ H5 s5 → Q (.ref D) H5 → (∃ m, s5.heap.Ns C m) → H5 C = none → C ≠ X.env.locals → X.s₀.heap.objs.size ≤ C → (∀ x c, X.env.cells.lookup x = some c → c ≠ C) → (∀ p ∈ X.pn ++ pins, p.1 ≠ C) →
      compPost (model X.prog X.w) X.A X.xe use Q' (.ref D) C (.ok .next) s5)
    (hs : ∀ x, foldedSetIterable iter X.env x = pure x := by intro _; rfl) :
    wpAny (model X.prog X.w) X.A (comprehension (.ListComp elt [⟨tg, iter, [tst], 0⟩] scope pos) scope X.env p2 (newList []) false (eval iter X.env) use) Q' X.xe s := by
  have hclos : closureFor scope X.env = pure (capsOf X.env.cells scope.names []) := closure_caps fun y hy hk => I.ok.has y.1 (.inl (S.frees y hy hk))
  refine wpAny_comprehension_free (g := ⟨tg, iter, [tst], 0⟩) (gs := []) rfl hs hclos S.kind S.locs (thn (hi pins s σ H _ I h) fun v s1 h1 => thn h1 fun itv s2 h2 => ?_)
  obtain ⟨it, fp, tn, J, H2, e, I2, T, st2, f2, R⟩ := h2
  subst e
  refine wpAny_newObj_type (wpAny_newFunctionEnv S.nocell (by intro y hy; simp at hy) (fun h₁ hns₁ hsb₁ => ?_) S.kind)
  have fr2 : H2 s2.heap.objs.size = none := I2.hok.fresh (Nat.le_refl _)
  obtain ⟨W, ⟨m0, w0⟩, turn⟩ := R s2.heap.objs.size fr2
  have I3 : Inv X pins σ (upd H2 s2.heap.objs.size (.lst [])) { s2 with heap := s2.heap.push { cls := .type "list", dict := none, data := .seq ([] : List Value).toArray } } := I2.lnew (its := []) (t' := s2.toks) .nil (Nat.zero_le _)
  have lt2 : ∀ b ∈ fp, b < s2.heap.objs.size := fun b hb => by
    obtain ⟨o, ho, _⟩ := T.obj _ _ st2 b hb
    exact Heap.lt_size ho
  have f3 : ∀ b ∈ fp, FpOk X pins (upd H2 s2.heap.objs.size (.lst [])) b := fun b hb => ⟨by rw [upd_ne (Nat.ne_of_lt (lt2 b hb))]; exact (f2 b hb).1, (f2 b hb).2⟩
  generalize hs3 : ({ s2 with heap := s2.heap.push { cls := .type "list", dict := none, data := .seq ([] : List Value).toArray } } : Shared) = s3 at I3
  have hz3 : s3.heap.objs.size = s2.heap.objs.size + 1 := by rw [← hs3]; exact Heap.size_push _ _
  have kp23 : ∀ b o, s2.heap.get? b = some o → s3.heap.get? b = some o := fun b o e => by rw [← hs3]; exact Heap.get?_push_of_some _ e
  have lt3 : ∀ b ∈ fp, b < s3.heap.objs.size := fun b hb => by rw [hz3]; exact Nat.lt_succ_of_lt (lt2 b hb)
  have hns₁' : h₁.Ns s3.heap.objs.size (fun x => ([] : List (Str × Value)).reverse.lookup x) := by rw [← hs3]; exact hns₁
  have kp31 : ∀ b o, s3.heap.get? b = some o → h₁.get? b = some o := fun b o e => by
    have hb : b ≠ s3.heap.objs.size := Nat.ne_of_lt (Heap.lt_size e)
    rw [← hs3] at e hb
    exact hsb₁.extBut b o hb (Heap.get?_push_of_some _ e)
  have J1 := comp_start S I3 f3 lt3 (t := s2.toks + ([] : List (Str × Value)).length) hns₁' kp31
  have st1 : tn 0 h₁ := T.keep _ _ _ st2 fun b hb o e => kp31 b o (kp23 b o e)
  -- the loop
  have loop : ∀ s₃ : Shared, s₃ = { s3 with heap := h₁, toks := s2.toks + ([] : List (Str × Value)).length } →
      codeAny (model X.prog X.w) X.A (.compLoop (.ListComp elt [⟨tg, iter, [tst], 0⟩] scope pos) 0 (.ref it) (.ref s2.heap.objs.size) (cxComp X scope (own ++ caps.map (·.1)) fp s3 (upd H2 s2.heap.objs.size (.lst []))).env)
        (compPost (model X.prog X.w) X.A X.xe use Q' (.ref s2.heap.objs.size) s3.heap.objs.size) s₃ := by
    rintro s₃ rfl
    refine comp_goI (fun n s' => ∃ i τ ys H', Inv (cxComp X scope (own ++ caps.map (·.1)) fp s3 (upd H2 s2.heap.objs.size (.lst []))) [] τ H' s' ∧ tn i s'.heap ∧ (∀ b ∈ fp, H' b = none) ∧ W i n τ ys H') ?_ m0
      ⟨0, _, [], _, J1, st1, fun b hb => (f3 b hb).1, w0⟩
    rintro n s' ⟨i, τ, ys, H', J', st', fr', w'⟩
    have fY : ∀ {H'' : Hp}, (∀ b ∈ fp, H'' b = none) → ∀ b ∈ fp, FpOk (cxComp X scope (own ++ caps.map (·.1)) fp s3 (upd H2 s2.heap.objs.size (.lst []))) [] H'' b := fun hn b hb =>
      ⟨hn b hb, Nat.ne_of_lt (lt3 b hb), fun z => by
          rcases List.mem_cons.mp (I3.stkSub b z) with e | e
          · exact (f3 b hb).2.1 e
          · exact (f3 b hb).2.2.1 e, .inl hb, fun x c e => (f3 b hb).2.2.2.2.1 x c (caps_cells e), (fun p hp => by cases hp)⟩
    obtain ⟨hD, tt⟩ := turn i n τ ys H' w'
    rcases tt with ⟨stop, qn⟩ | ⟨go, hlen, step⟩
    · refine thn (T.done (cxComp X scope (own ++ caps.map (·.1)) fp s3 (upd H2 s2.heap.objs.size (.lst []))) rfl rfl rfl hc i [] s' τ H' (fun _ _ => False) J' (fY fr') st' stop) fun r s4 ⟨hr, J4⟩ => ?_
      subst hr
      obtain ⟨m4, hn4, _⟩ := J4.loc
      have I5 := comp_back I3 J4 f3
      refine fin _ _ _ s4 I5 qn ⟨m4, hn4⟩ J4.free ?_ ?_ (fun x c e z => ?_) fun p hp z => ?_
      · exact Nat.ne_of_gt I3.lt
      · exact I3.sz
      · obtain ⟨v, q⟩ := I3.cell x c e
        rw [z] at q
        exact absurd q.lt (Nat.lt_irrefl _)
      · have q := (I3.pin p hp).1
        rw [z] at q
        exact absurd (Heap.lt_size q) (Nat.lt_irrefl _)
    · refine thn (T.item (cxComp X scope (own ++ caps.map (·.1)) fp s3 (upd H2 s2.heap.objs.size (.lst []))) rfl rfl rfl hc i [] s' τ H' (fun _ _ => False) J' (fY fr') st' go) fun r s4 ⟨u, hr, h4⟩ => ?_
      subst hr
      refine thn h4 fun _ s5 ⟨x, H5, J5, r5, y5, st5, fr5⟩ => ?_
      have J5' := J5.pinned (fY fr5) (T.obj _ _ st5)
      have keepsT : ∀ {τ6 : St} {H8 : Hp} {s8 : Shared}, Inv (cxComp X scope (own ++ caps.map (·.1)) fp s3 (upd H2 s2.heap.objs.size (.lst []))) ([] ++ pinsAt fp s5.heap) τ6 H8 s8 → tn (i + 1) s8.heap ∧ ∀ b ∈ fp, H8 b = none := fun {τ6 H8 s8} J8 => by
        refine ⟨T.keep _ _ _ st5 fun b hb o e => (J8.pin (b, o) (List.mem_append_right _ (List.mem_append_right _ (mem_pinsAt hb e)))).1, fun b hb => ?_⟩
        obtain ⟨o, e, d⟩ := T.obj _ _ st5 b hb
        exact (J8.pin (b, o) (List.mem_append_right _ (List.mem_append_right _ (mem_pinsAt hb e)))).2.1
      refine thn (hg fp s3 _ _ s5 τ H5 x u _ J5' r5 (step x H5 y5)) fun _ s6 ⟨τ6, H6, J6, q6⟩ => ?_
      refine thn (hct fp s3 _ _ s6 τ6 H6 _ J6 q6) fun ok s9 ⟨H9, J9, q9⟩ => ?_
      cases ok with
      | false =>
        obtain ⟨m', hm', w9⟩ := (show ∃ m', m' < n ∧ W (i + 1) m' τ6 ys H9 from q9)
        exact ⟨m', hm', i + 1, τ6, ys, _, J9.unpinned, (keepsT J9).1, (keepsT J9).2, w9⟩
      | true =>
        refine thn (he fp s3 _ _ s9 τ6 H9 _ J9 q9) fun yv s7 ⟨y, H7, J7, r7, hD7, m', hm', w7⟩ => ?_
        refine thn (mt_append (X := cxComp X scope (own ++ caps.map (·.1)) fp s3 (upd H2 s2.heap.objs.size (.lst []))) _ s7 τ6 H7 (.ref s2.heap.objs.size) [y] _ [yv] (fun _ H8 => H8 = upd H7 s2.heap.objs.size (.lst (ys ++ [y]))) J7 rfl (.cons r7 .nil) ⟨_, ys, y, rfl, rfl, hD7, hlen, rfl⟩) fun _ s8 ⟨_, H8, J8, _, e8⟩ => ?_
        subst e8
        exact ⟨m', hm', i + 1, τ6, ys ++ [y], _, J8.unpinned, (keepsT J8).1, (keepsT J8).2, w7⟩
  have hloop := loop _ rfl
  subst hs3
  exact codeAny_compStart_list hloop (T.self _ 0 _ _ _ st1 hloop)
theorem ps_setCompI {i : Nat} {y : Str} {tg elt iter tst : Expr} {wi : TI} {g : TG} {ct : TT} {te : TE} {pos spos py : Pos} (hN : X.N.Nodup) (hiN : X.N[i]? = some y) (hy : X.env.scope.names.lookup y = some .local) (S : CompScope X scope own caps) (hi : PI X tg iter wi) (hc : X.calm = true)
    (hg : ∀ fp s H, PG (cxComp X scope (own ++ caps.map (·.1)) fp s H) tg g) (hct : ∀ fp s H, PT (cxComp X scope (own ++ caps.map (·.1)) fp s H) tst ct) (he : ∀ fp s H, PE (cxComp X scope (own ++ caps.map (·.1)) fp s H) elt te)
    (hsw : swapsWith (.ListComp elt [⟨tg, iter, [tst], 0⟩] scope pos) (some (.Name y py)) spos.line X.env = pure true)
    (hs : ∀ x, foldedSetIterable iter X.env x = pure x := by intro _; rfl) : PS X (.Assign [.Name y py] (.ListComp elt [⟨tg, iter, [tst], 0⟩] scope pos) spos) (tAsg (tCompI wi g ct te own.length caps) (gName i)) := by
  intro pins s σ H D I h
  rw [exec_Assign_Name_used _ _ _ _ hsw]
  refine wpAny_bind (wpAny_standAt (wpAny_bind ?_))
  show wpAny _ X.A (do let _ ← comprehension (.ListComp elt [⟨tg, iter, [tst], 0⟩] scope pos) scope X.env _ (newList []) false (eval iter X.env) (some (assign (.Name y py) X.env))) _ _ s
  refine wpAny_bind (wpAny_mono (comp_coreI (use := some (assign (.Name y py) X.env)) (Q := fun x H1 => D.nx (σ.set i (some x)) H1) (Q' := fun _ s' => SP X pins D .next s') S hi hc hg hct he I h (fun A C H5 s5 I5 q ⟨m, hn⟩ hC hL hz hcell hpin => ?_) hs)
    (fun _ s' hq => wpAny_pure (wpAny_pure hq)) fun _ _ e => e)
  show wpAny _ X.A (assign (.Name y py) X.env (.ref A)) _ _ _
  refine wpAny_assign_Name (store_ok2 I5 hN hiN (.inl hy) (v := .ref A) rfl (fun s6 I6 ⟨a, hsb, ha⟩ => ?_) (.inr hy))
  have haC : C ≠ a := by
    rcases ha with ha | ha
    · rw [ha]; exact hL
    · exact fun z => hcell y a ha z.symm
  refine ⟨m, hn.sameBut hsb haC, fun h' hs' => ?_⟩
  exact ⟨_, H5, I6.turned (t' := s6.toks) (fun b o hb e => (hs'.2 b hb).trans e) hC hL (.inr hz) hcell hpin, q⟩
end
end L2
namespace L2
open PySem PySem.Spec PyProof.Rows

noncomputable def NKs (H : Hp) : NK → List V → Prop
  | [], vs => vs = []
  | .inl k :: ks, vs => ∃ vs', vs = kV k :: vs' ∧ NKs H ks vs'
  | .inr l :: ks, vs => ∃ b vs', vs = V.ref b :: vs' ∧ H b = some (.tup (l.map kV)) ∧ NKs H ks vs'
noncomputable def NKey (H : Hp) (k : NK) (a : Addr) : Prop := ∃ vs, H a = some (.tup vs) ∧ NKs H k vs
theorem NKs.keep {H H' : Hp} (ht : ∀ b ys, H b = some (.tup ys) → H' b = some (.tup ys)) : ∀ {k : NK} {vs : List V}, NKs H k vs → NKs H' k vs
  | [], vs, r => by rw [NKs] at r ⊢; exact r
  | .inl k :: ks, vs, r => by
    rw [NKs] at r ⊢
    obtain ⟨vs', e, r⟩ := r
    exact ⟨vs', e, NKs.keep ht r⟩
  | .inr l :: ks, vs, r => by
    rw [NKs] at r ⊢
    obtain ⟨b, vs', e, q, r⟩ := r
    exact ⟨b, vs', e, ht _ _ q, NKs.keep ht r⟩
theorem NKey.keep {H H' : Hp} {k : NK} {a : Addr} (ht : ∀ b ys, H b = some (.tup ys) → H' b = some (.tup ys)) (r : NKey H k a) : NKey H' k a := by
  obtain ⟨vs, e, r⟩ := r
  exact ⟨vs, ht _ _ e, r.keep ht⟩
section
variable {P : Program} {w : World} {H : Hp} {h : Heap}
theorem nks_of (ok : HOk P w H h) : ∀ {k : NK} {vs : List V} {us : List Value}, NKs H k vs → Vals vs us → NIt P w h k us
  | [], vs, us, r, q => by rw [NKs] at r; subst r; cases q; rw [NIt]
  | .inl k :: ks, vs, us, r, q => by
    rw [NKs] at r
    obtain ⟨vs', rfl, r⟩ := r
    cases q with
    | cons q1 q2 => rw [NIt]; exact ⟨_, _, rfl, kV_is q1, nks_of ok r q2⟩
  | .inr l :: ks, vs, us, r, q => by
    rw [NKs] at r
    obtain ⟨b, vs', rfl, e, r⟩ := r
    cases q with
    | cons q1 q2 =>
      rw [NIt]
      cases (show _ = Value.ref b from q1)
      exact ⟨b, _, rfl, key_of ok e, nks_of ok r q2⟩
theorem nkey_of {k : NK} {a : Addr} (ok : HOk P w H h) (r : NKey H k a) : IsNK P w h k a := by
  obtain ⟨vs, e, r⟩ := r
  obtain ⟨_, its, rv, p⟩ := (show ObjOk P w H h a (.tup vs) from ok a _ e)
  exact ⟨its, p, nks_of ok r rv⟩
end
noncomputable abbrev KN (H : Hp) : List (NK × V) → List (NK × Addr × Value) → Prop := Paired fun p q => p.1 = q.1 ∧ NKey H p.1 q.2.1 ∧ RelV p.2 q.2.2
theorem KN.val {H : Hp} {kvs : List (NK × V)} {xs : List (NK × Addr × Value)} (r : KN H kvs xs) (k : NK) : RelO (valV kvs k) ((atKey xs k).map (·.2)) := by
  induction r with
  | nil => exact True.intro
  | @cons p q ps qs h t ih =>
    obtain ⟨h1, _, h2⟩ := h
    by_cases e : p.1 = k
    · have e' : q.1 = k := h1.symm.trans e
      have b : atKey (q :: qs) k = some q.2 := by simp [atKey, List.find?_cons, e']
      rw [valV_pos e, b]; exact h2
    · have e' : ¬ q.1 = k := fun z => e (h1.trans z)
      have b : atKey (q :: qs) k = atKey qs k := by simp [atKey, List.find?_cons, e']
      rw [valV_neg e, b]; exact ih
theorem KN.keeps {H H' : Hp} {kvs : List (NK × V)} {xs : List (NK × Addr × Value)} (r : KN H kvs xs) (ht : ∀ b ys, H b = some (.tup ys) → H' b = some (.tup ys)) : KN H' kvs xs :=
  Paired.mapP r fun _ _ z => ⟨z.1, z.2.1.keep ht, z.2.2⟩
noncomputable def DN (P : Program) (w : World) (H : Hp) (a : Addr) (kvs : List (NK × V)) : Prop := kvs.length ≤ sizeLine ∧ (a == sysModules) = false ∧ ∃ (xs : List (NK × Addr × Value)) (o : Obj) (es : Array DictEntry) (ep : Nat),
  H a = some (.ext fun h => h.get? a = some o) ∧ KN H kvs xs ∧ o.ExactDict ∧ o.data = .dict es ep ∧ es.toList = xs.map (entryOfKey (nkKind P w)) ∧ (xs.map (·.1)).Nodup
theorem DN.keep {P : Program} {w : World} {H H' : Hp} {a : Addr} {kvs : List (NK × V)} (d : DN P w H a kvs) (ha : ∀ φ, H a = some (.ext φ) → H' a = some (.ext φ)) (ht : ∀ b ys, H b = some (.tup ys) → H' b = some (.tup ys)) : DN P w H' a kvs := by
  obtain ⟨z, hd, xs, o, es, ep, e, r, q⟩ := d
  exact ⟨z, hd, xs, o, es, ep, ha _ e, r.keeps ht, q⟩
theorem DN.same {P : Program} {w : World} {H H' : Hp} {a : Addr} {kvs : List (NK × V)} (d : DN P w H a kvs) (sm : Same H H') : DN P w H' a kvs := d.keep (fun φ => sm _ _) (fun b ys => sm _ _)
theorem DN.ext {P : Program} {w : World} {H : Hp} {a : Addr} {kvs : List (NK × V)} (d : DN P w H a kvs) : ∃ φ, H a = some (.ext φ) := by
  obtain ⟨_, _, xs, o, es, ep, e, _⟩ := d
  exact ⟨_, e⟩
theorem dn_rd {P : Program} {w : World} {H : Hp} {h : Heap} {a : Addr} {kvs : List (NK × V)} (ok : HOk P w H h) (d : DN P w H a kvs) : kvs.length ≤ sizeLine ∧ (a == sysModules) = false ∧
    ∃ xs, KN H kvs xs ∧ h.DictOfH (nkKind P w) a xs := by
  obtain ⟨z, hd, xs, o, es, ep, e, r, h2, h3, h4, h5⟩ := d
  obtain ⟨h1, _⟩ := (show ObjOk P w H h a (.ext fun h => h.get? a = some o) from ok a _ e)
  refine ⟨z, hd, xs, r, o, es, ep, h1, h2, h3, h4, fun x hx => ?_, h5⟩
  have all : ∀ {l : List (NK × V)} {m : List (NK × Addr × Value)}, KN H l m → ∀ x ∈ m, (nkKind P w).is h x.1 x.2.1 := by
    intro l m q
    induction q with
    | nil => intro x hx; exact nomatch hx
    | @cons p q ps qs hq t ih =>
      intro x hx
      rcases List.mem_cons.mp hx with e | hx
      · subst e
        exact nkey_of ok (by rw [← hq.1]; exact hq.2.1)
      · exact ih x hx
  exact all r x hx
theorem ext_ok {P : Program} {w : World} {H : Hp} {h : Heap} {a : Addr} {o : Obj} (e : h.get? a = some o) : ObjOk P w H h a (.ext fun h => h.get? a = some o) := ⟨e, ⟨o, e⟩, fun h1 h2 e1 k => k o e1⟩
section
variable {X : Cx} {pins : List (Addr × Obj)} {σ : St} {H : Hp} {s : Shared} {a b : Addr} {kvs kvs' : List (NK × V)} {k : NK} {y v : V} {u r : Value} {A : Around} {E : Value → Shared → Prop}
theorem dn_write {h' : Heap} {t' : Nat} {xs' : List (NK × Addr × Value)} (I : Inv X pins σ H s) (d : DN X.prog X.w H a kvs) (hs : Heap.SameBut a s.heap h') (dd : h'.DictOfH (nkKind X.prog X.w) a xs') (rel : KN H kvs' xs') (hl : kvs'.length ≤ sizeLine) :
    ∃ φ, Inv X pins σ (upd H a (.ext φ)) { s with heap := h', toks := t' } ∧ DN X.prog X.w (upd H a (.ext φ)) a kvs' := by
  obtain ⟨φ0, e0⟩ := d.ext
  have hd := d.2.1
  obtain ⟨q, es, ep, hq, h2, h3, h4, _, h5⟩ := dd
  have ht : ∀ c ys, H c = some (.tup ys) → (upd H a (.ext fun h => h.get? a = some q)) c = some (.tup ys) := fun c ys ec => by
    rw [upd_ne (ne_of ec e0 (fun z => nomatch z))]
    exact ec
  exact ⟨_, d_write I (by rw [e0]; exact True.intro) hs ⟨q, hq⟩ (ext_ok hq), hl, hd, xs', q, es, ep, upd_same, rel.keeps ht, h2, h3, h4, h5⟩
theorem KN.snoc {xs : List (NK × Addr × Value)} (rel : KN H kvs xs) (nk : NKey H k b) (rv : RelV v r) : KN H (kvs ++ [(k, v)]) (xs ++ [(k, b, r)]) := Paired.snoc rel ⟨rfl, nk, rv⟩
theorem dn_setdefault {Q : Value → Shared → Prop} (hu : A.units + 10 < cLine) (I : Inv X pins σ H s) (d : DN X.prog X.w H a kvs) (nk : NKey H k b) (rv : RelV v r) (hl : kvs.length < sizeLine)
    (h1 : ∀ v' w' s', valV kvs k = some v' → RelV v' w' → Inv X pins σ H s' → Q w' s') (h2 : valV kvs k = none → ∀ φ s', Inv X pins σ (upd H a (.ext φ)) s' → DN X.prog X.w (upd H a (.ext φ)) a (kvs ++ [(k, v)]) → Q r s') :
    wpAny (model X.prog X.w) A (call (.builtin "dict.setdefault") [.ref a, .ref b, r]) Q E s := by
  obtain ⟨z, hd, xs, rel, dd⟩ := dn_rd I.hok d
  have hz : xs.length ≤ sizeLine := by rw [← Paired.length rel]; exact z
  have ro := rel.val k
  refine call_meetsIn PySem.F.slot_dict_setdefault dd.typeIs PySem.F.entry_dict_setdefault (PySem.F.args_dict_setdefault_3 _ _ _) (meetsH_dict_setdefault (nkKind X.prog X.w) a b hd r)
    ⟨(show A.units + 1 + 5 < cLine by omega), k, xs, nkey_of I.hok nk, dd, hz, fun p hp => ?_, fun hn h' dd' hs => ?_⟩
  · rw [hp] at ro
    cases e : valV kvs k with
    | none => rw [e] at ro; exact ro.elim
    | some v' => rw [e] at ro; exact h1 v' _ _ e ro (I.tok _)
  · rw [hn] at ro
    cases e : valV kvs k with
    | some v' => rw [e] at ro; exact ro.elim
    | none =>
      obtain ⟨φ, I', d'⟩ := dn_write (t' := s.toks + (nkKind X.prog X.w).draws k) I d hs dd' (rel.snoc nk rv) (by rw [List.length_append]; exact hl)
      exact h2 e φ _ I' d'
end
noncomputable def tSetD (P : Program) (w : World) (td ty tx : TE) : TE := fun σ H Q => td σ H fun x H1 => ∃ a, x = .ref a ∧ (∃ kvs, DN P w H1 a kvs) ∧ ty σ H1 fun y H2 => tx σ H2 fun z H3 => ∃ kvs k b, DN P w H3 a kvs ∧ y = .ref b ∧ NKey H3 k b ∧ kvs.length < sizeLine ∧
  (∀ v, valV kvs k = some v → Q v H3) ∧ (valV kvs k = none → ∀ φ, DN P w (upd H3 a (.ext φ)) a (kvs ++ [(k, z)]) → Q z (upd H3 a (.ext φ)))
theorem isN_at {X : Cx} {pins : List (Addr × Obj)} {σ : St} {H : Hp} {s : Shared} {a : Addr} (I : Inv X pins σ H s) (d : ∃ kvs, DN X.prog X.w H a kvs) :
    s.TypeIs (.ref a) "dict" ∧ (∀ b, Value.ref a = .ref b → ∃ ob, s.heap.get? b = some ob ∧ ob.dict = none) ∧ (a == sysModules) = false := by
  obtain ⟨kvs, e⟩ := d
  obtain ⟨_, hd, xs, _, dd⟩ := dn_rd I.hok e
  refine ⟨dd.typeIs, fun b q => ?_, hd⟩
  cases q
  obtain ⟨ob, _, _, h1, h2, _⟩ := dd
  exact ⟨ob, h1, h2.2.1⟩
section
variable {X : Cx} {o e f : Expr} {apos cpos : Pos} {td ty tx : TE}
theorem pe_setD (hu : X.A.units + 10 < cLine) (ho : PE X o td) (he : PE X e ty) (hf : PE X f tx) (m : M2 X o "setdefault" apos e f cpos) : PE X (.Call (.Attribute o "setdefault" apos) [e, f] [] cpos) (tSetD X.prog X.w td ty tx) := by
  intro pins s σ H Q I h
  refine wpAny_Call_method m.base m.few m.line PySem.F.plainAttrs_dict PySem.F.slot_dict_setdefault PySem.F.type_dict_setdefault (thn (ho pins s σ H _ I h) fun u s1 ⟨x, H1, I1, rx, a, ex, d, q1⟩ => ?_)
  subst ex
  obtain rfl : u = Value.ref a := rx
  obtain ⟨t1, t2, _⟩ := isN_at I1 d
  refine ⟨t1, t2, ?_⟩
  rw [m.trees]
  refine Calls.callWith_builtin rfl (Calls.evalArgs_plain (Calls.spliced_cons (thn (he pins s1 σ H1 _ I1 q1) fun iv s2 ⟨y, H2, I2, ry, q2⟩ =>
    Calls.spliced_cons (thn (hf pins s2 σ H2 _ I2 q2) fun fv s3 ⟨z, H3, I3, rz, kvs, k, b, d3, ey, nk, hl, q3, q4⟩ => Calls.spliced_nil ?_))))
  subst ey
  obtain rfl : iv = Value.ref b := ry
  exact dn_setdefault hu I3 d3 nk rz hl (fun v' w' s4 e4 r4 I4 => ⟨v', H3, I4, r4, q3 v' e4⟩) fun hn φ s4 I4 d4 => ⟨z, _, I4, rz, q4 hn φ d4⟩
noncomputable def tDNewN (P : Program) (w : World) : TE := fun _ H Q => ∀ p φ, H p = none → DN P w (upd H p (.ext φ)) p [] → Q (.ref p) (upd H p (.ext φ))
theorem pe_dnewN {pos : Pos} : PE X (.Dict [] [] pos) (tDNewN X.prog X.w) := by
  intro pins s σ H Q I h
  have hd : (s.heap.objs.size == sysModules) = false := beq_eq_false_iff_ne.mpr (Ne.symm (Nat.ne_of_lt I.big))
  refine wpAny_Dict_empty ⟨.ref s.heap.objs.size, _, I.laid (a := s.heap.objs.size) (o := .ext fun h => h.get? s.heap.objs.size = some { cls := .type "dict", data := .dict #[] }) (t' := s.toks) (fun _ _ q => Heap.get?_push_of_some _ q) (Nat.le_refl _) (ext_ok (Heap.get?_push_size _ rfl)), rfl, h _ _ (I.hok.fresh (Nat.le_refl _)) ?_⟩
  exact ⟨Nat.zero_le _, hd, [], _, #[], 0, upd_same, .nil, ⟨rfl, rfl, rfl⟩, rfl, rfl, List.nodup_nil⟩
end
end L2
namespace Sw
inductive TM (S : Type) where
  | num (n : Int) | name (x : S) | of (x : S) (as : List Nat)
section
variable {S : Type}
inductive Eqv (ts : List (TM S)) (es : List (Nat × Nat)) : Nat → Nat → Prop where
  | refl (i : Nat) : Eqv ts es i i
  | symm {i j : Nat} : Eqv ts es i j → Eqv ts es j i
  | trans {i j k : Nat} : Eqv ts es i j → Eqv ts es j k → Eqv ts es i k
  | edge {i j : Nat} : (i, j) ∈ es → Eqv ts es i j
  | same {i j : Nat} {t : TM S} : ts[i]? = some t → ts[j]? = some t → Eqv ts es i j
  | cong {i j : Nat} {x : S} {as bs : List Nat} : ts[i]? = some (.of x as) → ts[j]? = some (.of x bs) → as.length = bs.length → (∀ (k a b : Nat), as[k]? = some a → bs[k]? = some b → Eqv ts es a b) → Eqv ts es i j
noncomputable def GoodL (ls : List Nat) : Prop := ∀ k v : Nat, ls[k]? = some v → v ≤ k ∧ ls[v]? = some v
noncomputable def ren (hi lo v : Nat) : Nat := if v = hi then lo else v
noncomputable def jn (ls : List Nat) (hi lo : Nat) : List Nat := ls.map (ren hi lo)
theorem jn_at {ls : List Nat} {hi lo k : Nat} : (jn ls hi lo)[k]? = (ls[k]?).map (ren hi lo) := by unfold jn; rw [List.getElem?_map]
theorem jn_len {ls : List Nat} {hi lo : Nat} : (jn ls hi lo).length = ls.length := by unfold jn; rw [List.length_map]
theorem good_jn {ls : List Nat} {hi lo : Nat} (g : GoodL ls) (hlo : ls[lo]? = some lo) (hl : lo < hi) : GoodL (jn ls hi lo) := by
  intro k v h
  rw [jn_at] at h
  cases e : ls[k]? with
  | none => rw [e] at h; cases h
  | some u =>
    rw [e] at h
    have h' : ren hi lo u = v := Option.some.inj h
    obtain ⟨g1, g2⟩ := g k u e
    unfold ren at h'
    by_cases hu : u = hi
    · rw [if_pos hu] at h'
      subst h'
      refine ⟨by omega, ?_⟩
      rw [jn_at, hlo]
      show some (ren hi lo lo) = some lo
      unfold ren
      rw [if_neg (by omega)]
    · rw [if_neg hu] at h'
      subst h'
      refine ⟨g1, ?_⟩
      rw [jn_at, g2]
      show some (ren hi lo u) = some u
      unfold ren
      rw [if_neg hu]
noncomputable def Sound (ts : List (TM S)) (es : List (Nat × Nat)) (ls : List Nat) : Prop := ∀ k v : Nat, ls[k]? = some v → Eqv ts es k v
theorem sound_jn {ts : List (TM S)} {es : List (Nat × Nat)} {ls : List Nat} {hi lo : Nat} (h : Sound ts es ls) (e : Eqv ts es hi lo) : Sound ts es (jn ls hi lo) := by
  intro k v q
  rw [jn_at] at q
  cases z : ls[k]? with
  | none => rw [z] at q; cases q
  | some u =>
    rw [z] at q
    have h' : ren hi lo u = v := Option.some.inj q
    have := h k u z
    unfold ren at h'
    by_cases hu : u = hi
    · rw [if_pos hu] at h'
      subst h' hu
      exact .trans this e
    · rw [if_neg hu] at h'
      subst h'
      exact this
noncomputable def Keeps (ls ls' : List Nat) : Prop := ∀ i j v : Nat, ls[i]? = some v → ls[j]? = some v → ∃ u, ls'[i]? = some u ∧ ls'[j]? = some u
theorem keeps_refl (ls : List Nat) : Keeps ls ls := fun i j v h1 h2 => ⟨v, h1, h2⟩
theorem Keeps.trans {a b c : List Nat} (h : Keeps a b) (h' : Keeps b c) : Keeps a c := fun i j v h1 h2 => by
  obtain ⟨u, e1, e2⟩ := h i j v h1 h2
  exact h' i j u e1 e2
theorem keeps_jn (ls : List Nat) (hi lo : Nat) : Keeps ls (jn ls hi lo) := fun i j v h1 h2 => ⟨ren hi lo v, by rw [jn_at, h1]; rfl, by rw [jn_at, h2]; rfl⟩
theorem sum_ren {hi lo : Nat} (hl : lo ≤ hi) : ∀ ls : List Nat, (ls.map (ren hi lo)).sum ≤ ls.sum
  | [] => Nat.le_refl _
  | v :: ls => by
    have := sum_ren hl ls
    rw [List.map_cons, List.sum_cons, List.sum_cons]
    have h1 : ren hi lo v ≤ v := by unfold ren; split <;> omega
    omega
theorem sum_jn {hi lo : Nat} (hl : lo < hi) : ∀ {ls : List Nat}, hi ∈ ls → (jn ls hi lo).sum < ls.sum
  | v :: ls, h => by
    unfold jn
    rw [List.map_cons, List.sum_cons, List.sum_cons]
    have h1 : ren hi lo v ≤ v := by unfold ren; split <;> omega
    have h2 := sum_ren (hi := hi) (lo := lo) (by omega) ls
    rcases List.mem_cons.mp h with e | e
    · have : ren hi lo v < v := by unfold ren; rw [if_pos e.symm]; omega
      omega
    · have := sum_jn hl e
      unfold jn at this
      omega
noncomputable def mix (ls : List Nat) (hi lo m : Nat) : List Nat := ls.mapIdx fun k v => if k < m then ren hi lo v else v
theorem mix_at {ls : List Nat} {hi lo m k : Nat} : (mix ls hi lo m)[k]? = (ls[k]?).map fun v => if k < m then ren hi lo v else v := by unfold mix; rw [List.getElem?_mapIdx]
theorem mix_len {ls : List Nat} {hi lo m : Nat} : (mix ls hi lo m).length = ls.length := by unfold mix; rw [List.length_mapIdx]
theorem mix_start {ls : List Nat} {hi lo : Nat} (g : GoodL ls) : mix ls hi lo hi = ls := by
  refine List.ext_getElem? fun k => ?_
  rw [mix_at]
  cases e : ls[k]? with
  | none => rfl
  | some v =>
    have := (g k v e).1
    show some _ = some _
    dsimp only
    by_cases hk : k < hi
    · rw [if_pos hk]; unfold ren; rw [if_neg (by omega)]
    · rw [if_neg hk]
theorem mix_set {ls : List Nat} {hi lo m v : Nat} (h : ls[m]? = some v) : (mix ls hi lo m).set m (ren hi lo v) = mix ls hi lo (m + 1) := by
  have hm := (List.getElem?_eq_some_iff.mp h).1
  refine List.ext_getElem? fun k => ?_
  rw [List.getElem?_set, mix_at, mix_at, mix_len]
  by_cases hk : m = k
  · subst hk
    rw [if_pos rfl, if_pos hm, h]
    show some _ = some _
    dsimp only
    rw [if_pos (by omega)]
  · rw [if_neg hk]
    cases e : ls[k]? with
    | none => rfl
    | some u =>
      show some _ = some _
      dsimp only
      by_cases h1 : k < m
      · rw [if_pos h1, if_pos (by omega)]
      · rw [if_neg h1, if_neg (by omega)]
theorem mix_stay {ls : List Nat} {hi lo m v : Nat} (h : ls[m]? = some v) (hv : v ≠ hi) : mix ls hi lo (m + 1) = mix ls hi lo m := by
  refine List.ext_getElem? fun k => ?_
  rw [mix_at, mix_at]
  by_cases hk : k = m
  · subst hk
    rw [h]
    show some _ = some _
    dsimp only
    rw [if_pos (by omega), if_neg (by omega)]
    unfold ren
    rw [if_neg hv]
  · cases e : ls[k]? with
    | none => rfl
    | some u =>
      show some _ = some _
      dsimp only
      by_cases h1 : k < m
      · rw [if_pos h1, if_pos (by omega)]
      · rw [if_neg h1, if_neg (by omega)]
theorem mix_end {ls : List Nat} {hi lo m : Nat} (h : ls.length ≤ m) : mix ls hi lo m = jn ls hi lo := by
  refine List.ext_getElem? fun k => ?_
  rw [mix_at, jn_at]
  cases e : ls[k]? with
  | none => rfl
  | some u =>
    have := (List.getElem?_eq_some_iff.mp e).1
    show some _ = some _
    dsimp only
    rw [if_pos (by omega)]
noncomputable def mk (ls : List Nat) : TM S → TM S
  | .num n => .num n
  | .name x => .name x
  | .of x as => .of x (as.map fun a => ls.getD a 0)
noncomputable def Stands (ts : List (TM S)) (es : List (Nat × Nat)) : TM S → TM S → Prop
  | .of x as, .of y vs => x = y ∧ as.length = vs.length ∧ ∀ k a v : Nat, as[k]? = some a → vs[k]? = some v → Eqv ts es a v
  | t, m => t = m
theorem stands_mk {ts : List (TM S)} {es : List (Nat × Nat)} {ls : List Nat} (h : Sound ts es ls) : ∀ {t : TM S}, (∀ x as, t = .of x as → ∀ a ∈ as, a < ls.length) → Stands ts es t (mk ls t)
  | .num n, _ => rfl
  | .name x, _ => rfl
  | .of x as, hb => by
    refine ⟨rfl, by rw [List.length_map], fun k a v h1 h2 => ?_⟩
    rw [List.getElem?_map, h1] at h2
    have e : ls.getD a 0 = v := Option.some.inj h2
    have ha := hb x as rfl a (List.mem_of_getElem? h1)
    rw [List.getD_eq_getElem?_getD, List.getElem?_eq_getElem ha] at e
    refine h a v ?_
    rw [List.getElem?_eq_getElem ha, ← e]
    rfl
theorem stands_eqv {ts : List (TM S)} {es : List (Nat × Nat)} {i j : Nat} {t u m : TM S} (hi : ts[i]? = some t) (hj : ts[j]? = some u) (h1 : Stands ts es t m) (h2 : Stands ts es u m) : Eqv ts es i j := by
  cases t with
  | num n =>
    have e : TM.num n = m := h1
    subst e
    cases u with
    | num k => cases (show TM.num k = TM.num n from h2); exact .same hi hj
    | name y => cases (show TM.name y = TM.num n from h2)
    | of y bs => cases (show TM.of y bs = TM.num n from h2)
  | name x =>
    have e : TM.name x = m := h1
    subst e
    cases u with
    | num k => cases (show TM.num k = TM.name x from h2)
    | name y => cases (show TM.name y = TM.name x from h2); exact .same hi hj
    | of y bs => cases (show TM.of y bs = TM.name x from h2)
  | of x as =>
    cases m with
    | num k => cases (show TM.of x as = TM.num k from h1)
    | name y => cases (show TM.of x as = TM.name y from h1)
    | of y vs =>
      obtain ⟨rfl, l1, q1⟩ := h1
      cases u with
      | num k => cases (show TM.num k = TM.of x vs from h2)
      | name z => cases (show TM.name z = TM.of x vs from h2)
      | of z bs =>
        obtain ⟨rfl, l2, q2⟩ := h2
        refine .cong hi hj (by omega) fun k a b ha hb => ?_
        have hk : k < vs.length := by have := (List.getElem?_eq_some_iff.mp ha).1; omega
        exact .trans (q1 k a _ ha (List.getElem?_eq_getElem hk)) (.symm (q2 k b _ hb (List.getElem?_eq_getElem hk)))
noncomputable def Closed (ts : List (TM S)) (es : List (Nat × Nat)) (ls : List Nat) : Prop :=
  ls.length = ts.length ∧ GoodL ls ∧ Sound ts es ls ∧ ∀ i j : Nat, i < ts.length → j < ts.length → Eqv ts es i j → ls[i]? = ls[j]?
noncomputable def Arms (ts : List (TM S)) : Prop := ∀ (i : Nat) (x : S) (as : List Nat), ts[i]? = some (.of x as) → ∀ a ∈ as, a < i
theorem complete {ts : List (TM S)} {es : List (Nat × Nat)} {ls : List Nat} (ha : Arms ts) (he : ∀ a b : Nat, (a, b) ∈ es → a < ts.length ∧ b < ts.length) (hl : ls.length = ts.length)
    (h1 : ∀ a b : Nat, (a, b) ∈ es → ls[a]? = ls[b]?) (h2 : ∀ (i j : Nat) (t u : TM S), ts[i]? = some t → ts[j]? = some u → mk ls t = mk ls u → ls[i]? = ls[j]?) {i j : Nat} (h : Eqv ts es i j) : ls[i]? = ls[j]? := by
  induction h with
  | refl i => rfl
  | symm _ ih => exact ih.symm
  | trans _ _ ih1 ih2 => exact ih1.trans ih2
  | edge h => exact h1 _ _ h
  | same q1 q2 => exact h2 _ _ _ _ q1 q2 rfl
  | @cong i j x as bs q1 q2 hl' _ ih =>
    refine h2 _ _ _ _ q1 q2 ?_
    have e : as.map (fun a => ls.getD a 0) = bs.map (fun a => ls.getD a 0) := by
      refine List.ext_getElem? fun k => ?_
      rw [List.getElem?_map, List.getElem?_map]
      by_cases hk : k < as.length
      · have e1 := List.getElem?_eq_getElem (l := as) hk
        have e2 := List.getElem?_eq_getElem (l := bs) (show k < bs.length by omega)
        have := ih k _ _ e1 e2
        rw [e1, e2]
        show some (ls.getD _ 0) = some (ls.getD _ 0)
        rw [List.getD_eq_getElem?_getD, List.getD_eq_getElem?_getD, this]
      · rw [List.getElem?_eq_none (by omega), List.getElem?_eq_none (by omega)]
    show TM.of x _ = TM.of x _
    rw [e]
theorem good_id (n : Nat) : GoodL (List.range n) := fun k v h => by
  have hk : k < (List.range n).length := (List.getElem?_eq_some_iff.mp h).1
  rw [List.length_range] at hk
  rw [List.getElem?_range hk] at h
  cases h
  exact ⟨Nat.le_refl _, List.getElem?_range hk⟩
theorem sound_id (ts : List (TM S)) (es : List (Nat × Nat)) (n : Nat) : Sound ts es (List.range n) := fun k v h => by
  have hk : k < (List.range n).length := (List.getElem?_eq_some_iff.mp h).1
  rw [List.length_range] at hk
  rw [List.getElem?_range hk] at h
  cases h
  exact .refl _
end
end Sw
namespace L2
open PySem PySem.Spec PyProof.Rows
theorem call_isXT {X : Cx} {x : Str} {C : Addr} (O : Exc X.K X.mg x C) (Z : ExcI X.K C) :
    CallR X (.builtin "isinstance") (fun xs H Q => ∃ ea tp cs cvs b, xs = [.ref ea, .ref tp] ∧ H ea = some (XO ea C) ∧ H tp = some (.tup cs) ∧ (∀ us, Vals cs us → us = cvs) ∧ PySem.W.kitAny X.K (.ref C) cvs = some b ∧ Q (.bl b) H) := by
  intro pins s σ H xs us Q I r h
  obtain ⟨ea, tp, cs, cvs, b, rfl, hea, htp, hcv, e, q⟩ := h
  obtain ⟨u, w', rfl, rx, ry⟩ := vals2 r
  cases (show u = Value.ref ea from rx)
  obtain ⟨⟨o, h1, h2⟩, _⟩ := (show ObjOk X.prog X.w H s.heap ea (XO ea C) from I.hok ea _ hea)
  cases (show w' = Value.ref tp from ry)
  obtain ⟨_, its, rv, ot, g1, g2, n, g3⟩ := (show ObjOk X.prog X.w H s.heap tp (.tup cs) from I.hok tp _ htp)
  have hits := hcv its rv
  subst hits
  obtain ⟨cls, dd0, data, sl⟩ := ot
  simp only at g2 g3
  subst g2 g3
  obtain ⟨bm, N, nm, qn, bs, hdct, sn, sub, ab, col, dd, k0, k1, k2, k3, k5, mN, hC, hN, hni, TL⟩ := (O.own I.kIn).obj
  have hob : bm.contains (.type "object") = true := TL.hasType (by decide +kernel)
  have hbb : bm.contains (.type "BaseException") = true := TL.hasType (by decide +kernel)
  have Zx : PySem.W.KitX X.K (.ref ea) (.ref C) (fun h => (∃ o, h.get? ea = some o ∧ o.cls = .ref C)) := {
    ty := fun M h _ p => by
      obtain ⟨o, h1, h2⟩ := p
      exact h2 ▸ (PySem.W.Looks.ld h1).andThen .now
    it := fun M h XX _ => by
      obtain ⟨bm, N, nm, qn, bs, hdct, sn, sub, ab, col, dd, k0, k1, k2, k3, k5, mN, hC, _⟩ := (O.own XX).obj
      intro A' Q' E' s' k q
      unfold isType loadHead
      exact wpAny_bind (wpAny_loadPart (k _ _ hC) (wpAny_pure q))
    ne := fun h tp dd' its n sl XX htp => by
      obtain ⟨bm, N, nm, qn, bs, hdct, sn, sub, ab, col, dd, k0, k1, k2, k3, k5, mN, hC, _⟩ := (O.own XX).obj
      refine Bool.eq_false_iff.mpr fun q => ?_
      have e : C = tp := Value.ref.inj (beq_iff_eq.mp q)
      subst e
      rw [hC] at htp
      have z2 := congrArg Obj.cls (Option.some.inj htp)
      exact absurd (Value.type.inj z2) (by decide)
    ca := fun {prog w A E Q s} XX p hq => by
      obtain ⟨bm, N, nm, qn, bs, hdct, sn, sub, ab, col, dd, k0, k1, k2, k3, k5, mN, hC, hN, hni, TL⟩ := (O.own XX).obj
      obtain ⟨o, h1, h2⟩ := p
      obtain ⟨hp, g, d, t, os⟩ := s
      exact xc_attr hC (TL.hasType (by decide +kernel)) (TL.hasType (by decide +kernel)) (PySem.W.looks_findIn XX Z.cl) (PySem.W.looks_findIn XX Z.ga) (PySem.W.looks_findIn XX Z.gn) h1 h2 hq }
  exact PySem.W.kia_tup Zx I.kIn ⟨o, h1, h2⟩ g1 e (fun z => nomatch z) fun tk => ⟨.bl b, H, I.tok _, rfl, q⟩
theorem call_isXKT {X : Cx} {K : PySem.W.Frag} (hK : X.K = K) {x : Str} {C : Addr} (O : Exc K X.mg x C) (Z : ExcI K C) :
    CallR X (.builtin "isinstance") (fun xs H Q => ∃ ea tp cs cvs b, xs = [.ref ea, .ref tp] ∧ H ea = some (XO ea C) ∧ H tp = some (.tup cs) ∧ (∀ us, Vals cs us → us = cvs) ∧ PySem.W.kitAny K (.ref C) cvs = some b ∧ Q (.bl b) H) := by
  subst hK
  exact call_isXT O Z
end L2
namespace L2
open PySem PySem.Spec PyProof.Rows

section
variable {X : Cx}
inductive J_call_range1V (xs : List V) (H : Hp) (Q : VK) : Prop
  | mk : ∀ (j : Int), (xs = [.int j]) → (∀ p, H p = none → Q (.ref p) (upd H p (.rng 0 j))) → J_call_range1V xs H Q
theorem call_range1V : CallR X (.type "range") (fun xs H Q => J_call_range1V xs H Q) := by
  intro pins s σ H xs us Q I r h
  obtain ⟨j, rfl, q⟩ := h
  obtain ⟨u, rfl, ru⟩ := vals1 r
  obtain ⟨t, rfl⟩ := ru
  exact call_range_1 ⟨.ref s.heap.objs.size, _, I.laid (a := s.heap.objs.size) (o := .rng 0 j) (fun _ _ q => Heap.get?_push_of_some _ q) (Nat.le_refl _) ⟨_, _, _, Heap.get?_push_size _ rfl⟩, rfl, q _ (I.hok.fresh (Nat.le_refl _))⟩
inductive J_call_list_rng (xs : List V) (H : Hp) (Q : VK) : Prop
  | mk : ∀ (p : Addr) (n : Nat), (xs = [.ref p]) → (H p = some (.rng 0 (n : Int))) → (n ≤ 1000000) → (∀ l, H l = none → Q (.ref l) (upd H l (.lst ((List.range n).map fun i : Nat => V.int (i : Int))))) → J_call_list_rng xs H Q
theorem call_list_rng (hc : X.calm = true) : CallR X (.type "list") (fun xs H Q => J_call_list_rng xs H Q) := by
  intro pins s σ H xs us Q I r h
  obtain ⟨p, n, rfl, hp, hn, q⟩ := h
  obtain ⟨u, rfl, ru⟩ := vals1 r
  cases (show u = Value.ref p from ru)
  obtain ⟨t, t', t'', e⟩ := (show ObjOk X.prog X.w H s.heap p (.rng 0 (n : Int)) from I.hok p _ hp)
  have hz : Builtin.Range.rangeSize 0 (n : Int) 1 = n := by rw [rangeSize_one]; split <;> omega
  refine call_list_range (I.ok.hd hc) e (small_one (by omega) (by omega) (by omega) (by omega)) hz (by omega) fun h' tk acc' c' kp hS hacc => ?_
  refine ⟨.ref s.heap.objs.size, _, I.laid kp (Nat.le_refl _) (show ObjOk X.prog X.w _ h' _ (.lst ((List.range n).map fun i : Nat => V.int (i : Int))) from ⟨?_, acc'.toList, c', ?_, by simpa using hS⟩), rfl, q _ (I.hok.fresh (Nat.le_refl _))⟩
  · rw [List.length_map, List.length_range]
    exact Nat.le_trans hn (by decide)
  · refine valsBy (by rw [List.length_map, List.length_range, Array.length_toList]; exact hacc.1.symm) fun j x v hx hv => ?_
    obtain ⟨t2, ht2⟩ := hacc.2 j v (by rw [← Array.getElem?_toList]; exact hv)
    rw [List.getElem?_map] at hx
    have hj : j < n := by
      have := (List.getElem?_eq_some_iff.mp hv).1
      rw [Array.length_toList, hacc.1] at this
      exact this
    rw [List.getElem?_range hj] at hx
    have ex : V.int ((j : Nat) : Int) = x := Option.some.inj hx
    rw [← ex, ht2]
    exact ⟨t2, by congr 1; omega⟩
where
  valsBy : ∀ {xs : List V} {us : List Value}, xs.length = us.length → (∀ (j : Nat) x u, xs[j]? = some x → us[j]? = some u → RelV x u) → Vals xs us
  | [], [], _, _ => .nil
  | [], _ :: _, h, _ => by cases h
  | _ :: _, [], h, _ => by cases h
  | x :: xs, u :: us, h, f => .cons (f 0 x u rfl rfl) (valsBy (by simpa using h) fun j a b ha hb => f (j + 1) a b (by simpa using ha) (by simpa using hb))
end
theorem un10 {k : Nat} {A : Around} (hr : Room k A) : A.units + 10 < cLine := by have := hr.un; omega
theorem un101 {k : Nat} {A : Around} (hr : Room k A) : A.units + 151 < cLine := by have := hr.un; omega
inductive J_op_mul_str0 (x : V) (y : V) (H : Hp) (Q : VK) : Prop
  | mk : ∀ z n, (x = .str z) → (y = .int n) → (0 ≤ n) → (n ≤ 1000) → (z.length ≤ 1000) → (Q (.str (timesS z n.toNat)) H) → J_op_mul_str0 x y H Q
theorem op_mul_str0 {X : Cx} : OpR X (binaryOp .Mult) (fun x y H Q => J_op_mul_str0 x y H Q) := by
  intro pins s σ H x y v u Q I rx ry h
  obtain ⟨z, n, rfl, rfl, h1, h2, h3, q⟩ := h
  by_cases h0 : n = 0
  · subst h0
    obtain ⟨t, rfl⟩ := rx
    obtain ⟨t', rfl⟩ := ry
    exact PySem.P.mul_str_none (by omega) (by omega) ⟨.str (timesS z 0), H, I.tok _, ⟨_, rfl⟩, q⟩
  · exact op_mul_str pins s σ H _ _ v u Q I rx ry ⟨z, n, rfl, rfl, by omega, h2, h3, q⟩
theorem compI_range {lo : Int} {n : Nat} {ct : TT} {te : TE} {σ : St} {caps : List (Str × Nat)} {H : Hp} {Q : VK} (f : Int → Option V) (hn : n ≤ 1000)
    (hel : ∀ (i : Nat), i < n → ∀ H', Same H H' → ∀ (R : Bool → Hp → Prop), (R (f (lo + i)).isSome H') → ct (some (.int (lo + i)) :: capt σ caps) H' R)
    (hev : ∀ (i : Nat) v, i < n → f (lo + i) = some v → ∀ H', Same H H' → ∀ Q' : VK, Q' v H' → te (some (.int (lo + i)) :: capt σ caps) H' Q')
    (hq : ∀ D, H D = none → Q (.ref D) (upd H D (.lst ((List.range n).filterMap fun i : Nat => f (lo + i))))) :
    CompBodyI (Itr lo n) (gName 0) ct te (List.replicate 1 none ++ capt σ caps) H Q := by
  intro D hD
  refine ⟨fun i m τ zs H' => m = n - i ∧ i ≤ n ∧ (∃ o, τ = o :: capt σ caps) ∧ zs = (List.range i).filterMap (fun i : Nat => f (lo + i)) ∧ H' = upd H D (.lst zs), ⟨n, by simp, Nat.zero_le _, ⟨none, rfl⟩, by simp, rfl⟩, ?_⟩
  rintro i m τ zs H' ⟨rfl, hi, ⟨o, rfl⟩, rfl, rfl⟩
  refine ⟨upd_same, ?_⟩
  have sm : ∀ zs, Same H (upd H D (.lst zs)) := fun zs => same_new hD _
  by_cases hlt : i < n
  · refine .inr ⟨hlt, ?_, fun x H'' y => ?_⟩
    · refine small1000 (Nat.le_trans (List.length_filterMap_le _ _) ?_)
      rw [List.length_range]; omega
    obtain ⟨e, e2⟩ := y
    subst e e2
    show ct (some (.int (lo + (i : Int))) :: capt σ caps) _ _
    refine hel i hlt _ (sm _) _ ?_
    have step : (List.range (i + 1)).filterMap (fun i : Nat => f (lo + i)) = (List.range i).filterMap (fun i : Nat => f (lo + i)) ++ (match f (lo + i) with | some v => [v] | none => []) := by
      rw [List.range_succ, List.filterMap_append]
      congr 1
      rw [List.filterMap_cons, List.filterMap_nil]
      cases f (lo + (i : Int)) <;> rfl
    cases e : f (lo + (i : Int)) with
    | none =>
      rw [e] at step
      refine ⟨n - (i + 1), by omega, rfl, hlt, ⟨_, rfl⟩, ?_, rfl⟩
      rw [step, List.append_nil]
    | some v =>
      rw [e] at step
      refine hev i v hlt e _ (sm _) _ ?_
      refine ⟨upd_same, n - (i + 1), by omega, rfl, hlt, ⟨_, rfl⟩, step.symm, ?_⟩
      rw [upd_upd]
  · have e : i = n := by omega
    subst e
    exact .inl ⟨Nat.le_refl _, hq D hD⟩
end L2
namespace L2
open PySem PySem.Spec PyProof.Rows

section
variable {prog : Program} {w : World} {K : Type} [DecidableEq K] {knd : HeapKind prog w K} {A : Around} {E : Value → Shared → Prop} {s : Shared} {d : Addr} {xs : List (K × Addr × Value)}
end
section
variable {X : Cx} {pins : List (Addr × Obj)} {σ : St} {H : Hp} {s : Shared} {a b : Addr} {kvs kvs' : List (NK × V)} {k : NK} {y v : V} {u r : Value} {A : Around} {E : Value → Shared → Prop}
end
section
variable {X : Cx} {o i e f value : Expr} {pos pos' apos cpos : Pos} {td ty tv : TE}
end
end L2
namespace L2
open PySem PySem.Spec PyProof.Rows

theorem vals_bl : ∀ {bs : List Bool} {us : List Value}, Vals (bs.map V.bl) us → us = bs.map Value.bool
  | [], _, r => by cases r; rfl
  | b :: bs, _, r => by
    rw [List.map_cons] at r
    cases r with
    | cons h t => rw [vals_bl t, List.map_cons, show _ = Value.bool b from h]
section
variable {X : Cx}
inductive J_call_allL (kK : PySem.W.Frag) (xs : List V) (H : Hp) (Q : VK) : Prop
  | mk : ∀ (p : Addr) (bs : List Bool), (xs = [.ref p]) → (SqL kK H p (bs.map V.bl)) → (Q (.bl (bs.all id)) H) → J_call_allL kK xs H Q
theorem call_allL (hc : X.calm = true) : CallR X (.builtin "all") (fun xs H Q => J_call_allL X.K xs H Q) := by
  intro pins s σ H xs us Q I r h
  obtain ⟨p, bs, rfl, hq, q⟩ := h
  obtain ⟨u, rfl, ru⟩ := vals1 r
  cases ru
  obtain ⟨its, rv, pl, hz⟩ := I.list hq
  have e := vals_bl rv
  subst e
  have hlt : p < s.heap.objs.size := by obtain ⟨_, e, _⟩ := pl.isList; exact Heap.lt_size e
  refine call_all_walk (wpAny_pyIter_list pl.isList ?_)
  refine ⟨_, _, _, _, _, _, fun i => bs.getD i false, rfl, Walks.list (A := X.A.in1) (I.ok.hd hc) _ p (Nat.ne_of_lt hlt) (bs.map Value.bool).toArray, ⟨⟨_, Heap.get?_push_size _ rfl, rfl, rfl⟩, pl.isList.push _⟩, fun i v s' Q' E' hv hQ' => ?_, fun h' tk hk => ?_⟩
  · have hv' : (bs.map Value.bool)[i]? = some v := by simpa using hv
    rw [List.getElem?_map] at hv'
    cases e : bs[i]? with
    | none => rw [e] at hv'; cases hv'
    | some b =>
      rw [e] at hv'
      have e1 : Value.bool b = v := Option.some.inj hv'
      subst e1
      have e2 : bs.getD i false = b := by rw [List.getD_eq_getElem?_getD, e]; rfl
      have hQ2 : Q' b s' := e2 ▸ hQ'
      exact wpAny_truthy_bool hQ2
  · have ea : (List.range (bs.map Value.bool).toArray.size).all (fun i => bs.getD i false) = bs.all id := by
      have hs : (bs.map Value.bool).toArray.size = bs.length := by simp
      rw [hs, Bool.eq_iff_iff, List.all_eq_true, List.all_eq_true]
      constructor
      · intro h b hb
        obtain ⟨i, hi⟩ := List.mem_iff_getElem?.mp hb
        have hl := (List.getElem?_eq_some_iff.mp hi).1
        have := h i (List.mem_range.mpr hl)
        rw [List.getD_eq_getElem?_getD, hi] at this
        exact this
      · intro h i hi
        have hl := List.mem_range.mp hi
        have e := List.getElem?_eq_getElem hl
        rw [List.getD_eq_getElem?_getD, e]
        exact h _ (List.getElem_mem hl)
    rw [ea]
    exact ⟨.bl (bs.all id), H, I.kept fun b o e => old_kept hk b o e, rfl, q⟩
variable {o : Expr} {apos cpos : Pos} {td : TE}
end
section
variable {X : Cx} {tg l : Expr} {tl : TE}
end
end L2
namespace L2
open PySem PySem.Spec PyProof.Rows

section
variable {X : Cx} {pins : List (Addr × Obj)} {σ : St} {H : Hp} {s : Shared} {a : Addr} {kvs : List (Key × V)} {k : Key} {v : V} {u r : Value} {A : Around} {E : Value → Shared → Prop}
end
section
variable {X : Cx} {o e f : Expr} {apos cpos : Pos} {td ty tx : TE}
end
theorem boot_dict_ : bootBuiltins "dict" = some (.type "dict") := by decide +kernel
theorem boot_all_ : bootBuiltins "all" = some (.builtin "all") := by decide +kernel
theorem comp_listP {β : Type} {R : Hp → V → β → Prop} {K : PySem.W.Frag} {a : Addr} {xs : List V} {bs : List β} {te : TE} {σ : St} {caps : List (Str × Nat)} {H : Hp} {Q : VK} (kp : ∀ (H H' : Hp) v b, (∀ c ys, H c = some (.tup ys) → H' c = some (.tup ys)) → R H v b → R H' v b)
    (hS : SqL K H a xs) (hz : xs.length ≤ 1000) (hy : bs.length = xs.length)
    (hel : ∀ (i : Nat) (x : V) (b : β), xs[i]? = some x → bs[i]? = some b → ∀ H', Same H H' → ∀ Q' : VK, (∀ y H'', Same H' H'' → R H'' y b → Q' y H'') → te (some x :: capt σ caps) H' Q')
    (hq : ∀ D H' ys, H D = none → Same H H' → H' D = some (.lst ys) → Paired (R H') ys bs → Q (.ref D) H') :
    CompBody (Itl K a) (gName 0) te (List.replicate 1 none ++ capt σ caps) H Q := by
  intro D hD
  refine ⟨fun i m τ zs H' => m = xs.length - i ∧ i ≤ xs.length ∧ (∃ o, τ = o :: capt σ caps) ∧ Paired (R H') zs (bs.take i) ∧ Same H H' ∧ H' D = some (.lst zs), ⟨xs.length, by simp, Nat.zero_le _, ⟨none, rfl⟩, .nil, same_new hD _, upd_same⟩, ?_⟩
  rintro i m τ zs H' ⟨rfl, hi, ⟨o, rfl⟩, hzs, sm, hDl⟩
  refine ⟨hDl, ?_⟩
  have hlz := Paired.length hzs
  rw [List.length_take] at hlz
  by_cases hlt : i < xs.length
  · refine .inr ⟨⟨xs, xs[i], sm.seq hS, by simp [hlt]⟩, small1000 (by omega), fun x H'' y => ?_⟩
    obtain ⟨e, y⟩ := y
    subst e
    have hx := y xs (sm.seq hS)
    have hdi : bs[i]? = some bs[i] := List.getElem?_eq_getElem (by omega)
    show te (some x :: capt σ caps) _ _
    refine hel i x bs[i] hx hdi _ sm _ (fun v H2 s2 hv => ?_)
    have hD2 := s2 _ _ hDl
    have k2 : ∀ b ys, H2 b = some (.tup ys) → (upd H2 D (.lst (zs ++ [v]))) b = some (.tup ys) := fun b ys e => by rw [upd_ne (ne_of e hD2 (fun z => nomatch z))]; exact e
    refine ⟨hD2, xs.length - (i + 1), by omega, rfl, hlt, ⟨_, rfl⟩, ?_, (sm.trans s2).put hD, upd_same⟩
    have e1 : bs.take (i + 1) = bs.take i ++ [bs[i]] := by rw [List.take_add_one, hdi]; rfl
    rw [e1]
    exact Paired.snoc (Paired.mapP hzs fun v b r => kp _ _ v b k2 (kp _ _ v b (fun c ys => s2 _ _) r)) (kp _ _ _ _ k2 hv)
  · have e : i = xs.length := by omega
    subst e
    refine .inl ⟨⟨xs, sm.seq hS, Nat.le_refl _⟩, ?_⟩
    rw [← hy, List.take_length] at hzs
    exact hq D H' zs hD sm hDl hzs
end L2
namespace PySem
section
variable {prog : Program} {w : World} {A : Around} {E : Value → Shared → Prop} {s : Shared}
end
section
variable {prog : Program} {w : World} {A : Around} {s : Shared} {R : Result → Shared → Prop} {I l : Addr} {items : Array Value}
end
section
variable {prog : Program} {w : World} {A : Around} {E : Value → Shared → Prop} {s : Shared} {I l : Addr} {items : Array Value}
end
end PySem
namespace L2
open PySem PySem.Spec PyProof.Rows
theorem boot_reversed_ : bootBuiltins "reversed" = some (.type "reversed") := by rfl
end L2
namespace L2
open PySem PySem.Spec PyProof.Rows
noncomputable def Itv (a : Addr) (n : Nat) : It :=
  ⟨fun i H => i < n ∧ ∃ xs, H a = some (.lst xs) ∧ xs.length = n, fun i H x H' => H' = H ∧ ∀ xs, H a = some (.lst xs) → xs[n - 1 - i]? = some x, fun i _ => i = n⟩
theorem turn_rev {P : Program} {w : World} {K : PySem.W.Frag} {tg : Expr} (a it : Addr) (n : Nat) : Turn P w K tg (Itv a n) [it] it (fun i h => h.IsRevIter it a ((n : Int) - 1 - (i : Int))) where
  mem := by simp
  obj := fun i h st b hb => by
    have e : b = it := by simpa using hb
    subst e
    obtain ⟨o, e, c, d⟩ := st
    exact ⟨o, e, fun v z => by rw [d] at z; cases z⟩
  keep := fun i h h' st k => st.at fun o e => k it (by simp) o e
  item := by
    intro X hP hw hK hc i pins s σ H E I hf st hg
    subst hP hw hK
    obtain ⟨hi, xs, hq, hn⟩ := hg
    obtain ⟨hz, its, m, rv, e⟩ := I.hok a _ hq
    have hl := rv.length
    have hx : xs[n - 1 - i]? = some (xs[n - 1 - i]'(by omega)) := List.getElem?_eq_getElem (by omega)
    obtain ⟨u, hu, ru⟩ := rv.get hx
    obtain ⟨f0, f1, f2, f3, f4, f5⟩ := hf it (by simp)
    have e1 : (n : Int) - 1 - (i : Int) = ((n - 1 - i : Nat) : Int) := by omega
    rw [e1] at st
    refine wpAny_pyNext_rev_item st ⟨_, e, rfl, _, rfl⟩ (x := u) (by simpa using hu) fun h' st' sb => ?_
    have e2 : ((n - 1 - i : Nat) : Int) - 1 = (n : Int) - 1 - ((i + 1 : Nat) : Int) := by omega
    rw [e2] at st'
    have I1 : Inv X pins σ H { s with heap := h' } := I.turned (t' := s.toks) (fun b o hb e => (sb.2 b hb).trans e) f0 f1 f3 f4 f5
    obtain ⟨o, e, c, d⟩ := id st'
    exact ⟨u, rfl, go_of (s := { s with heap := h' }) e c d (by decide) ⟨_, H, I1, ru, ⟨rfl, fun ys hy => by rw [hq] at hy; cases hy; exact hx⟩, st', fun b hb => (hf b hb).1⟩⟩
  done := by
    intro X hP hw hK hc i pins s σ H E I hf st hg
    subst hP hw hK
    have hg' : i = n := hg
    subst hg'
    obtain ⟨f0, f1, f2, f3, f4, f5⟩ := hf it (by simp)
    have e1 : (i : Int) - 1 - (i : Int) = -1 := by omega
    rw [e1] at st
    exact wpAny_pyNext_rev_end (I.ok.hd hc) st fun h' eb => ⟨rfl, I.turned (t' := s.toks) (fun b o hb e => eb b o hb e) f0 f1 f3 f4 f5⟩
  self := fun A i s Q E st q => wpAny_pyIter_revIter st q
inductive J_iRev (R : It → Hp → Prop) (x : V) (H : Hp) : Prop
  | mk : ∀ (a : Addr) (xs : List V), (x = .ref a) → (H a = some (.lst xs)) → (R (Itv a xs.length) H) → J_iRev R x H
noncomputable def iRev (tl : TE) : TI := fun σ H R => tl σ H fun x H1 => J_iRev R x H1
theorem pi_rev {X : Cx} {tg e : Expr} {te : TE} {p pos : Pos} (hg : Gl X "reversed") (hm : X.mg "reversed" = none) (he : PE X e te) (h2 : starEach [e] X.env = [(false, eval e X.env)] := by rfl) : PI X tg (.Call (.Name "reversed" p) [e] [] pos) (iRev te) := by
  intro pins s σ H R I h
  refine wpAny_Call_Name_kw (ld_blt I hg hm boot_reversed_ ?_ (by decide) (by decide))
  refine PyProof.Rows.callWith_type1 ?_ h2 rfl
  rw [h2]
  refine Calls.spliced_cons (thn (he pins s σ H _ I h) fun u s1 ⟨x, H1, I1, rx, a, zs, ex, ha, q⟩ => Calls.spliced_nil ?_)
  subst ex
  cases (show u = Value.ref a from rx)
  obtain ⟨hz, us, c, r, e⟩ := (show ObjOk X.prog X.w H1 s1.heap a (.lst zs) from I1.hok a _ ha)
  have hl : s1.heap.IsList a us.toArray := ⟨_, e, rfl, _, rfl⟩
  have hsz : us.toArray.size = zs.length := by have := r.length; simp; omega
  refine call_reversed_list hl ?_
  have hst : (s1.heap.push (revObj a ((us.toArray.size : Int) - 1))).IsRevIter s1.heap.objs.size a ((us.toArray.size : Int) - 1) := ⟨_, Heap.get?_push_size _ rfl, rfl, rfl⟩
  refine wpAny_pyIter_revIter (s := { s1 with heap := s1.heap.push (revObj a ((us.toArray.size : Int) - 1)) }) hst ?_
  refine ⟨s1.heap.objs.size, [s1.heap.objs.size], _, _, H1, rfl, I1.kept (t' := s1.toks) fun b o e => Heap.get?_push_of_some _ e, turn_rev a _ zs.length, ?_, fun b hb => ?_, q⟩
  · have e1 : ((zs.length : Nat) : Int) - 1 - ((0 : Nat) : Int) = ((us.toArray.size : Nat) : Int) - 1 := by rw [hsz]; omega
    rw [e1]
    exact hst
  · have e : b = s1.heap.objs.size := by simpa using hb
    subst e
    exact I1.fpOk (Nat.le_refl _) (I1.hok.fresh (Nat.le_refl _))
theorem for_rev {a : Addr} {xs : List V} {g : TG} {tb : TS} {D : Ends} {σ : St} {H : Hp} (Pv : Nat → St → Hp → Prop) (h0 : Pv 0 σ H) (hl : ∀ i σ H, i ≤ xs.length → Pv i σ H → H a = some (.lst xs))
    (hs : ∀ i x σ H, i < xs.length → xs[xs.length - 1 - i]? = some x → Pv i σ H → g x σ H fun σ2 H2 => tb { D with nx := Pv (i + 1), ct := Pv (i + 1), bk := D.nx } σ2 H2) (hd : ∀ σ H, Pv xs.length σ H → D.nx σ H) :
    ∃ W : Nat → Nat → St → Hp → Prop, (∃ m, W 0 m σ H) ∧ ∀ i m σ H, W i m σ H →
      ((Itv a xs.length).stop i H ∧ D.nx σ H) ∨ ((Itv a xs.length).go i H ∧ ∃ N : St → Hp → Prop, (∀ σ' H', N σ' H' → ∃ m', m' < m ∧ W (i + 1) m' σ' H') ∧ ∀ x H', (Itv a xs.length).yld i H x H' → g x σ H' fun σ2 H2 => tb { D with nx := N, ct := N, bk := D.nx } σ2 H2) := by
  refine ⟨fun i m σ H => m = xs.length - i ∧ i ≤ xs.length ∧ Pv i σ H, ⟨xs.length, by simp, Nat.zero_le _, h0⟩, ?_⟩
  rintro i m σ H ⟨rfl, hi, p⟩
  have q := hl i σ H hi p
  by_cases hlt : i < xs.length
  · refine .inr ⟨⟨hlt, xs, q, rfl⟩, Pv (i + 1), fun σ' H' p' => ⟨xs.length - (i + 1), by omega, rfl, hlt, p'⟩, fun x H' y => ?_⟩
    obtain ⟨e, y⟩ := y
    subst e
    exact hs i x σ _ hlt (y xs q) p
  · have e : i = xs.length := by omega
    subst e
    exact .inl ⟨rfl, hd σ H p⟩
end L2
namespace L2
open PySem PySem.Spec PyProof.Rows
section
variable {X : Cx}
theorem op_mulB : OpR X (binaryOp .Mult) (rI IntMulOk fun i j => .int (i * j)) := opI fun _ _ _ _ _ _ _ hc q => mul_int q hc
noncomputable def tInts (L : List Int) : TA := fun _ H Q => Q (L.map V.int) H
inductive IntsC : List Expr → List Int → Prop where
  | nil : IntsC [] []
  | cons {x : Int} {j : Nat} {p : Pos} {es : List Expr} {L : List Int} (h : IntsC es L) : IntsC (.Constant (.int x) j p :: es) (x :: L)
theorem pa_ints {es : List Expr} {L : List Int} (h : IntsC es L) : PA X es (tInts L) := by
  induction h with
  | nil => exact pa_nil
  | cons h ih => exact pa_cons pe_int ih
noncomputable def intsOf : List Expr → Option (List Int)
  | [] => some []
  | .Constant (.int x) _ _ :: es => (intsOf es).map (x :: ·)
  | _ => none
theorem intsC_of : ∀ {es : List Expr} {L : List Int}, intsOf es = some L → IntsC es L
  | [], L, h => by
    cases (show some [] = some L from h)
    exact .nil
  | e :: es, L, h => by
    unfold intsOf at h
    split at h
    · rename_i heq; cases heq
    · rename_i x j p es' heq
      cases heq
      cases q : intsOf es with
      | none => rw [q] at h; cases h
      | some L' =>
        rw [q] at h
        cases h
        exact .cons (intsC_of q)
    · cases h
theorem pa_intsB {es : List Expr} {L : List Int} (h : intsOf es = some L) : PA X es (tInts L) := pa_ints (intsC_of h)
end
theorem rd_if2 {c : TT} {t u : TS} {D : Ends} {σ : St} {H : Hp} (R : Bool → Hp → Prop) (hc : ∀ Q : Bool → Hp → Prop, (∀ b H', R b H' → Q b H') → c σ H Q) (h1 : ∀ H', R true H' → t D σ H') (h2 : ∀ H', R false H' → u D σ H') : tIfS c t u D σ H := by
  refine hc _ fun b H' r => ?_
  cases b with
  | true => exact iteT (h1 _ r)
  | false => exact iteF (h2 _ r)
section
variable {P : Program} {w : World} {A : Around} {s : Shared}
open SeqAt MeetsSeq MeetsSeq2 MeetsSeq3 SeqRoads2
open AutoSeq1 (wpAny_loadPart')
end
theorem paired_at2 {α β : Type} {F : α → β → Prop} : ∀ {l₁ : List α} {l₂ : List β} {i : Nat} {a : α} {b : β}, Paired F l₁ l₂ → l₁[i]? = some a → l₂[i]? = some b → F a b
  | _, _, i, a, b, .nil, e, _ => by simp at e
  | _, _, 0, a, b, .cons h _, e, e' => by simp at e e'; subst e e'; exact h
  | _, _, i + 1, a, b, .cons _ r, e, e' => paired_at2 (i := i) r (by simpa using e) (by simpa using e')
end L2
namespace L2
open PySem PySem.W PySem.Calls PyProof.Rows
theorem weight_le {ns : List Int} {c : Int} : c ∈ ns → WData.weight (.int c) ≤ WData.weightAll (ns.map WData.int) := by
  induction ns with
  | nil => intro h; cases h
  | cons n ns ih =>
    intro h
    rw [List.map_cons, WData.weightAll]
    rcases List.mem_cons.mp h with rfl | h
    · omega
    · have := ih h; omega
theorem bits_lay {ns : List Int} (h : WData.layableAll [WData.list (ns.map WData.int)] = true) : ∀ c ∈ ns, Builtin.Int.intBits c ≤ 1048576 := fun c hc => by
  have h1 : WData.layable (WData.list (ns.map WData.int)) = true := List.all_eq_true.mp h _ List.mem_cons_self
  have h2 := of_decide_eq_true (Bool.and_eq_true_iff.mp h1).2
  rw [WData.weight] at h2
  have h3 := weight_le hc
  rw [WData.weight] at h3
  show (if c == 0 then 0 else c.natAbs.log2 + 1) ≤ 1048576
  have : (2 : Nat) ^ 20 = 1048576 := by decide
  omega
theorem walk_ofB {l : OpenLaw} {n k : Nat} {q : Program} {loose : List Str} {XP : (Str → Option Value) → Heap → Prop} {YP : World → Heap → Prop} {d : DefRec} {K : Params → Frag} {CX : World → CXT} {sp : World → Sp} {x : Str}
    (hn : l.most = some n) (hn2 : n ≤ sizeLine) (hdf : d.params.defaults = []) (hr : Room k callerA)
    (hY : ∀ (w : World) (h : Heap), YP w h → (K w.params).In h)
    (F : ∀ (w : World) (mg : Str → Option Value) (fa : Addr) (h : Heap), (K w.params).In h → h.Ns mainGlobals mg → mg d.name = some (.ref fa) →
      ∃ fd : FuncData, (∀ (s : Shared) (u : Value), BindsTo s fd ⟨[u], []⟩ [(x, u)]) ∧ ∀ base : Heap, (K w.params).In base → base.Ns mainGlobals mg → FnOk l.prog w (K w.params) mg base (CX w) k fa fd [x] (sp w))
    (hsp : ∀ (w : World) (H : Hp) (a : Addr) (ns : List Int), ns.length ≤ n → (∀ c ∈ ns, Builtin.Int.intBits c ≤ 1048576) → SqL (K w.params) H a (ns.map V.int) → sp w [.ref a] H (fun v _ => v = .bl true) fun _ _ _ => False)
    (hCX : ∀ (w : World) (H : Hp) (s : Shared) (e : Value) (s' : Shared), CX w [] H s (fun _ _ _ => False) e s' → False) :
    WalkO q loose XP YP l.row.toRowW d [] (fun f vs => PySem.call f vs) := by
  intro w s0 s1 mg mb G Y fa o pm cd doc dV kV ho hd hcd hD hmg hg args vals as hpre hlay hrd hwl hlo
  have e1 := Dflts.none hD hdf
  have e2 := Dflts.noKw hD
  subst e1 e2
  obtain ⟨a, vs, ns, ev, ea, hobj, hints, hlen⟩ := Att.script_of hn hpre hwl
  subst ev ea
  have KX := hY w _ Y
  obtain ⟨fd, hb, hF⟩ := F w mg fa _ KX G.T.g hmg
  refine enter_call (codeAny_mono (law_call KX G.T.g G.T.b G.T.builtins G.T.nolimit hg hobj hints (Nat.le_trans hlen hn2) hr hF hb (fun H _ hS => hsp w H a ns hlen (bits_lay hlay) hS) fun H e s' => hCX w H s1 e s') fun r s' hq => ?_)
  obtain ⟨er, h2, h3, h4⟩ := hq
  subst er
  exact ⟨.inl ⟨.bool true, .bool true, [], rfl, fun _ => rfl, .bool true, Att.post_true l _, fun _ => ⟨List.Pairwise.nil, fun _ hm => (nomatch hm)⟩⟩, h2, h3, h4⟩
end L2
namespace L2
open PySem PySem.Spec PyProof.Rows
section
variable {X : Cx} {k : Nat} {y : Str} {p pos : Pos} {e : Expr} {es : List Expr} {tv : TE} {t : TA}
end
end L2
namespace L2
open PySem PySem.Spec PyProof.Rows
section
variable {prog : Program} {w : World} {A : Around} {R : Result → Shared → Prop} {I : Addr} {fp wr : List Addr} {n : Nat} {P : Nat → Value → Prop} {St : Nat → Heap → Prop} {kw : List (Str × Value)} {G : Heap → Prop}
end
section
variable {X : Cx} {e : Expr} {te : TE} {p pos kp cp : Pos} {j : Nat}
end
end L2
namespace L2
open PySem PySem.Spec PyProof.Rows
section
variable {prog : Program} {w : World} {A : Around} {R : Result → Shared → Prop} {I : Addr} {fp wr : List Addr} {n : Nat} {P : Nat → Value → Prop} {St : Nat → Heap → Prop} {kw : List (Str × Value)} {G : Heap → Prop}
theorem max_turns (W : Walks prog w A.in1 I fp wr n P St) (bt : Nat → Nat → Bool) (S : Addr) (hSf : S ∉ fp) (hG : ∀ h h' : Heap, G h → (∀ b o, b ∉ wr → b ≠ S → h.get? b = some o → h'.get? b = some o) → G h')
    (hcmp : ∀ (i j : Nat) (vi vj : Value) (s : Shared) (Q E : Value → Shared → Prop), G s.heap → P i vi → P j vj → Q (.bool (bt i j)) s → wpAny (model prog w) A.in1 (richCompare .Gt vi vj) Q E s) :
    ∀ (k j : Nat) (s : Shared) (vb : Value) (c : Nat), n - (j + 1) = k → j + 1 ≤ n → G s.heap → St (j + 1) s.heap → P (argBest bt j) vb →
    s.heap.get? S = some { cls := .type "list", dict := none, data := .seq #[vb, vb] c, slots := #[] } →
    (∀ v h' tk, P (argBest bt (n - 1)) v → (∀ b o, b ∉ wr → b ≠ S → s.heap.get? b = some o → h'.get? b = some o) → R (.ok (.ret v)) { s with heap := h', toks := tk }) →
    codeAny (model prog w) A (.builtin "max.loop" ⟨[.ref I, .none, .ref S], kw⟩) R s := by
  have hSw : S ∉ wr := fun h => hSf (W.sub _ h)
  have hname : (toString "max" ++ toString ".loop" : String) = "max.loop" := by decide
  intro k
  induction k with
  | zero =>
    intro j s vb c hk hj g hst hPb hS hR
    have hin : j + 1 = n := by omega
    refine codeAny_builtin F.entry_max_loop ?_
    rw [Around.under_plainId F.plain_max_loop _]
    show wpAny _ A.in1 (seqItems? (.ref S) >>= _) _ _ s
    refine wpAny_bind (wpAny_seqItems hS rfl ?_)
    show wpAny _ A.in1 (tryCatch (pyNext (.ref I)) _ >>= _) _ _ s
    refine wpAny_bind (wpAny_tryCatch (W.done s _ _ (hin ▸ hst) fun h' tk hk' => ?_))
    have hS' := hk' S _ hSw hS
    show wpAny _ A.in1 (updateSeq S (fun _ => #[]) >>= _) _ _ _
    refine wpAny_bind ?_
    refine wpAny_updateSeq hS' rfl (wpAny_bind (wpAny_letGo (wpAny_pure ?_)))
    refine hR vb _ tk (by rw [← hin]; exact hPb) fun b o hbw hbS e => (Heap.get?_update_other _ _ (Ne.symm hbS)).trans (hk' b o hbw e)
  | succ k ih =>
    intro j s vb c hk hj g hst hPb hS hR
    have hlt : j + 1 < n := by omega
    refine codeAny_builtin F.entry_max_loop ?_
    rw [Around.under_plainId F.plain_max_loop _]
    show wpAny _ A.in1 (seqItems? (.ref S) >>= _) _ _ s
    refine wpAny_bind (wpAny_seqItems hS rfl ?_)
    show wpAny _ A.in1 (tryCatch (pyNext (.ref I)) _ >>= _) _ _ s
    refine wpAny_bind (wpAny_tryCatch (W.item (j + 1) s _ _ hlt hst fun v h' tk hP hst' hk' => ?_))
    have hS' := hk' S _ hSw hS
    have g' : G h' := hG _ _ g fun b o h1 _ e => hk' b o h1 e
    show wpAny _ A.in1 (tryCatch (holding [v, v] (richCompare .Gt v vb >>= _)) _ >>= _) _ _ _
    refine wpAny_bind (wpAny_tryCatch (wpAny_holding (wpAny_bind (hcmp (j + 1) (argBest bt j) v vb _ _ _ g' hP hPb ?_))))
    refine wpAny_bind (wpAny_holding (wpAny_truthy_bool ?_))
    refine wpAny_bind (wpAny_letGo (wpAny_pure ?_))
    cases hb : bt (j + 1) (argBest bt j) with
    | true =>
      simp only [if_true]
      refine wpAny_bind ?_
      refine wpAny_updateSeq hS' rfl (wpAny_bind (wpAny_letGo ?_))
      rw [hname]
      refine wpAny_pure ⟨plainId_quiet F.plain_max_loop _, ih (j + 1) _ v _ (by omega) hlt (hG _ _ g' fun b o _ h2 e => (Heap.get?_update_other _ _ (Ne.symm h2)).trans e) (W.frame _ _ _ hst' fun b hbf o e => ?_) (by simp only [argBest, hb, if_true]; exact hP) (Heap.get?_update_self _ hS' rfl)
        fun v' h'' tk'' hP' hk'' => ?_⟩
      · exact (Heap.get?_update_other _ _ (fun h : S = b => hSf (by rw [h]; exact hbf))).trans e
      · exact hR v' h'' tk'' hP' fun b o hbw hbS e => hk'' b o hbw hbS ((Heap.get?_update_other _ _ (Ne.symm hbS)).trans (hk' b o hbw e))
    | false =>
      simp only [Bool.false_eq_true, if_false]
      refine wpAny_bind (wpAny_letGo ?_)
      rw [hname]
      refine wpAny_pure ⟨plainId_quiet F.plain_max_loop _, ih (j + 1) _ vb c (by omega) hlt g' hst' (by simp only [argBest, hb, Bool.false_eq_true, if_false]; exact hPb) hS' fun v' h'' tk'' hP' hk'' => ?_⟩
      exact hR v' h'' tk'' hP' fun b o hbw hbS e => hk'' b o hbw hbS (hk' b o hbw e)
theorem max_first (W : Walks prog w A.in1 I fp wr n P St) (bt : Nat → Nat → Bool) (S : Addr) (hSf : S ∉ fp) (hG : ∀ h h' : Heap, G h → (∀ b o, b ∉ wr → b ≠ S → h.get? b = some o → h'.get? b = some o) → G h')
    (hcmp : ∀ (i j : Nat) (vi vj : Value) (s : Shared) (Q E : Value → Shared → Prop), G s.heap → P i vi → P j vj → Q (.bool (bt i j)) s → wpAny (model prog w) A.in1 (richCompare .Gt vi vj) Q E s)
    {s : Shared} {c : Nat} {d : Value} {dn : Str} (hkw : kw = [(dn, d)]) (g : G s.heap) (hst : St 0 s.heap) (hS : s.heap.get? S = some { cls := .type "list", dict := none, data := .seq #[] c, slots := #[] })
    (h0 : n = 0 → ∀ h' tk, (∀ b o, b ∉ wr → b ≠ S → s.heap.get? b = some o → h'.get? b = some o) → R (.ok (.ret d)) { s with heap := h', toks := tk })
    (hR : 0 < n → ∀ v h' tk, P (argBest bt (n - 1)) v → (∀ b o, b ∉ wr → b ≠ S → s.heap.get? b = some o → h'.get? b = some o) → R (.ok (.ret v)) { s with heap := h', toks := tk }) :
    codeAny (model prog w) A (.builtin "max.loop" ⟨[.ref I, .none, .ref S], kw⟩) R s := by
  subst hkw
  have hSw : S ∉ wr := fun h => hSf (W.sub _ h)
  have hname : (toString "max" ++ toString ".loop" : String) = "max.loop" := by decide
  refine codeAny_builtin F.entry_max_loop ?_
  rw [Around.under_plainId F.plain_max_loop _]
  show wpAny _ A.in1 (seqItems? (.ref S) >>= _) _ _ s
  refine wpAny_bind (wpAny_seqItems hS rfl ?_)
  show wpAny _ A.in1 (tryCatch (pyNext (.ref I)) _ >>= _) _ _ s
  by_cases hn : n = 0
  · refine wpAny_bind (wpAny_tryCatch (W.done s _ _ (hn ▸ hst) fun h' tk hk' => ?_))
    exact wpAny_bind (wpAny_rule (wpAny_pure (h0 hn h' tk fun b o h1 _ e => hk' b o h1 e)))
  refine wpAny_bind (wpAny_tryCatch (W.item 0 s _ _ (by omega) hst fun v h' tk hP hst' hk' => ?_))
  have hS' := hk' S _ hSw hS
  show wpAny _ A.in1 (updateSeq S (fun _ => #[v, v]) >>= _) _ _ _
  refine wpAny_bind ?_
  refine wpAny_updateSeq hS' rfl ?_
  rw [hname]
  have g' : G h' := hG _ _ g fun b o h1 _ e => hk' b o h1 e
  refine wpAny_pure ⟨plainId_quiet F.plain_max_loop _, max_turns W bt S hSf hG hcmp _ 0 _ v _ rfl (by omega) (hG _ _ g' fun b o _ h2 e => (Heap.get?_update_other _ _ (Ne.symm h2)).trans e) (W.frame _ _ _ hst' fun b hbf o e => ?_) hP (Heap.get?_update_self _ hS' rfl) fun v' h'' tk'' hP' hk'' => ?_⟩
  · exact (Heap.get?_update_other _ _ (fun h : S = b => hSf (by rw [h]; exact hbf))).trans e
  · exact hR (by omega) v' h'' tk'' hP' fun b o hbw hbS e => hk'' b o hbw hbS ((Heap.get?_update_other _ _ (Ne.symm hbS)).trans (hk' b o hbw e))
end
theorem F_args_maxD (a d : Value) : argsOk "max" ⟨[a], [("default", d)]⟩ := by unfold argsOk; kernel_rfl
section
variable {X : Cx} {e : Expr} {te : TE} {p pos kp cp : Pos} {j : Nat} {d : Int}
inductive J_maxD (d : Int) (x : V) (H : Hp) (Q : VK) : Prop
  | mk : ∀ (a : Addr) (ns : List Int), (x = .ref a) → (H a = some (.lst (ns.map V.int))) → (∀ M : Int, (ns = [] → M = d) → (ns ≠ [] → M ∈ ns) → (∀ b ∈ ns, b ≤ M) → Q (.int M) H) → J_maxD d x H Q
noncomputable def tMaxD (d : Int) (te : TE) : TE := fun σ H Q => te σ H fun x H1 => J_maxD d x H1 Q
theorem pe_maxD (hc : X.calm = true) (hg : Gl X "max") (hm : X.mg "max" = none) (he : PE X e te) (hst : starEach [e] X.env = [(false, eval e X.env)] := by rfl) :
    PE X (.Call (.Name "max" p) [e] [⟨some "default", .Constant (.int d) j cp, kp⟩] pos) (tMaxD d te) := by
  intro pins s σ H Q I h
  refine wpAny_Call_Name_kw (ld_blt I hg hm boot_max_ ?_ (by decide) (by decide))
  refine callWith_kw ?_ (by rw [hst]; rfl) (by rw [hst]; rfl)
  rw [hst]
  refine Calls.spliced_cons (thn (he pins s σ H _ I h) fun u s1 ⟨x, H1, I1, r1, q1⟩ => ?_)
  refine Calls.spliced_nil ?_
  refine kws_cons (thn (pe_int (X := X) pins s1 σ H1 (fun v H2 => v = .int d ∧ H2 = H1) I1 ⟨rfl, rfl⟩) fun dv s2 ⟨y, H2, I2, r2, q2⟩ => ?_)
  refine kws_nil ?_
  obtain ⟨rfl, rfl⟩ := q2
  obtain ⟨td, rfl⟩ := (show ∃ t, dv = Value.int d t from r2)
  obtain ⟨a, ns, rfl, ha, q1⟩ := q1
  obtain rfl : u = Value.ref a := r1
  obtain ⟨z, its, c0, rv, e0⟩ := (show ObjOk X.prog X.w H2 s2.heap a (.lst (ns.map V.int)) from I2.hok a _ ha)
  have hl : s2.heap.IsList a its.toArray := ⟨_, e0, rfl, _, rfl⟩
  have hi : IntsAre its ns := intsAre_of rv
  obtain ⟨ys, e1⟩ := hi.allInts.items
  have hns : ns = ys.toList.map (·.1) := by
    rw [← hi.numsOf, ← nums_intItems, ← e1]
  have hsz : its.toArray.size = ys.size := by rw [e1]; simp [intItems]
  have hh := I2.ok.hd hc
  show wpAny _ _ (call (.builtin "max") [.ref a] [("default", .int d td)]) _ _ s2
  have hname : (toString "max" ++ toString ".loop" : String) = "max.loop" := by decide
  refine kmk_tree PySem.F.kind_max PySem.F.plain_max PySem.F.entry_max (F_args_maxD _ _) ?_
  show wpAny _ X.A.in1 (Builtin.Builtins.bindParams "max" ["key", "default"] 0 ⟨[], [("default", .int d td)]⟩ >>= _) _ _ s2
  refine wpAny_bind (wpAny_of_eq (show Builtin.Builtins.bindParams "max" ["key", "default"] 0 ⟨[], [("default", .int d td)]⟩ = pure [none, some (.int d td)] from rfl) ?_)
  refine wpAny_bind (wpAny_pure ?_)
  refine wpAny_bind (wpAny_pyIter_list hl ?_)
  refine wpAny_bind (wpAny_newList ?_ (Nat.zero_le _))
  rw [hname]
  have hla : a < s2.heap.objs.size := Heap.lt_size e0
  have hlI : a ≠ s2.heap.objs.size := Nat.ne_of_lt hla
  have hS : (s2.heap.push { cls := .type "list_iterator", data := .fields #[.ref a, .int 0 0] }).objs.size = s2.heap.objs.size + 1 := size_push' ..
  have old : ∀ b o, s2.heap.get? b = some o → ((s2.heap.push { cls := .type "list_iterator", data := .fields #[.ref a, .int 0 0] }).push (seqObj "list" #[] 0)).get? b = some o := fun b o e => Heap.get?_push_of_some _ (Heap.get?_push_of_some _ e)
  have gI : ((s2.heap.push { cls := .type "list_iterator", data := .fields #[.ref a, .int 0 0] }).push (seqObj "list" #[] 0)).get? s2.heap.objs.size = some { cls := .type "list_iterator", data := .fields #[.ref a, .int 0 0] } :=
    Heap.get?_push_of_some _ (Heap.get?_push_size _ rfl)
  refine wpAny_pure ⟨plainId_quiet PySem.F.plain_max_loop _, ?_⟩
  have P1 : ∀ (i : Nat) (vi : Value), its.toArray[i]? = some vi → ∃ t, vi = .int (numAt ys i) t := fun i vi hi => by
    rw [e1] at hi; exact intItems_at hi
  have keep : ∀ h' : Heap, (∀ b o, b ∉ [s2.heap.objs.size] → b ≠ (s2.heap.push { cls := .type "list_iterator", data := .fields #[.ref a, .int 0 0] }).objs.size → ((s2.heap.push { cls := .type "list_iterator", data := .fields #[.ref a, .int 0 0] }).push (seqObj "list" #[] 0)).get? b = some o → h'.get? b = some o) → ∀ b o, s2.heap.get? b = some o → h'.get? b = some o := fun h' hk b o e =>
    hk b o (fun hm => by rw [List.mem_singleton.mp hm] at e; exact absurd (Heap.lt_size e) (Nat.lt_irrefl _)) (fun e' => by rw [e', hS] at e; exact absurd (Heap.lt_size e) (Nat.not_lt.mpr (Nat.le_succ _))) (old b o e)
  refine max_first (G := fun _ => True) (Walks.list (A := X.A.in1) hh s2.heap.objs.size a hlI its.toArray) (fun i j => decide (numAt ys i > numAt ys j)) (s2.heap.push { cls := .type "list_iterator", data := .fields #[.ref a, .int 0 0] }).objs.size ?_ (fun h h' g k => trivial) (fun i j vi vj s' Q' E' g hi hj hq => CmpOf.ints_gt (numAt ys) (P := fun i v => its.toArray[i]? = some v) P1 i j vi vj s' Q' E' hi hj hq) rfl trivial ⟨⟨_, gI, rfl, rfl⟩, ⟨_, old _ _ e0, rfl, _, rfl⟩⟩ (Heap.get?_push_size _ rfl) (fun hn h' tk hk => ?_) (fun hn v h' tk hv hk => ?_)
  · rw [hS]
    intro hm
    rcases List.mem_cons.mp hm with e | hm
    · exact absurd e (Nat.succ_ne_self _)
    · rcases List.mem_cons.mp hm with e | hm
      · rw [← e] at hla; exact absurd hla (Nat.not_lt.mpr (Nat.le_succ _))
      · cases hm
  · have h0 : ns = [] := by
      have : ys.size = 0 := by rw [← hsz]; exact hn
      rw [hns]
      have : ys.toList = [] := List.eq_nil_of_length_eq_zero (by rw [Array.length_toList]; exact this)
      rw [this]; rfl
    exact ⟨.int d, H2, I2.kept (keep h' hk), ⟨_, rfl⟩, q1 d (fun _ => rfl) (fun z => absurd h0 z) (fun b hb => by rw [h0] at hb; cases hb)⟩
  · obtain ⟨t, rfl⟩ := P1 _ v hv
    obtain ⟨h1, h2⟩ := argBest_gt (numAt ys) (its.toArray.size - 1)
    refine ⟨.int _, H2, I2.kept (keep h' hk), ⟨t, rfl⟩, q1 _ (fun z => ?_) (fun _ => ?_) fun b hb => ?_⟩
    · exfalso
      rw [hns] at z
      have : (ys.toList.map (·.1)).length = 0 := by rw [z]; rfl
      rw [List.length_map, Array.length_toList] at this
      omega
    · rw [hns, numAt_eq]; exact getD_mem (by rw [List.length_map, Array.length_toList]; omega)
    · rw [hns] at hb
      obtain ⟨j, hj, rfl⟩ := mem_getD hb
      rw [List.length_map, Array.length_toList] at hj
      rw [← numAt_eq]; exact h2 j (by omega)
end
theorem F_entry_updl : entryFor table "dict.update.loop" = some Builtin.«dict.update.loop» := entryFor_of_fast (by kernel_rfl)
theorem F_plain_updl : plainId "dict.update.loop" = true := by decide +kernel
theorem upd_turns {prog : Program} {w : World} {K : Type} [DecidableEq K] {knd : KeyKind prog w K} {A : Around} {R : Result → Shared → Prop} {I : Addr} {fp wr : List Addr} {n : Nat} {P : Nat → Value → Prop} {St : Nat → Heap → Prop} (W : Walks prog w A.in1 I fp wr n P St) (d : Addr) (hdf : d ∉ fp)
    (prs : List (K × Value)) (hn : prs.length = n) {G : Heap → Prop} (hG : ∀ h h' : Heap, G h → (∀ b o, b ∉ wr → b ≠ d → h.get? b = some o → h'.get? b = some o) → G h')
    (hP : ∀ (i : Nat) (v : Value) (h : Heap), P i v → G h → ∃ (a : Addr) (kv : K) (val key : Value) (o : Obj) (c : Nat), prs[i]? = some (kv, val) ∧ v = .ref a ∧ knd.is kv key = true ∧ h.get? a = some o ∧ o.cls = .type "tuple" ∧ o.data = .seq #[key, val] c) :
    ∀ (k i : Nat) (s : Shared) (acc : List (K × Value)) (c : Value), c = rawInt i → n - i = k → i ≤ n → G s.heap → St i s.heap → s.heap.DictOf knd d acc → acc.length + (n - i) ≤ sizeLine →
      (∀ h' tk, h'.DictOf knd d ((prs.drop i).foldl (fun a p => stored a p.1 p.2) acc) → (∀ b o, b ∉ wr → b ≠ d → s.heap.get? b = some o → h'.get? b = some o) → R (.ok (.ret .none)) { s with heap := h', toks := tk }) →
      codeAny (model prog w) A (.builtin "dict.update.loop" ⟨[.ref d, .ref I, c, .none], []⟩) R s := by
  have hdw : d ∉ wr := fun h => hdf (W.sub _ h)
  intro k
  induction k with
  | zero =>
    intro i s acc c hc hk hi g hst hD hsz hR
    subst hc
    have hin : i = n := by omega
    subst hin
    refine codeAny_builtin F_entry_updl ?_
    rw [Around.under_plainId F_plain_updl _]
    show wpAny _ A.in1 (pyNext (.ref I) >>= _) _ _ s
    refine wpAny_bind (W.done s _ _ hst fun h' tk hk' => ?_)
    refine wpAny_bind (wpAny_pure (wpAny_pure ?_))
    refine hR h' tk ?_ fun b o hb _ e => hk' b o hb e
    rw [List.drop_of_length_le (by omega)]
    obtain ⟨o, es, ep, ho, r⟩ := hD
    exact ⟨o, es, ep, hk' d o hdw ho, r⟩
  | succ k ih =>
    intro i s acc c hc hk hi g hst hD hsz hR
    subst hc
    refine codeAny_builtin F_entry_updl ?_
    rw [Around.under_plainId F_plain_updl _]
    show wpAny _ A.in1 (pyNext (.ref I) >>= _) _ _ s
    refine wpAny_bind (W.item i s _ _ (by omega) hst fun v h' tk hv hst' hk' => ?_)
    have g' : G h' := hG _ _ g fun b o h1 _ e => hk' b o h1 e
    have hD' : h'.DictOf knd d acc := by
      obtain ⟨o, es, ep, ho, r⟩ := hD
      exact ⟨o, es, ep, hk' d o hdw ho, r⟩
    obtain ⟨a, kv, val, key, o, c, hpr, rfl, hkey, ho, hcls, hdat⟩ := hP i v h' hv g'
    refine wpAny_bind (wpAny_holding ?_)
    refine wpAny_bind (wpAny_tryCatch ?_)
    unfold Builtin.Dict.pairItems
    refine wpAny_bind (wpAny_typeOf ⟨_, ho, hcls⟩ ?_)
    rw [if_pos (by decide)]
    refine wpAny_bind (wpAny_seqItems ho hdat ?_)
    refine wpAny_pure ?_
    show wpAny _ _ (holding [key, val] (dictSet d key val)) _ _ _
    refine wpAny_holding (wpAny_dictSet_pairs hkey hD' (fun h2 hD2 hs2 => ?_) (by omega))
    have e1 : ((i : Int) + 1) = ((i + 1 : Nat) : Int) := by push_cast; rfl
    refine wpAny_pure ⟨plainId_quiet F_plain_updl _, ih (i + 1) _ (stored acc kv val) _ (by rw [← e1]) (by omega) (by omega) (hG _ _ g' fun b o _ h2' e => (hs2.2 b h2').trans e) (W.frame _ _ _ hst' fun b hb o e => (hs2.2 b (fun z => hdf (by rw [← z]; exact hb))).trans e) hD2 ?_ fun h3 tk3 hD3 hk3 => ?_⟩
    · have : (stored acc kv val).length ≤ acc.length + 1 := by unfold stored; split <;> simp
      omega
    · refine hR h3 tk3 ?_ fun b o hb hbd e => hk3 b o hb hbd ((hs2.2 b hbd).trans (hk' b o hb e))
      rw [List.drop_eq_getElem?_toList_append, hpr]
      exact hD3
theorem keys_miss {prog : Program} {w : World} {A : Around} {E : Value → Shared → Prop} {s : Shared} {a : Addr} {xs : Array Value} {k : Nat} {sl : Array (Option Value)} {Q : Option Value → Shared → Prop} (hx : s.heap.get? a = some { cls := .type "list", dict := none, data := .seq xs k, slots := sl }) (hA : A.handled = none)
    (h : ∀ h' tk, (∀ b o, s.heap.get? b = some o → h'.get? b = some o) → Q none { s with heap := h', toks := tk }) :
    wpAny (model prog w) A (getAttr? (.ref a) "keys") Q E s := by
  obtain ⟨hp, g, d, tk, os⟩ := s
  have hT : ∀ tk', (⟨hp, g, d, tk', os⟩ : Shared).TypeIs (.ref a) "list" := fun _ => ⟨_, hx, rfl⟩
  have f1 := sub_AttributeError
  have f3 := F.slot_list_getattribute.lookup
  have f4 := F.slot_list_getattribute.bind (.ref a)
  have f5 := am_list_getattr_none
  have hmiss : typeLookup (.type "list") "keys" = pure none := am_miss_of_fast (by decide +kernel)
  have hname : (["__module__", "__name__", "__qualname__", "__doc__", "__annotations__"] : List Str).contains ("keys" : Str) = false := by decide +kernel
  unfold getAttr? getAttrBy? getAttrBy
  repeat (any_goals (first | assumption | exact hT _ | ((with_reducible show wpAny _ _ (call (Value.builtin "list.__getattribute__") _ _) _ _ _); refine call_meets F.slot_list_getattribute (hT _) am_entry_list_getattribute (F.args_list_getattribute_2 _ _) (meets_getattribute_miss_list a xs k sl "keys" _ hmiss hname) ⟨hx, hA, fun h' tk' e hx' => ?_⟩) | wp_step))
  obtain ⟨t', u', he⟩ := hx'.there
  show wpAny _ _ (getattributeRaised _ _ _ _ _ _ _) _ _ _
  unfold getattributeRaised
  repeat (any_goals (first | assumption | wp_step))
  exact h _ _ hx'.keeps
theorem call_dict_pairs {prog : Program} {w : World} {K : Type} [DecidableEq K] {knd : KeyKind prog w K} {A : Around} {E : Value → Shared → Prop} {s : Shared} {Q : Value → Shared → Prop} {p : Addr} {its : Array Value} {c : Nat} {sl : Array (Option Value)}
    (hl : s.heap.get? p = some { cls := .type "list", dict := none, data := .seq its c, slots := sl }) (hA : A.handled = none) (prs : List (K × Value)) (hn : prs.length = its.size) (hsz : prs.length ≤ sizeLine)
    (hP : ∀ (i : Nat) (v : Value), its[i]? = some v → ∃ (a : Addr) (kv : K) (val key : Value) (o : Obj) (c : Nat), prs[i]? = some (kv, val) ∧ v = .ref a ∧ knd.is kv key = true ∧ s.heap.get? a = some o ∧ o.cls = .type "tuple" ∧ o.data = .seq #[key, val] c)
    (h : ∀ h' tk, h'.DictOf knd s.heap.objs.size (prs.foldl (fun a p => stored a p.1 p.2) []) → (∀ b o, s.heap.get? b = some o → h'.get? b = some o) → Q (.ref s.heap.objs.size) { s with heap := h', toks := tk }) :
    wpAny (model prog w) A (call (.type "dict") [.ref p]) Q E s := by
  refine callType_codes (Q₁ := fun obj s₁ => obj = .ref s.heap.objs.size ∧ s₁ = { s with heap := s.heap.push { cls := .type "dict", data := .dict #[] } }) F.kt_called_dict (F.kt_typeCall_dict_1 _) F.entry_dict_init (kt_code_dict_new _ ⟨rfl, rfl⟩) ?_
  rintro obj s₁ ⟨rfl, rfl⟩
  have hnew : (s.heap.push { cls := .type "dict", data := .dict #[] }).DictOf knd s.heap.objs.size [] := Heap.DictOf.new s.heap
  have hl' := Heap.get?_push_of_some { cls := .type "dict", data := .dict #[] } hl
  refine ⟨hnew.typeIs, F.args_dict_init_2 _ _, ?_⟩
  unfold Builtin.«dict.__init__»
  refine wpAny_bind ?_
  unfold Builtin.Dict.selfAndRest
  refine wpAny_bind (wpAny_notOrdered_dict hnew.typeIs ?_)
  show wpAny _ _ (pure (s.heap.objs.size, [Value.ref p])) _ _ _
  refine wpAny_pure ?_
  show wpAny _ _ (Builtin.Dict.updateFrom "dict.__init__" s.heap.objs.size (.ref p) [] .none) _ _ _
  unfold Builtin.Dict.updateFrom
  refine wpAny_bind (wpAny_typeOf ⟨_, hl', rfl⟩ ?_)
  rw [if_pos (by decide)]
  refine wpAny_bind (keys_miss hl' hA fun h1 tk1 k1 => ?_)
  rw [if_pos (by rfl)]
  refine wpAny_bind (wpAny_rule ?_)
  have hl1 := k1 _ _ hl'
  refine wpAny_bind (wpAny_pyIter_list (items := its) ⟨_, hl1, rfl, _, rfl⟩ ?_)
  have hp0 : p < s.heap.objs.size := Heap.lt_size hl
  have hp1 : p < h1.objs.size := Heap.lt_size hl1
  have hd1 : s.heap.objs.size < h1.objs.size := by
    obtain ⟨o, es, ep, ho, r⟩ := hnew
    exact Heap.lt_size (k1 _ _ ho)
  have old : ∀ b o, s.heap.get? b = some o → (h1.push { cls := .type "list_iterator", data := .fields #[.ref p, .int 0 0] }).get? b = some o := fun b o e => Heap.get?_push_of_some _ (k1 _ _ (Heap.get?_push_of_some _ e))
  refine wpAny_pure ⟨plainId_quiet F_plain_updl _, ?_⟩
  refine upd_turns (A := A.in1) (knd := knd) (Walks.list (A := A.in1.in1) hA h1.objs.size p (Nat.ne_of_lt hp1) its) s.heap.objs.size ?_ prs hn (G := fun h => ∀ b o, s.heap.get? b = some o → h.get? b = some o) ?_ ?_ _ 0 _ [] _ rfl rfl (Nat.zero_le _) old ⟨⟨_, Heap.get?_push_size _ rfl, rfl, rfl⟩, ⟨_, Heap.get?_push_of_some _ hl1, rfl, _, rfl⟩⟩ ?_ ?_ ?_
  · intro hm
    rcases List.mem_cons.mp hm with e | hm
    · exact absurd e (Nat.ne_of_lt hd1)
    · rcases List.mem_cons.mp hm with e | hm
      · exact absurd e.symm (Nat.ne_of_lt hp0)
      · cases hm
  · intro h h' g k b o e
    refine k b o (fun hm => ?_) (fun e' => ?_) (g b o e)
    · rw [List.mem_singleton.mp hm] at e
      exact absurd (Nat.lt_trans (Heap.lt_size e) hd1) (Nat.lt_irrefl _)
    · rw [e'] at e
      exact absurd (Heap.lt_size e) (Nat.lt_irrefl _)
  · intro i v hh hv g
    obtain ⟨a, kv, val, key, o, c', e1, e2, e3, e4, e5, e6⟩ := hP i v hv
    exact ⟨a, kv, val, key, o, c', e1, e2, e3, g _ _ e4, e5, e6⟩
  · obtain ⟨o, es, ep, ho, r⟩ := hnew
    exact ⟨o, es, ep, Heap.get?_push_of_some _ (k1 _ _ ho), r⟩
  · show 0 + (its.size - 0) ≤ sizeLine
    omega
  · intro h' tk hD hk
    refine ⟨rfl, h h' tk hD fun b o e => hk b o (fun hm => ?_) (fun e' => ?_) (old b o e)⟩
    · rw [List.mem_singleton.mp hm] at e
      exact absurd (Nat.lt_trans (Heap.lt_size e) hd1) (Nat.lt_irrefl _)
    · rw [e'] at e
      exact absurd (Heap.lt_size e) (Nat.lt_irrefl _)

noncomputable def PairKV (H : Hp) (v : V) (p : Key × V) : Prop := ∃ t, v = .ref t ∧ H t = some (.tup [kV p.1, p.2])
inductive J_call_dictP (xs : List V) (H : Hp) (Q : VK) : Prop
  | mk : ∀ (p : Addr) (us : List V) (prs : List (Key × V)), (xs = [.ref p]) → (H p = some (.lst us)) → (Paired (PairKV H) us prs) → (prs.length ≤ 1000) → (∀ l, H l = none → Q (.ref l) (upd H l (.dK (mergeK [] prs)))) → J_call_dictP xs H Q
theorem pairs_raw {X : Cx} {pins : List (Addr × Obj)} {σ : St} {H : Hp} {s : Shared} (I : Inv X pins σ H s) : ∀ {us : List V} {prs : List (Key × V)} {its : List Value}, Paired (PairKV H) us prs → Vals us its → ∃ rs, KV prs rs ∧ rs.length = its.length ∧
    ∀ (i : Nat) (v : Value), its[i]? = some v → ∃ (a : Addr) (kv : Key) (val key : Value) (o : Obj) (c : Nat), rs[i]? = some (kv, val) ∧ v = .ref a ∧ (mixKind X.prog X.w).is kv key = true ∧ s.heap.get? a = some o ∧ o.cls = .type "tuple" ∧ o.data = .seq #[key, val] c
  | _, _, _, .nil, r => by cases r; exact ⟨[], .nil, rfl, fun i v e => by simp at e⟩
  | _, p :: prs, _, .cons h t, r => by
    cases r with
    | @cons _ u _ its r1 r2 =>
      obtain ⟨rs, q1, q2, q3⟩ := pairs_raw I t r2
      obtain ⟨ta, rfl, ht⟩ := h
      obtain rfl : u = Value.ref ta := r1
      obtain ⟨vs, rv, ⟨o, e0, hc, c, hd⟩, _⟩ := I.tuple (SqT.of ht)
      obtain ⟨ku, yu, rfl, rk, ry⟩ := vals2 rv
      refine ⟨(p.1, yu) :: rs, .cons ⟨rfl, ry⟩ q1, by rw [List.length_cons, List.length_cons, q2], fun i v e => ?_⟩
      cases i with
      | zero =>
        have e : Value.ref ta = v := by simpa using e
        exact ⟨ta, p.1, yu, ku, o, c, rfl, e.symm, kV_is rk, e0, hc, hd⟩
      | succ i =>
        obtain ⟨a, kv, val, key, o, c, f1, f2⟩ := q3 i v (by simpa using e)
        exact ⟨a, kv, val, key, o, c, by simpa using f1, f2⟩
theorem call_dictP {X : Cx} (hc : X.calm = true) : CallR X (.type "dict") (fun xs H Q => J_call_dictP xs H Q) := by
  intro pins s σ H xs us Q I r h
  obtain ⟨p, ys, prs, rfl, e, hp, hz, q⟩ := h
  obtain ⟨u, rfl, rx⟩ := vals1 r
  cases rx
  obtain ⟨z, its, c0, rv, e0⟩ := (show ObjOk X.prog X.w H s.heap p (.lst ys) from I.hok p _ e)
  obtain ⟨rs, q1, q2, q3⟩ := pairs_raw I hp rv
  have hl := q1.length
  have hsl : (1000 : Nat) ≤ sizeLine := by decide
  refine call_dict_pairs (knd := mixKind X.prog X.w) (its := its.toArray) e0 (I.ok.hd hc) rs (by rw [List.size_toArray]; exact q2) (by omega) (fun i v hi => q3 i v (by simpa using hi)) fun h' tk hm kp => ?_
  have rel := KV.merge q1 (show KV ([] : List (Key × V)) ([] : List (Key × Value)) by unfold KV; exact .nil)
  have lm := length_mergeK prs []
  have l0 : ([] : List (Key × V)).length = 0 := rfl
  exact ⟨.ref s.heap.objs.size, _, I.laid (t' := tk) kp (Nat.le_refl _) (show ObjOk X.prog X.w _ h' _ (.dK (mergeK [] prs)) from ⟨by omega, beq_eq_false_iff_ne.mpr (Ne.symm (Nat.ne_of_lt I.big)), _, rel, hm⟩), rfl, q _ (I.hok.fresh (Nat.le_refl _))⟩
theorem add_meetsS (l : Addr) (items : Array Value) (n : Nat) (sl : Array (Option Value)) (b : Addr) (items2 : Array Value) (n2 : Nat) (hc0 : items.size + items2.size ≤ sizeLine) :
    Meets (Builtin.«list.__add__» ⟨[.ref l, .ref b], []⟩) (fun _ R s => s.heap.get? l = some { cls := .type "list", dict := none, data := .seq items n, slots := sl } ∧ s.heap.get? b = some { cls := .type "list", dict := none, data := .seq items2 n2, slots := #[] } ∧
      R (.ok (.ret (Value.ref s.heap.objs.size))) { s with heap := s.heap.push { cls := Value.type "list", data := Data.seq (items ++ items2) } }) :=
  .of_wp fun prog w A R s h => by
    obtain ⟨hp, g, d, tk, os⟩ := s
    obtain ⟨hl, hb, h⟩ := h
    have f1 := AutoSeq1.idx_int
    have f2 := AutoSeq1.sub_tuple_tuple
    have f3 := AutoSeq1.sub_list_list
    have f4 := AutoSeq1.sub_tuple_list
    have f5 := AutoSeq1.sub_list_tuple
    wp_walk using AutoSeq1.wpAny_loadPart' hl, AutoSeq1.wpAny_loadPart' hb
    exact ⟨_, rfl, h⟩
inductive J_rCatS (K : PySem.W.Frag) (x : V) (y : V) (H : Hp) (Q : VK) : Prop
  | mk : ∀ l b xs zs, (x = .ref l) → (y = .ref b) → (SqL K H l xs) → (H b = some (.lst zs)) → (xs.length + zs.length ≤ sizeLine) → (∀ p, H p = none → Q (.ref p) (upd H p (.lst (xs ++ zs)))) → J_rCatS K x y H Q
noncomputable def rCatS (K : PySem.W.Frag) : R2 := fun x y H Q => J_rCatS K x y H Q
theorem op_catS {X : Cx} : OpR X (binaryOp .Add) (rCatS X.K) := by
  intro pins s σ H x y v u Q I rx ry h
  obtain ⟨l, b, xs, zs, rfl, rfl, hH, hB, hz, q⟩ := h
  cases rx
  cases ry
  obtain ⟨its, r, ⟨⟨cls, dct, dat, sl⟩, n, e, hc, hd, hs⟩, z⟩ := I.list hH
  simp only at hc hd hs
  subst hc hd hs
  have hl := r.length
  obtain ⟨z2, its2, n2, r2, hl2, e2⟩ := I.lstM hB
  refine concat_meets ⟨_, e, rfl⟩ ⟨_, e2, rfl⟩ noFill_list_add seq_list_add PySem.F.slot_list_add PySem.F.entry_list_add (PySem.F.args_list_add_2 _ _) (add_meetsS l its.toArray n sl b its2.toArray n2 (by rw [List.size_toArray, List.size_toArray]; omega)) ⟨e, e2, ?_⟩
  have ea : its.toArray ++ its2.toArray = (its ++ its2).toArray := by simp
  rw [ea]
  exact ⟨.ref _, _, I.lnew (t' := s.toks) (r.append r2) (by rw [List.length_append]; omega), rfl, q _ I.fresh⟩
end L2
namespace L2
open PySem PySem.Spec PySem.W PyProof.Rows PySem.Calls


section
variable {X : Cx} {c P : Addr} {params : Arguments} {body : Expr} {scope : Scope} {pos : Pos} {clos : List (Str × Addr)}
end
end L2
namespace L2
open PySem PySem.Spec PySem.W PyProof.Rows PySem.Calls
section
variable {X : Cx}

end
end L2
namespace L2
open PySem PySem.Spec PySem.W PyProof.Rows PySem.Calls
end L2
namespace L2
open PySem
end L2
namespace Sw
open PySem L2
noncomputable abbrev Tm := TM Str
noncomputable abbrev nV (n : Nat) : V := V.int (n : Int)
noncomputable def IsTm (H : Hp) : Tm → V → Prop
  | .num n, v => ∃ a, v = .ref a ∧ H a = some (.tup [.str "num", .int n])
  | .name x, v => ∃ a, v = .ref a ∧ H a = some (.tup [.str "name", .str x])
  | .of x as, v => ∃ a b, v = .ref a ∧ H a = some (.tup [.str "of", .str x, .ref b]) ∧ H b = some (.tup (as.map nV))
theorem IsTm.keep {H H' : Hp} (ht : ∀ b ys, H b = some (.tup ys) → H' b = some (.tup ys)) : ∀ {t : Tm} {v : V}, IsTm H t v → IsTm H' t v
  | .num n, v, h => by obtain ⟨a, e, h⟩ := h; exact ⟨a, e, ht _ _ h⟩
  | .name x, v, h => by obtain ⟨a, e, h⟩ := h; exact ⟨a, e, ht _ _ h⟩
  | .of x as, v, h => by obtain ⟨a, b, e, h, h2⟩ := h; exact ⟨a, b, e, ht _ _ h, ht _ _ h2⟩
theorem IsTm.same {H H' : Hp} {t : Tm} {v : V} (sm : Same H H') (h : IsTm H t v) : IsTm H' t v := h.keep fun b ys => sm _ _
noncomputable abbrev Tms (H : Hp) : List V → List Tm → Prop := Paired fun v t => IsTm H t v
theorem tms_keep {H H' : Hp} {us : List V} {ts : List Tm} (ht : ∀ b ys, H b = some (.tup ys) → H' b = some (.tup ys)) (h : Tms H us ts) : Tms H' us ts := Paired.mapP h fun _ _ z => z.keep ht
theorem tms_same {H H' : Hp} {us : List V} {ts : List Tm} (sm : Same H H') (h : Tms H us ts) : Tms H' us ts := tms_keep (fun b ys => sm _ _) h
theorem tms_at {H : Hp} : ∀ {us : List V} {ts : List Tm} {i : Nat} {v : V}, Tms H us ts → us[i]? = some v → ∃ t, ts[i]? = some t ∧ IsTm H t v
  | _, _, _, _, .nil, e => by simp at e
  | _, _, 0, _, .cons h _, e => by simp at e; subst e; exact ⟨_, rfl, h⟩
  | _, _, i + 1, v, .cons _ r, e => by
    obtain ⟨t, e', h⟩ := tms_at (i := i) (v := v) r (by simpa using e)
    exact ⟨t, by simpa using e', h⟩
theorem tms_snoc {H : Hp} {us : List V} {ts : List Tm} {v : V} {t : Tm} (h : Tms H us ts) (q : IsTm H t v) : Tms H (us ++ [v]) (ts ++ [t]) := Paired.snoc h q
noncomputable def tmNK : Tm → NK
  | .num n => [.inl (.inr "num"), .inl (.inl n)]
  | .name x => [.inl (.inr "name"), .inl (.inr x)]
  | .of x as => [.inl (.inr "of"), .inl (.inr x), .inr (as.map fun n : Nat => (.inl (n : Int) : Key))]
theorem tmNK_inj : ∀ {t u : Tm}, tmNK t = tmNK u → t = u
  | .num n, .num m, e => by unfold tmNK at e; simp at e; rw [e]
  | .name x, .name y, e => by unfold tmNK at e; simp at e; rw [e]
  | .of x as, .of y bs, e => by
    unfold tmNK at e
    simp only [List.cons.injEq, Sum.inl.injEq, Sum.inr.injEq, and_true, true_and] at e
    rw [e.1]
    have := map_inj_of (f := fun n : Nat => (.inl (n : Int) : Key)) (fun a b h => by have h := Sum.inl.inj h; omega) e.2
    rw [this]
  | .num n, .name y, e => by
    unfold tmNK at e
    simp only [List.cons.injEq, Sum.inl.injEq, Sum.inr.injEq] at e
    exact absurd e.1 (by decide)
  | .name n, .num y, e => by
    unfold tmNK at e
    simp only [List.cons.injEq, Sum.inl.injEq, Sum.inr.injEq] at e
    exact absurd e.1 (by decide)
  | .num n, .of y bs, e => by unfold tmNK at e; simp at e
  | .name n, .of y bs, e => by unfold tmNK at e; simp at e
  | .of y bs, .num n, e => by unfold tmNK at e; simp at e
  | .of y bs, .name n, e => by unfold tmNK at e; simp at e
theorem nV_kV (as : List Nat) : as.map nV = (as.map fun n : Nat => (.inl (n : Int) : Key)).map kV := by
  rw [List.map_map]; rfl
theorem IsTm.key {H : Hp} : ∀ {t : Tm} {v : V}, IsTm H t v → ∃ b, v = .ref b ∧ NKey H (tmNK t) b
  | .num n, v, h => by
    obtain ⟨a, e, h⟩ := h
    refine ⟨a, e, _, h, ?_⟩
    exact ⟨_, rfl, _, rfl, rfl⟩
  | .name x, v, h => by
    obtain ⟨a, e, h⟩ := h
    refine ⟨a, e, _, h, ?_⟩
    exact ⟨_, rfl, _, rfl, rfl⟩
  | .of x as, v, h => by
    obtain ⟨a, b, e, h, h2⟩ := h
    refine ⟨a, e, _, h, ?_⟩
    rw [nV_kV] at h2
    exact ⟨_, rfl, _, rfl, b, _, rfl, h2, rfl⟩
noncomputable def tmD : Tm → D
  | .num n => .tup [.str "num", .int n]
  | .name x => .tup [.str "name", .str x]
  | .of x as => .tup [.str "of", .str x, .tup (as.map fun n : Nat => .int (n : Int))]
theorem dens_ints {H : Hp} : ∀ as : List Nat, Dens H (as.map fun n : Nat => D.int (n : Int)) (as.map nV)
  | [] => by rw [List.map_nil, List.map_nil]; exact dens_nil
  | a :: as => by rw [List.map_cons, List.map_cons]; exact dens_cons (by rw [Den]; exact .inl rfl) (dens_ints as)
theorem IsTm.den {H : Hp} : ∀ {t : Tm} {v : V}, IsTm H t v → Den H (tmD t) v
  | .num n, v, h => by
    obtain ⟨a, e, h⟩ := h
    rw [tmD, Den]
    exact ⟨a, _, e, h, dens_cons (by rw [Den]) (dens_cons (by rw [Den]; exact .inl rfl) dens_nil)⟩
  | .name x, v, h => by
    obtain ⟨a, e, h⟩ := h
    rw [tmD, Den]
    exact ⟨a, _, e, h, dens_cons (by rw [Den]) (dens_cons (by rw [Den]) dens_nil)⟩
  | .of x as, v, h => by
    obtain ⟨a, b, e, h, h2⟩ := h
    rw [tmD, Den]
    exact ⟨a, _, e, h, dens_cons (by rw [Den]) (dens_cons (by rw [Den]) (dens_cons (by rw [Den]; exact ⟨b, _, rfl, h2, dens_ints as⟩) dens_nil))⟩
theorem tms_den {H : Hp} {us : List V} {ts : List Tm} (h : Tms H us ts) : Dens H (ts.map tmD) us := by
  induction h with
  | nil => exact dens_nil
  | cons h _ ih => rw [List.map_cons]; exact dens_cons h.den ih
theorem ints_deep : ∀ as : List Nat, D.deeps (as.map fun n : Nat => D.int (n : Int)) = 0
  | [] => by rw [List.map_nil, D.deeps]
  | a :: as => by rw [List.map_cons, D.deeps, ints_deep as, D.deep]; rfl
theorem tm_deep : ∀ t : Tm, (tmD t).deep ≤ 2
  | .num n => by rw [tmD, D.deep, D.deeps, D.deeps, D.deeps, D.deep, D.deep]; decide
  | .name n => by rw [tmD, D.deep, D.deeps, D.deeps, D.deeps, D.deep, D.deep]; decide
  | .of x as => by rw [tmD, D.deep, D.deeps, D.deeps, D.deeps, D.deeps, D.deep, D.deep, D.deep, ints_deep]; decide
theorem tms_deep : ∀ ts : List Tm, D.deeps (ts.map tmD) ≤ 2
  | [] => by rw [List.map_nil, D.deeps]; omega
  | t :: ts => by rw [List.map_cons, D.deeps]; have := tms_deep ts; have := tm_deep t; omega
noncomputable def But (L : Addr) (H H' : Hp) : Prop := ∀ c o, c ≠ L → H c = some o → H' c = some o
theorem But.refl (L : Addr) (H : Hp) : But L H H := fun _ _ _ h => h
theorem But.same {L : Addr} {H H1 H2 : Hp} (a : But L H H1) (b : Same H1 H2) : But L H H2 := fun c o n h => b c o (a c o n h)
theorem But.put {L : Addr} {H H1 : Hp} {o : HO} (a : But L H H1) : But L H (upd H1 L o) := fun c u n h => by rw [upd_ne n]; exact a c u n h
theorem But.new {L p : Addr} {H H1 : Hp} {o : HO} (a : But L H H1) (hp : H p = none) : But L H (upd H1 p o) := fun c u n h => by rw [upd_ne (ne_of_none h hp)]; exact a c u n h
theorem But.tup {L : Addr} {H H1 : Hp} {ls : List V} (a : But L H H1) (hL : H L = some (.lst ls)) : ∀ b ys, H b = some (.tup ys) → H1 b = some (.tup ys) := fun b ys h => a b _ (ne_of h hL (fun z => nomatch z)) h
noncomputable def EdgeAt (H : Hp) (v : V) (e : Nat × Nat) : Prop := ∃ a rest, v = .ref a ∧ H a = some (.tup (nV e.1 :: nV e.2 :: rest))
theorem EdgeAt.keep {H H' : Hp} {v : V} {e : Nat × Nat} (ht : ∀ b ys, H b = some (.tup ys) → H' b = some (.tup ys)) (h : EdgeAt H v e) : EdgeAt H' v e := by
  obtain ⟨a, r, z, h⟩ := h
  exact ⟨a, r, z, ht _ _ h⟩
noncomputable abbrev Edges (H : Hp) : List V → List (Nat × Nat) → Prop := Paired (EdgeAt H)
theorem edges_keep {H H' : Hp} {us : List V} {es : List (Nat × Nat)} (ht : ∀ b ys, H b = some (.tup ys) → H' b = some (.tup ys)) (h : Edges H us es) : Edges H' us es := Paired.mapP h fun _ _ z => z.keep ht
theorem edges_at {H : Hp} : ∀ {us : List V} {ts : List (Nat × Nat)} {i : Nat} {v : V}, Edges H us ts → us[i]? = some v → ∃ t, ts[i]? = some t ∧ EdgeAt H v t
  | _, _, _, _, .nil, e => by simp at e
  | _, _, 0, _, .cons h _, e => by simp at e; subst e; exact ⟨_, rfl, h⟩
  | _, _, i + 1, v, .cons _ r, e => by
    obtain ⟨t, e', h⟩ := edges_at (i := i) (v := v) r (by simpa using e)
    exact ⟨t, by simpa using e', h⟩
theorem rd_cut {t rest : TS} {D : Ends} {σ : St} {H : Hp} (R : St → Hp → Prop) (key : ∀ σ' H', R σ' H' → rest D σ' H') (h : ∀ {N : St → Hp → Prop}, (∀ σ' H', R σ' H' → N σ' H') → t { D with nx := N } σ H) : tSeq t rest D σ H := h key
theorem nV_at {ls : List Nat} {k v : Nat} (h : ls[k]? = some v) : atI (ls.map nV) (k : Int) = some (nV v) := atI_nat (by rw [List.getElem?_map, h]; rfl)
theorem nV_set {ls : List Nat} {k v : Nat} : (ls.map nV).set k (nV v) = (ls.set k v).map nV := by rw [List.map_set]
noncomputable def vI : V → Int
  | .int c => c
  | _ => 0
noncomputable def abc : Str := "abcdefghijklmnopqrstuvwxyz"
noncomputable def letF (i : Int) : Str := ⟨#[abc.cps.toList.getD (i % 26).toNat 97]⟩
theorem abcF_at (i : Int) : atI abc.cps.toList (i % 26) = some (abc.cps.toList.getD (i % 26).toNat 97) := by
  have h0 : 0 ≤ i % 26 := Int.emod_nonneg _ (by decide)
  have h1 : i % 26 < 26 := Int.emod_lt_of_pos _ (by decide)
  have hl : abc.cps.toList.length = 26 := by decide +kernel
  have hi : (i % 26).toNat < abc.cps.toList.length := by omega
  have z : atI abc.cps.toList (((i % 26).toNat : Nat) : Int) = some abc.cps.toList[(i % 26).toNat] := atI_nat (List.getElem?_eq_getElem hi)
  have e : (((i % 26).toNat : Nat) : Int) = i % 26 := by omega
  rw [e] at z
  rw [z, List.getD_eq_getElem?_getD, List.getElem?_eq_getElem hi]
  rfl
noncomputable def TsOk (ts : List Tm) : Prop := Arms ts ∧ (∀ (i : Nat) x as, ts[i]? = some (.of x as) → as.length ≤ 4 ∧ 1 ≤ as.length) ∧ ts.Nodup
theorem tsok_nil : TsOk [] := ⟨fun i x as h => by simp at h, fun i x as h => by simp at h, List.nodup_nil⟩
theorem cutV_mem {xs : List V} {lo hi : Option Int} {x : V} (h : x ∈ cutV xs lo hi) : x ∈ xs := List.mem_of_mem_drop (List.mem_of_mem_take h)
theorem cut_take {xs : List V} {k : Nat} (h : k ≤ xs.length) : cutV xs none (some (k : Int)) = xs.take k := by
  unfold cutV
  rw [HT.sIx_nat, HT.sIx_none, Nat.min_eq_left h, List.drop_zero, Nat.sub_zero]
theorem getD_at {ls : List Nat} {k : Nat} (h : k < ls.length) : ls[k]? = some (ls.getD k 0) := by rw [List.getD_eq_getElem?_getD, List.getElem?_eq_getElem h]; rfl
theorem den_leads {H : Hp} {L : Addr} {ls : List Nat} (h : H L = some (.lst (ls.map nV))) : Den H (.lst (ls.map fun n : Nat => D.int (n : Int))) (.ref L) := by rw [Den]; exact ⟨L, _, rfl, h, dens_ints ls⟩
end Sw
namespace Sw
open PySem L2
noncomputable abbrev DK := List (Key × V)
noncomputable def lk (l : Nat) : Key := Sum.inl (l : Int)
theorem lk_inj {a b : Nat} (h : lk a = lk b) : a = b := by have h := Sum.inl.inj h; omega
noncomputable def armsF : Tm → List Nat
  | .of _ as => as
  | _ => []
end Sw
namespace Sw
open PySem L2
section
variable {ls : List Nat} {ts : List Tm} {pk : DK} {l here : Nat} {fs ws bs : List Nat}
end
noncomputable def dictN (fs : List Nat) : DK := fs.map fun l => (lk l, V.bl true)
theorem val_dictN (fs : List Nat) (b : Nat) : (valV (dictN fs) (lk b)).isSome = decide (b ∈ fs) := by
  unfold dictN valV
  rw [Option.isSome_map]
  induction fs with
  | nil => rfl
  | cons x fs ih =>
    rw [List.map_cons, List.find?_cons]
    by_cases e : x = b
    · subst e
      simp
    · have e2 : decide (lk x = lk b) = false := decide_eq_false fun z => e (lk_inj z)
      rw [show decide ((lk x, V.bl true).1 = lk b) = false from e2]
      rw [ih]
      have : (b ∈ x :: fs) ↔ b ∈ fs := by
        rw [List.mem_cons]
        exact ⟨fun z => z.elim (fun z => absurd z.symm e) id, .inr⟩
      exact decide_eq_decide.mpr this.symm
theorem put_dictN {fs : List Nat} {b : Nat} (h : b ∉ fs) : putK (dictN fs) (lk b) (.bl true) = dictN (fs ++ [b]) := by
  have hv : valV (dictN fs) (lk b) = none := by
    have z := val_dictN fs b
    rw [decide_eq_false h] at z
    cases e : valV (dictN fs) (lk b) with
    | none => rfl
    | some v => rw [e] at z; cases z
  rw [putK_new _ hv]
  unfold dictN
  rw [List.map_append]
  rfl
end Sw
namespace L2
open PySem
end L2
namespace Sw
open PySem L2
end Sw
namespace Sw
open PySem L2
noncomputable abbrev Sz := Nat × Nat
noncomputable def SzAt (H : Hp) (v : V) (z : Sz) : Prop := ∃ a, v = .ref a ∧ H a = some (.tup [nV z.1, nV z.2])
theorem SzAt.keep {H H' : Hp} {v : V} {z : Sz} (ht : ∀ b ys, H b = some (.tup ys) → H' b = some (.tup ys)) (h : SzAt H v z) : SzAt H' v z := by obtain ⟨a, e, h⟩ := h; exact ⟨a, e, ht _ _ h⟩
theorem deeps_of {ds : List D} {n : Nat} (h : ∀ d ∈ ds, d.deep ≤ n) : D.deeps ds ≤ n := by
  induction ds with
  | nil => rw [D.deeps]; exact Nat.zero_le _
  | cons d ds ih => rw [D.deeps]; have := h d List.mem_cons_self; have := ih fun e he => h e (List.mem_cons_of_mem _ he); omega
theorem noLs_of {ds : List D} (h : ∀ d ∈ ds, d.noL = true) : D.noLs ds = true := by
  induction ds with
  | nil => rw [D.noLs]
  | cons d ds ih => rw [D.noLs, h d List.mem_cons_self, ih fun e he => h e (List.mem_cons_of_mem _ he)]; rfl
noncomputable abbrev Rw := Nat × Nat
noncomputable def dpL (f : Nat → Sz) (bs : List Nat) : Nat := bs.foldl (fun m b => max m (f b).2) 0
noncomputable def szL (f : Nat → Sz) (bs : List Nat) : Sz := (1 + (bs.map fun b => (f b).1).sum, dpL f bs + 1)
noncomputable def trM (f : Nat → D) : Tm → D
  | .of x bs => .tup [.str "of", .str x, .tup (bs.map f)]
  | .num n => .tup [.str "num", .int n]
  | .name x => .tup [.str "name", .str x]
noncomputable def mtF (ts : List Tm) (ls : List Nat) (k : Nat) : Tm := mk ls (ts.getD k (.num 0))
noncomputable def stepZ (ts : List Tm) (ls : List Nat) (f : Nat → Sz) (r : Rw) : Nat → Sz := fun l => if l = r.1 then szL f (armsF (mtF ts ls r.2)) else f l
noncomputable def stepD (ts : List Tm) (ls : List Nat) (f : Nat → D) (r : Rw) : Nat → D := fun l => if l = r.1 then trM f (mtF ts ls r.2) else f l
noncomputable def zF (ts : List Tm) (ls : List Nat) (rs : List Rw) : Nat → Sz := rs.foldl (stepZ ts ls) fun _ => (0, 0)
noncomputable def dF (ts : List Tm) (ls : List Nat) (rs : List Rw) : Nat → D := rs.foldl (stepD ts ls) fun _ => .non
theorem zF_snoc (ts : List Tm) (ls : List Nat) (rs : List Rw) (r : Rw) : zF ts ls (rs ++ [r]) = stepZ ts ls (zF ts ls rs) r := by unfold zF; rw [List.foldl_append]; rfl
theorem dF_snoc (ts : List Tm) (ls : List Nat) (rs : List Rw) (r : Rw) : dF ts ls (rs ++ [r]) = stepD ts ls (dF ts ls rs) r := by unfold dF; rw [List.foldl_append]; rfl
theorem take_snoc {α : Type} {xs : List α} {i : Nat} {x : α} (h : xs[i]? = some x) : xs.take (i + 1) = xs.take i ++ [x] := by rw [List.take_add_one, h]; rfl
theorem mtF_at {ts : List Tm} {ls : List Nat} {k : Nat} {t : Tm} (h : ts[k]? = some t) : mtF ts ls k = mk ls t := by unfold mtF; rw [List.getD_eq_getElem?_getD, h]; rfl
theorem arms_mk (ls : List Nat) (t : Tm) : armsF (mk ls t) = (armsF t).map fun a => ls.getD a 0 := by
  cases t with
  | num n => rfl
  | name n => rfl
  | of x as => rfl
structure ChG (ts : List Tm) (ls : List Nat) (rs : List Rw) : Prop where
  num : ∀ r ∈ rs, r.2 < ts.length
  arms : ∀ (i : Nat) (r : Rw), rs[i]? = some r → ∀ b ∈ armsF (mtF ts ls r.2), b ∈ (rs.take i).map (·.1)
theorem dpL_mem {f : Nat → Sz} : ∀ (bs : List Nat) (m : Nat), m ≤ bs.foldl (fun m b => max m (f b).2) m ∧ ∀ b ∈ bs, (f b).2 ≤ bs.foldl (fun m b => max m (f b).2) m
  | [], m => ⟨Nat.le_refl _, fun b h => nomatch h⟩
  | c :: bs, m => by
    obtain ⟨h1, h2⟩ := dpL_mem (f := f) bs (max m (f c).2)
    rw [List.foldl_cons]
    refine ⟨by omega, fun b hb => ?_⟩
    rcases List.mem_cons.mp hb with rfl | hb
    · omega
    · exact h2 b hb
theorem dpL_at {f : Nat → Sz} : ∀ (bs : List Nat) (m : Nat), bs.foldl (fun m b => max m (f b).2) m = m ∨ ∃ b ∈ bs, bs.foldl (fun m b => max m (f b).2) m = (f b).2
  | [], m => .inl rfl
  | c :: bs, m => by
    rw [List.foldl_cons]
    rcases dpL_at (f := f) bs (max m (f c).2) with h | ⟨b, hb, h⟩
    · rcases Nat.le_total m (f c).2 with q | q
      · exact .inr ⟨c, List.mem_cons_self, by rw [h]; omega⟩
      · exact .inl (by rw [h]; omega)
    · exact .inr ⟨b, List.mem_cons_of_mem _ hb, h⟩
theorem dpL_le {f : Nat → Sz} {bs : List Nat} {b : Nat} (h : b ∈ bs) : (f b).2 ≤ dpL f bs := (dpL_mem bs 0).2 b h
theorem dpL_is {f : Nat → Sz} {bs : List Nat} {M : Int} (h0 : bs = [] → M = 0) (h1 : bs ≠ [] → M ∈ bs.map fun b => (((f b).2 : Nat) : Int)) (h2 : ∀ x ∈ (bs.map fun b => (((f b).2 : Nat) : Int)), x ≤ M) : M = ((dpL f bs : Nat) : Int) := by
  cases bs with
  | nil => rw [h0 rfl]; rfl
  | cons c cs =>
    obtain ⟨b, hb, e⟩ := List.mem_map.mp (h1 (List.cons_ne_nil _ _))
    have l1 := dpL_le (f := f) hb
    rcases dpL_at (f := f) (c :: cs) 0 with z | ⟨b', hb', z⟩
    · have z : dpL f (c :: cs) = 0 := z
      omega
    · have z : dpL f (c :: cs) = (f b').2 := z
      have := h2 _ (List.mem_map.mpr ⟨b', hb', rfl⟩)
      omega
theorem sz_step {f : Nat → Sz} {bs : List Nat} {i b : Nat} (h : bs[i]? = some b) : dpL f (bs.take (i + 1)) = max (dpL f (bs.take i)) (f b).2 := by
  unfold dpL; rw [take_snoc h, List.foldl_append]; rfl
theorem sum_step {f : Nat → Sz} {bs : List Nat} {i b : Nat} (h : bs[i]? = some b) : ((bs.take (i + 1)).map fun b => (f b).1).sum = ((bs.take i).map fun b => (f b).1).sum + (f b).1 := by
  rw [take_snoc h, List.map_append, List.sum_append]; simp
theorem trM_ok {f : Nat → D} {z : Nat → Sz} {t : Tm} (h : ∀ b ∈ armsF t, (f b).deep ≤ 2 * (z b).2 ∧ (f b).noL = true) : (trM f t).deep ≤ 2 * (szL z (armsF t)).2 ∧ (trM f t).noL = true := by
  cases t with
  | num n => rw [trM, szL]; refine ⟨?_, rfl⟩; rw [D.deep, D.deeps, D.deeps, D.deeps, D.deep, D.deep]; show _ ≤ 2 * (_ + 1); omega
  | name n => rw [trM, szL]; refine ⟨?_, rfl⟩; rw [D.deep, D.deeps, D.deeps, D.deeps, D.deep, D.deep]; show _ ≤ 2 * (_ + 1); omega
  | of x bs =>
    have sub : ∀ e ∈ bs.map f, e.deep ≤ 2 * dpL z bs ∧ e.noL = true := fun e he => by
      obtain ⟨b, hb, rfl⟩ := List.mem_map.mp he
      obtain ⟨h1, h2⟩ := h b hb
      have := dpL_le (f := z) hb
      exact ⟨by omega, h2⟩
    have dd := deeps_of fun e he => (sub e he).1
    have nn := noLs_of fun e he => (sub e he).2
    rw [trM, szL]
    refine ⟨?_, ?_⟩
    · rw [D.deep, D.deeps, D.deeps, D.deeps, D.deeps, D.deep, D.deep, D.deep]
      show max 0 (max 0 (max (D.deeps _ + 1) 0)) + 1 ≤ 2 * (dpL z bs + 1)
      omega
    · rw [D.noL, D.noLs, D.noLs, D.noLs, D.noLs, D.noL, D.noL, D.noL, nn]; rfl
theorem ch_ok {ts : List Tm} {ls : List Nat} {rs : List Rw} (h : ChG ts ls rs) : ∀ i, i ≤ rs.length → ∀ l ∈ (rs.take i).map (·.1), (dF ts ls (rs.take i) l).deep ≤ 2 * (zF ts ls (rs.take i) l).2 ∧ (dF ts ls (rs.take i) l).noL = true
  | 0, _ => fun l hl => by rw [List.take_zero] at hl; cases hl
  | i + 1, hi => fun l hl => by
    have ih := ch_ok h i (by omega)
    have hr : rs[i]? = some rs[i] := List.getElem?_eq_getElem (by omega)
    generalize rs[i] = r at hr
    rw [take_snoc hr] at hl ⊢
    rw [zF_snoc, dF_snoc]
    unfold stepZ stepD
    by_cases e : l = r.1
    · rw [if_pos e, if_pos e]
      exact trM_ok fun b hb => ih b (h.arms i r hr b hb)
    · rw [if_neg e, if_neg e]
      refine ih l ?_
      rw [List.map_append] at hl
      rcases List.mem_append.mp hl with z | z
      · exact z
      · exact absurd (List.mem_singleton.mp z) e
noncomputable def SzD (H : Hp) (kvs : DK) (f : Nat → Sz) (bs : List Nat) : Prop := ∀ b ∈ bs, ∃ v, valV kvs (lk b) = some v ∧ SzAt H v (f b)
noncomputable def TrD (H : Hp) (kvs : DK) (f : Nat → D) (bs : List Nat) : Prop := ∀ b ∈ bs, ∃ v, valV kvs (lk b) = some v ∧ Den H (f b) v
noncomputable def PairAt (H : Hp) (v : V) (r : Rw) : Prop := ∃ b, v = .ref b ∧ H b = some (.tup [nV r.1, nV r.2])
theorem PairAt.keep {H H' : Hp} {v : V} {r : Rw} (ht : ∀ b ys, H b = some (.tup ys) → H' b = some (.tup ys)) (h : PairAt H v r) : PairAt H' v r := by obtain ⟨a, e, h⟩ := h; exact ⟨a, e, ht _ _ h⟩
theorem SzD.keep {H H' : Hp} {kvs : DK} {f : Nat → Sz} {bs : List Nat} (ht : ∀ b ys, H b = some (.tup ys) → H' b = some (.tup ys)) (h : SzD H kvs f bs) : SzD H' kvs f bs := fun b hb => by
  obtain ⟨v, e, h⟩ := h b hb; exact ⟨v, e, h.keep ht⟩
theorem TrD.keep {H H' : Hp} {kvs : DK} {f : Nat → D} {bs : List Nat} (ht : ∀ b ys, H b = some (.tup ys) → H' b = some (.tup ys)) (hn : ∀ b ∈ bs, (f b).noL = true) (h : TrD H kvs f bs) : TrD H' kvs f bs := fun b hb => by
  obtain ⟨v, e, h⟩ := h b hb; exact ⟨v, e, den_keepT ht (hn b hb) h⟩
theorem SzD.put {H : Hp} {kvs : DK} {f g : Nat → Sz} {bs : List Nat} {l : Nat} {v : V} (h : SzD H kvs f bs) (hv : SzAt H v (g l)) (hg : ∀ x, x ≠ l → g x = f x) : SzD H (putK kvs (lk l) v) g (bs ++ [l]) := fun b hb => by
  rw [valV_put]
  by_cases e : b = l
  · subst e; exact ⟨v, if_pos rfl, hv⟩
  · rw [if_neg (fun z => e (lk_inj z)), hg b e]
    rcases List.mem_append.mp hb with z | z
    · exact h b z
    · exact absurd (List.mem_singleton.mp z) e
theorem TrD.put {H : Hp} {kvs : DK} {f g : Nat → D} {bs : List Nat} {l : Nat} {v : V} (h : TrD H kvs f bs) (hv : Den H (g l) v) (hg : ∀ x, x ≠ l → g x = f x) : TrD H (putK kvs (lk l) v) g (bs ++ [l]) := fun b hb => by
  rw [valV_put]
  by_cases e : b = l
  · subst e; exact ⟨v, if_pos rfl, hv⟩
  · rw [if_neg (fun z => e (lk_inj z)), hg b e]
    rcases List.mem_append.mp hb with z | z
    · exact h b z
    · exact absurd (List.mem_singleton.mp z) e
theorem stepZ_ne {ts : List Tm} {ls : List Nat} {f : Nat → Sz} {r : Rw} : ∀ x, x ≠ r.1 → stepZ ts ls f r x = f x := fun x h => if_neg h
theorem stepD_ne {ts : List Tm} {ls : List Nat} {f : Nat → D} {r : Rw} : ∀ x, x ≠ r.1 → stepD ts ls f r x = f x := fun x h => if_neg h
theorem stepZ_at {ts : List Tm} {ls : List Nat} {f : Nat → Sz} {r : Rw} : stepZ ts ls f r r.1 = szL f (armsF (mtF ts ls r.2)) := if_pos rfl
theorem stepD_at {ts : List Tm} {ls : List Nat} {f : Nat → D} {r : Rw} : stepD ts ls f r r.1 = trM f (mtF ts ls r.2) := if_pos rfl
theorem sub_len : ∀ {W R : List Nat}, W.Nodup → (∀ x ∈ W, x ∈ R) → W.length ≤ R.length
  | [], R, _, _ => Nat.zero_le _
  | x :: W, R, h, s => by
    rw [List.nodup_cons] at h
    have hx := s x List.mem_cons_self
    have ih := sub_len (W := W) (R := R.erase x) h.2 fun y hy => (List.mem_erase_of_ne (fun e => h.1 (by rw [← e]; exact hy))).mpr (s y (List.mem_cons_of_mem _ hy))
    have e := List.length_erase_of_mem hx
    have := List.length_pos_of_mem hx
    show W.length + 1 ≤ R.length
    omega
theorem least_ex : ∀ (W : List Nat) (p : Nat → Prop), (∃ x ∈ W, p x) → ∃ x ∈ W, p x ∧ ∀ y ∈ W, p y → x ≤ y
  | [], p, h => by obtain ⟨x, hx, _⟩ := h; cases hx
  | w :: W, p, h => by
    by_cases q : ∃ x ∈ W, p x
    · obtain ⟨x, hx, px, mx⟩ := least_ex W p q
      by_cases pw : p w ∧ w ≤ x
      · exact ⟨w, List.mem_cons_self, pw.1, fun y hy py => by
          rcases List.mem_cons.mp hy with rfl | hy
          · exact Nat.le_refl _
          · exact Nat.le_trans pw.2 (mx y hy py)⟩
      · refine ⟨x, List.mem_cons_of_mem _ hx, px, fun y hy py => ?_⟩
        rcases List.mem_cons.mp hy with rfl | hy
        · by_cases l : y ≤ x
          · exact absurd ⟨py, l⟩ pw
          · omega
        · exact mx y hy py
    · obtain ⟨x, hx, px⟩ := h
      rcases List.mem_cons.mp hx with rfl | hx
      · refine ⟨x, List.mem_cons_self, px, fun y hy py => ?_⟩
        rcases List.mem_cons.mp hy with rfl | hy
        · exact Nat.le_refl _
        · exact absurd ⟨y, hy, py⟩ q
      · exact absurd ⟨x, hx, px⟩ q
structure PrG (ts : List Tm) (ls : List Nat) : Prop where
  arms : Arms ts
  len : ls.length = ts.length
  few : ts.length ≤ 500
  short : ∀ (i : Nat) x as, ts[i]? = some (.of x as) → as.length ≤ 1000
  good : GoodL ls
theorem PrG.lt {ts : List Tm} {ls : List Nat} (h : PrG ts ls) : ∀ k, k < ts.length → ls.getD k 0 < ts.length := fun k hk => by
  have := (h.good k _ (getD_at (by rw [h.len]; exact hk))).1
  omega
noncomputable def ArmG (ls : List Nat) (t : Tm) : Prop := (armsF t).length ≤ 1000 ∧ ∀ a ∈ armsF t, a < ls.length
theorem PrG.armIn {ts : List Tm} {ls : List Nat} (h : PrG ts ls) {k : Nat} {t : Tm} (ht : ts[k]? = some t) : ArmG ls t := by
  have hk := (List.getElem?_eq_some_iff.mp ht).1
  cases t with
  | num n => exact ⟨Nat.zero_le _, fun a ha => nomatch ha⟩
  | name n => exact ⟨Nat.zero_le _, fun a ha => nomatch ha⟩
  | of x as => exact ⟨h.short k x as ht, fun a ha => by have := h.arms k x as ht a ha; rw [h.len]; omega⟩
theorem ArmG.mark {ls : List Nat} {t : Tm} (h : ArmG ls t) : ∀ x as, t = .of x as → as.length ≤ 1000 ∧ ∀ a ∈ as, a < ls.length := fun x as e => by subst e; exact h
theorem dget_lk {H : Hp} {G : Addr} {kvs : DK} {l : Nat} {v : V} (hG : H G = some (.dK kvs)) (h : valV kvs (lk l) = some v) : DGet H G (nV l) (some v) := by
  have := DGet.k (k := lk l) hG
  rw [h] at this
  exact this
theorem dens_pickD {H : Hp} {kvs : DK} {f : Nat → D} : ∀ {bs : List Nat}, TrD H kvs f bs → Dens H (bs.map f) (bs.map fun b => (valV kvs (lk b)).getD .non)
  | [], _ => dens_nil
  | b :: bs, h => by
    obtain ⟨v, e, hv⟩ := h b List.mem_cons_self
    rw [List.map_cons, List.map_cons, e]
    exact dens_cons hv (dens_pickD fun c hc => h c (List.mem_cons_of_mem _ hc))
structure WInv (ts : List Tm) (ls : List Nat) (l : Nat) (W : List Nat) : Prop where
  nd : W.Nodup
  lead : ∀ x ∈ W, ∃ k, k < ts.length ∧ ls.getD k 0 = x
  here : l ∈ W
theorem WInv.len {ts : List Tm} {ls : List Nat} {l : Nat} {W : List Nat} (h : WInv ts ls l W) (pi : PrG ts ls) : W.length ≤ ts.length := by
  have := sub_len (R := List.range ts.length) h.nd (fun x hx => by obtain ⟨k, hk, e⟩ := h.lead x hx; rw [← e]; exact List.mem_range.mpr (pi.lt k hk))
  rwa [List.length_range] at this
theorem WInv.start {ts : List Tm} {ls : List Nat} {l : Nat} (h : ∃ k, k < ts.length ∧ ls.getD k 0 = l) : WInv ts ls l [l] :=
  ⟨List.nodup_cons.mpr ⟨(fun z => nomatch z), List.nodup_nil⟩, fun x hx => by rw [List.mem_singleton.mp hx]; exact h, List.mem_singleton.mpr rfl⟩
theorem nodup_snoc {W : List Nat} {x : Nat} (h : W.Nodup) (hn : x ∉ W) : (W ++ [x]).Nodup := by
  rw [List.nodup_append]
  refine ⟨h, List.nodup_cons.mpr ⟨(fun z => nomatch z), List.nodup_nil⟩, fun a ha b hb e => ?_⟩
  rw [List.mem_singleton.mp hb] at e
  exact hn (e ▸ ha)
theorem WInv.add {ts : List Tm} {ls : List Nat} {l : Nat} {W : List Nat} (h : WInv ts ls l W) {a : Nat} (ha : a < ts.length) (hn : ls.getD a 0 ∉ W) : WInv ts ls l (W ++ [ls.getD a 0]) :=
  ⟨nodup_snoc h.nd hn, fun x hx => by
    rcases List.mem_append.mp hx with z | z
    · exact h.lead x z
    · exact ⟨a, ha, (List.mem_singleton.mp z).symm⟩, List.mem_append_left _ h.here⟩
structure RwI (ts : List Tm) (ls : List Nat) (W : List Nat) (rs : List Rw) : Prop where
  ch : ChG ts ls rs
  nd : (rs.map (·.1)).Nodup
  sub : ∀ x ∈ rs.map (·.1), x ∈ W
theorem RwI.nil {ts : List Tm} {ls : List Nat} {W : List Nat} : RwI ts ls W [] := ⟨⟨(fun r h => nomatch h), fun i r h => by simp at h⟩, List.nodup_nil, (fun x h => nomatch h)⟩
theorem RwI.len {ts : List Tm} {ls : List Nat} {W : List Nat} {rs : List Rw} (h : RwI ts ls W rs) : rs.length ≤ W.length := by
  have := sub_len h.nd h.sub
  rwa [List.length_map] at this
theorem RwI.add {ts : List Tm} {ls : List Nat} {W : List Nat} {rs : List Rw} (h : RwI ts ls W rs) {m j : Nat} {t : Tm} (hm : m ∈ W) (hn : m ∉ rs.map (·.1)) (ht : ts[j]? = some t) (ha : ∀ b ∈ (armsF t).map (fun a => ls.getD a 0), b ∈ rs.map (·.1)) : RwI ts ls W (rs ++ [(m, j)]) := by
  refine ⟨⟨fun r hr => ?_, fun i r hr b hb => ?_⟩, ?_, fun x hx => ?_⟩
  · rcases List.mem_append.mp hr with z | z
    · exact h.ch.num r z
    · rw [List.mem_singleton.mp z]; exact (List.getElem?_eq_some_iff.mp ht).1
  · by_cases hi : i < rs.length
    · rw [List.getElem?_append_left hi] at hr
      rw [List.take_append_of_le_length (by omega)]
      exact h.ch.arms i r hr b hb
    · have hl := (List.getElem?_eq_some_iff.mp hr).1
      rw [List.length_append, List.length_singleton] at hl
      have e : i = rs.length := by omega
      subst e
      have er : (m, j) = r := by simpa using hr
      subst er
      rw [List.take_append_of_le_length (Nat.le_refl _), List.take_length]
      dsimp only at hb
      rw [mtF_at ht, arms_mk] at hb
      exact ha b hb
  · rw [List.map_append]; exact nodup_snoc h.nd hn
  · rw [List.map_append] at hx
    rcases List.mem_append.mp hx with z | z
    · exact h.sub x z
    · rw [List.mem_singleton.mp z]; exact hm
noncomputable def pkA (ls : List Nat) (ts : List Tm) (pk : DK) (w : Nat) : List Nat := match valV pk (lk w) with
  | some v => (armsF (ts.getD (vI v).toNat (.num 0))).map fun a => ls.getD a 0
  | none => []
theorem pkA_at {ls : List Nat} {ts : List Tm} {pk : DK} {w j : Nat} {t : Tm} (h : valV pk (lk w) = some (nV j)) (ht : ts[j]? = some t) : pkA ls ts pk w = (armsF t).map fun a => ls.getD a 0 := by
  unfold pkA
  rw [h]
  show (armsF (ts.getD ((j : Nat) : Int).toNat (.num 0))).map (fun a => ls.getD a 0) = _
  rw [Int.toNat_natCast, List.getD_eq_getElem?_getD, ht]
  rfl
noncomputable def Ranked (ls : List Nat) (ts : List Tm) (pk : DK) : Prop := ∀ w, ∀ b ∈ pkA ls ts pk w, b < w
theorem rank_step {A : Nat → List Nat} {W R0 R1 : List Nat} (hr : ∀ w, ∀ b ∈ A w, b < w) (hW : W.Nodup) (hcl : ∀ w ∈ W, ∀ b ∈ A w, b ∈ W) (hvis : ∀ w ∈ W, (∀ b ∈ A w, b ∈ R0) → w ∈ R1) (sub : ∀ x ∈ R0, x ∈ R1) (nd0 : R0.Nodup) {i : Nat} (hi : i < W.length) (h0 : i ≤ R0.length) : i + 1 ≤ R1.length := by
  have l01 := sub_len nd0 sub
  by_cases q : ∃ w ∈ W, w ∉ R0
  · obtain ⟨w, hw, hn, hmin⟩ := least_ex W (fun x => x ∉ R0) q
    have h1 : w ∈ R1 := hvis w hw fun b hb => by
      by_cases z : b ∈ R0
      · exact z
      · have h1 := hmin b (hcl w hw b hb) z
        have h2 := hr w b hb
        omega
    have := sub_len (W := w :: R0) (R := R1) (List.nodup_cons.mpr ⟨hn, nd0⟩) fun x hx => by
      rcases List.mem_cons.mp hx with rfl | hx
      · exact h1
      · exact sub x hx
    have e : (w :: R0).length = R0.length + 1 := rfl
    omega
  · have := sub_len hW (R := R0) fun x hx => by
      by_cases z : x ∈ R0
      · exact z
      · exact absurd ⟨x, hx, z⟩ q
    omega
noncomputable def idK (xs : List Nat) : DK := mergeK [] (xs.map fun x => (lk x, nV x))
theorem idK_fold : ∀ (xs : List Nat) (kvs : DK), (∀ m v, valV kvs (lk m) = some v → v = nV m) → (∀ m v, valV (mergeK kvs (xs.map fun x => (lk x, nV x))) (lk m) = some v → v = nV m) ∧ ∀ x, x ∈ xs ∨ (valV kvs (lk x)).isSome = true → (valV (mergeK kvs (xs.map fun x => (lk x, nV x))) (lk x)).isSome = true
  | [], kvs, h => ⟨h, fun x hx => by rcases hx with z | z; cases z; exact z⟩
  | y :: xs, kvs, h => by
    have h' : ∀ m v, valV (putK kvs (lk y) (nV y)) (lk m) = some v → v = nV m := fun m v e => by
      rw [valV_put] at e
      split at e
      · rename_i em; rw [lk_inj em]; exact (Option.some.inj e).symm
      · exact h m v e
    obtain ⟨h1, h2⟩ := idK_fold xs (putK kvs (lk y) (nV y)) h'
    refine ⟨h1, fun x hx => h2 x ?_⟩
    by_cases e : x = y
    · subst e; exact .inr (by rw [valV_put, if_pos rfl]; rfl)
    · rcases hx with z | z
      · rcases List.mem_cons.mp z with z | z
        · exact absurd z e
        · exact .inl z
      · exact .inr (by rw [valV_put, if_neg fun q => e (lk_inj q)]; exact z)
theorem idK_val {xs : List Nat} {m : Nat} {v : V} (h : valV (idK xs) (lk m) = some v) : v = nV m := (idK_fold xs [] fun m v e => by rw [valV_nil] at e; cases e).1 m v h
theorem idK_at {xs : List Nat} {m : Nat} (h : m ∈ xs) : valV (idK xs) (lk m) = some (nV m) := by
  obtain ⟨v, e⟩ := Option.isSome_iff_exists.mp ((idK_fold xs [] fun m v e => by rw [valV_nil] at e; cases e).2 m (.inl h))
  rw [show valV (idK xs) (lk m) = some v from e, idK_val (xs := xs) e]
theorem idK_rank {ls : List Nat} {ts : List Tm} (pi : PrG ts ls) : Ranked ls ts (idK ls) := fun w b hb => by
  unfold pkA at hb
  split at hb
  · rename_i v e
    rw [idK_val e] at hb
    obtain ⟨a, ha, rfl⟩ := List.mem_map.mp hb
    have ew : (vI (nV w)).toNat = w := by show ((w : Nat) : Int).toNat = w; omega
    rw [ew] at ha
    cases ht : ts[w]? with
    | none => rw [List.getD_eq_getElem?_getD, ht] at ha; cases ha
    | some t =>
      rw [List.getD_eq_getElem?_getD, ht] at ha
      have ha : a ∈ armsF t := ha
      cases t with
      | num n => cases ha
      | name n => cases ha
      | of x as =>
        have h1 := pi.arms w x as ht a ha
        have hw := (List.getElem?_eq_some_iff.mp ht).1
        have h2 := (pi.good a _ (getD_at (by rw [pi.len]; omega))).1
        omega
  · cases hb
end Sw
namespace K64
open PySem L2 Sw
noncomputable def top (i : Nat) : Stmt := PySem.Challenge.pw_samewise_k64_taken.main.body.getD i (.Pass ⟨0, 0, 0, 0⟩)
noncomputable abbrev s_mark : Stmt := top 16
theorem sc_mark : FnScope ["term", "leads"] ["term", "leads"] (defScope s_mark) := ⟨rfl, rfl, rfl, by decide +kernel, rfl, by decide +kernel, by decide +kernel⟩
noncomputable abbrev s_join_classes : Stmt := top 18
theorem sc_join_classes : FnScope ["leads", "a", "b", "low", "high", "k"] ["leads", "a", "b"] (defScope s_join_classes) := ⟨rfl, rfl, rfl, by decide +kernel, rfl, by decide +kernel, by decide +kernel⟩
noncomputable abbrev s_join_like : Stmt := top 19
theorem sc_join_like : FnScope ["terms", "leads", "joined", "first", "k", "term", "other"] ["terms", "leads"] (defScope s_join_like) := ⟨rfl, rfl, rfl, by decide +kernel, rfl, by decide +kernel, by decide +kernel⟩
noncomputable abbrev s_closed : Stmt := top 17
theorem sc_closed : FnScope ["terms", "edges", "leads", "edge"] ["terms", "edges"] (defScope s_closed) := ⟨rfl, rfl, rfl, by decide +kernel, rfl, by decide +kernel, by decide +kernel⟩
noncomputable abbrev s_size_above : Stmt := top 12
theorem sc_size_above : FnScope ["term", "sizes", "total", "deepest", "number", "size"] ["term", "sizes"] (defScope s_size_above) := ⟨rfl, rfl, rfl, by decide +kernel, rfl, by decide +kernel, by decide +kernel⟩
noncomputable abbrev s_refuse_great : Stmt := top 13
theorem sc_refuse_great : FnScope ["size"] ["size"] (defScope s_refuse_great) := ⟨rfl, rfl, rfl, by decide +kernel, rfl, by decide +kernel, by decide +kernel⟩
noncomputable abbrev s_tree_above : Stmt := top 14
theorem sc_tree_above : FnScope ["term", "trees"] ["term", "trees"] (defScope s_tree_above) := ⟨rfl, rfl, rfl, by decide +kernel, rfl, by decide +kernel, by decide +kernel⟩
noncomputable abbrev s_taken : Stmt := top 21
theorem sc_taken : FnScope ["terms", "leads", "choice", "sizes", "trees", "lead", "k", "own", "last"] ["terms", "leads", "choice"] (defScope s_taken) := ⟨rfl, rfl, rfl, by decide +kernel, rfl, by decide +kernel, by decide +kernel⟩
noncomputable abbrev s_word : Stmt := top 23
theorem sc_word : FnScope ["_law_cell", "_law_head", "_law_letters", "_law_m", "_law_size_here", "_law_place", "_law_fill"] ["_law_cell", "_law_head"] (defScope s_word) := ⟨rfl, rfl, rfl, by decide +kernel, rfl, by decide +kernel, by decide +kernel⟩
noncomputable abbrev s_number : Stmt := top 24
theorem sc_number : FnScope ["_law_cell", "_law_m"] ["_law_cell"] (defScope s_number) := ⟨rfl, rfl, rfl, by decide +kernel, rfl, by decide +kernel, by decide +kernel⟩
noncomputable abbrev s_knot : Stmt := top 25
theorem sc_knot : FnScope ["_law_cell", "_law_many", "_law_head", "_law_m", "_law_word_here", "_law_count", "_law_factors"] ["_law_cell", "_law_many", "_law_head"] (defScope s_knot) := ⟨rfl, rfl, rfl, by decide +kernel, rfl, by decide +kernel, by decide +kernel⟩
noncomputable abbrev s_term : Stmt := top 26
theorem sc_term : FnScope ["_law_cell", "_law_many", "_law_head", "_law_m"] ["_law_cell", "_law_many", "_law_head"] (defScope s_term) := ⟨rfl, rfl, rfl, by decide +kernel, rfl, by decide +kernel, by decide +kernel⟩
noncomputable abbrev s_made : Stmt := top 27
theorem sc_made : FnScope ["_law_script", "_law_head", "_law_rate", "_law_terms", "_law_edges", "_law_cell", "_law_term_here", "_law_m", "_law_a", "_law_b"] ["_law_script"] (defScope s_made) := ⟨rfl, rfl, rfl, by decide +kernel, rfl, by decide +kernel, by decide +kernel⟩
noncomputable abbrev s_arms : Stmt := top 28
theorem sc_arms : FnScope ["_law_term_here"] ["_law_term_here"] (defScope s_arms) := ⟨rfl, rfl, rfl, by decide +kernel, rfl, by decide +kernel, by decide +kernel⟩
noncomputable abbrev s_picks : Stmt := top 29
theorem sc_picks : FnScope ["_law_terms", "_law_leads", "_law_script", "_law_picks_here", "_law_k", "_law_some", "_law_cell"] ["_law_terms", "_law_leads", "_law_script"] (defScope s_picks) := ⟨rfl, rfl, rfl, by decide +kernel, rfl, by decide +kernel, by decide +kernel⟩
noncomputable abbrev s_rows : Stmt := top 30
theorem sc_rows : FnScope ["_law_terms", "_law_leads", "_law_picks_here", "_law_lead", "_law_wanted", "_law_at", "_law_arm", "_law_rows_here", "_law_there", "_law_again", "_law_one", "_law_below"] ["_law_terms", "_law_leads", "_law_picks_here", "_law_lead"] (defScope s_rows) := ⟨rfl, rfl, rfl, by decide +kernel, rfl, by decide +kernel, by decide +kernel⟩
noncomputable abbrev s_drawn : Stmt := top 31
theorem sc_drawn : FnScope ["_law_terms", "_law_leads", "_law_lead", "_law_script", "_law_rows_here"] ["_law_terms", "_law_leads", "_law_lead", "_law_script"] (defScope s_drawn) := ⟨rfl, rfl, rfl, by decide +kernel, rfl, by decide +kernel, by decide +kernel⟩
noncomputable abbrev s_sized : Stmt := top 32
theorem sc_sized : FnScope ["_law_many", "_law_plan", "_law_terms", "_law_word_here", "_law_last"] ["_law_many"] (defScope s_sized) := ⟨rfl, rfl, rfl, by decide +kernel, rfl, by decide +kernel, by decide +kernel⟩
noncomputable abbrev s_given : Stmt := top 33
theorem sc_given : FnScope ["_law_script", "_law_cell", "_law_many"] ["_law_script"] (defScope s_given) := ⟨rfl, rfl, rfl, by decide +kernel, rfl, by decide +kernel, by decide +kernel⟩
noncomputable abbrev s_size : Stmt := top 34
theorem sc_size : FnScope ["_law_choice", "_law_terms", "_law_leads", "_law_sizes", "_law_lead", "_law_k", "_law_arms_here", "_law_deep"] ["_law_choice", "_law_terms", "_law_leads"] (defScope s_size) := ⟨rfl, rfl, rfl, by decide +kernel, rfl, by decide +kernel, by decide +kernel⟩
noncomputable abbrev s_tree : Stmt := top 35
theorem sc_tree : FnScope ["_law_choice", "_law_terms", "_law_leads", "_law_trees", "_law_lead", "_law_k", "_law_tree_here"] ["_law_choice", "_law_terms", "_law_leads"] (defScope s_tree) := ⟨rfl, rfl, rfl, by decide +kernel, rfl, by decide +kernel, by decide +kernel⟩
noncomputable abbrev s_law : Stmt := top 36
theorem sc_law : FnScope ["_law_script", "_law_terms", "_law_edges", "_law_leads", "_law_choice", "_law_handed", "_law_tree_here", "_law_refused", "e", "_law_size_here"] ["_law_script"] (defScope s_law) := ⟨rfl, rfl, rfl, by decide +kernel, rfl, by decide +kernel, by decide +kernel⟩
section
variable {P : Program} {w : World} {K : PySem.W.Frag} {mg : Str → Option Value} {base : Heap}
inductive SpMark (K : PySem.W.Frag) (vs : List V) (H : Hp) (Q : VK) : Prop
  | mk (v : V) (t : Tm) (L : Addr) (ls : List Nat) (z0 : vs = [v, .ref L]) (z1 : IsTm H t v) (z2 : SqL K H L (ls.map nV)) (z3 : (∀ x as, t = .of x as → as.length ≤ 1000 ∧ ∀ a ∈ as, a < ls.length)) (z4 : ∀ v' H', Same H H' → IsTm H' (mk ls t) v' → Q v' H') : SpMark K vs H Q
noncomputable def spMark (K : PySem.W.Frag) : Sp := fun vs H Q _ => SpMark K vs H Q
theorem ok_mark (B : Blt mg) (D : Def K mg "mark" s_mark ["term", "leads"]) : Has P w K mg base 1 "mark" ["term", "leads"] (spMark K) := by
  refine D.has sc_mark (fun vs H Q E h => ?_) (fun f cdv A outer s H vs Q E hr h => ?_)
  · obtain ⟨v, t, L, ls, rfl, _⟩ := h; rfl
  obtain ⟨v, t, L, ls, rfl, hT, hL, hb, q⟩ := h
  refine ⟨_, (pss_cons (ps_if (pt_cmpR op_ne (pe_ix ix_tup (pv 0) pe_int (fun _ _ => rfl)) pe_str (nomark _)) (pss_one (ps_ret (pv 0))) pss_nil)
    (pss_one (ps_ret (pe_tup (pa_cons pe_str (pa_cons (pe_ix ix_tup (pv 0) pe_int (fun _ _ => rfl)) (pa_cons (pe_callTy call_tuple_of rfl B.tuple_ boot_tuple_ (pa_cons (pe_comp (te := (tOp (rIxL K) _ _)) (own := ["number"]) (caps := [("leads", 1)]) (comp_scope (defScope s_mark) ["term", "leads"] rfl rfl rfl (by decide +kernel)) (pi_tup (pe_ix ix_tup (pv 0) pe_int (fun _ _ => rfl))) rfl (fun _ _ _ => pg_name (i := 0) (show (["number", "leads"] : List Str).Nodup by decide +kernel) rfl (Or.inl rfl)) (fun _ _ _ => (pe_ix ix_list (pv 1) (pv 0) (fun _ _ => rfl)))) pa_nil)) pa_nil))))))), ?_⟩
  try dsimp only [cxOf]
  cases t with
  | num n =>
    obtain ⟨a, rfl, h⟩ := id hT
    refine ⟨_, rfl, a, _, 0, _, rfl, rfl, SqT.of h, atI_nat (j := 0) rfl, rfl, _, rfl, iteDN (fun _ => ⟨_, rfl, q _ _ (Same.refl _) hT⟩) (fun z => absurd (V.str.inj z) (by decide))⟩
  | name n =>
    obtain ⟨a, rfl, h⟩ := id hT
    refine ⟨_, rfl, a, _, 0, _, rfl, rfl, SqT.of h, atI_nat (j := 0) rfl, rfl, _, rfl, iteDN (fun _ => ⟨_, rfl, q _ _ (Same.refl _) hT⟩) (fun z => absurd (V.str.inj z) (by decide))⟩
  | of x as =>
    obtain ⟨a, b, rfl, h, h2⟩ := id hT
    obtain ⟨hl, hlt⟩ := hb x as rfl
    refine ⟨_, rfl, a, _, 0, _, rfl, rfl, SqT.of h, atI_nat (j := 0) rfl, rfl, _, rfl, iteDN (fun z => absurd rfl z) (fun _ => ?_)⟩
    refine ⟨_, rfl, a, _, 1, _, rfl, rfl, SqT.of h, atI_nat (j := 1) rfl, ?_⟩
    refine ⟨_, rfl, a, _, 2, _, rfl, rfl, SqT.of h, atI_nat (j := 2) rfl, b, rfl, ⟨_, SqT.of h2⟩, ?_⟩
    refine comp_tupS (ys := (as.map fun a => ls.getD a 0).map nV) (SqT.of h2) (by rw [List.length_map]; exact hl) (by simp) (fun i y z hy hz H' sm Q' q' => ?_) (fun D1 H' hD1 sm hD => ?_)
    · rw [List.getElem?_map] at hy
      rw [List.getElem?_map, List.getElem?_map] at hz
      cases e : as[i]? with
      | none => rw [e] at hy; cases hy
      | some k =>
        rw [e] at hy hz
        have e1 : nV k = y := Option.some.inj hy
        have e2 : nV (ls.getD k 0) = z := Option.some.inj hz
        subst e1 e2
        have hk := hlt k (List.mem_of_getElem? e)
        have e3 : ls[k]? = some (ls.getD k 0) := by rw [List.getD_eq_getElem?_getD, List.getElem?_eq_getElem hk]; rfl
        exact ⟨_, rfl, _, rfl, L, _, _, _, rfl, rfl, sm.seq hL, nV_at e3, q' _ (Same.refl _)⟩
    · refine ⟨D1, _, rfl, .inl ⟨SqL.of hD, fun l hl' => ?_⟩⟩
      refine ⟨(show 3 ≤ sizeLine by decide), fun t ht => ?_⟩
      refine q _ _ (sm.trans ((same_new hl' _).trans (same_new ht _))) ⟨t, l, rfl, upd_same, ?_⟩
      rw [upd_ne (ne_of_none upd_same ht), upd_same]
inductive SpJoin (vs : List V) (H : Hp) (Q : VK) : Prop
  | mk (L : Addr) (ls : List Nat) (a b la lb : Nat) (z0 : vs = [.ref L, nV a, nV b]) (z1 : H L = some (.lst (ls.map nV))) (z2 : GoodL ls) (z3 : ls.length ≤ 1000000) (z4 : ls[a]? = some la) (z5 : ls[b]? = some lb) (z6 : (la = lb → Q (.bl false) H)) (z7 : (la ≠ lb → Q (.bl true) (upd H L (.lst ((jn ls (max la lb) (min la lb)).map nV))))) : SpJoin  vs H Q
noncomputable def spJoin : Sp := fun vs H Q _ => SpJoin  vs H Q
theorem ok_join_classes (B : Blt mg) (D : Def K mg "join_classes" s_join_classes ["leads", "a", "b"]) : Has P w K mg base 1 "join_classes" ["leads", "a", "b"] spJoin := by
  refine D.has sc_join_classes (fun vs H Q E h => ?_) (fun f cdv A outer s H vs Q E hr h => ?_)
  · obtain ⟨L, ls, a, b, la, lb, rfl, _⟩ := h; rfl
  obtain ⟨L, ls, a, b, la, lb, rfl, hL, hg, hz, ha, hb, q1, q2⟩ := h
  refine ⟨_, (pss_cons (ps_set (i := 3) sc_join_classes.nd rfl (Or.inl rfl) (pe_callB (call_min2 rfl) rfl B.min_ boot_min_ (pa_cons (pe_ix ix_list (pv 0) (pv 1) (fun _ _ => rfl)) (pa_cons (pe_ix ix_list (pv 0) (pv 2) (fun _ _ => rfl)) pa_nil))))
    (pss_cons (ps_set (i := 4) sc_join_classes.nd rfl (Or.inl rfl) (pe_callB (call_max2 rfl) rfl B.max_ boot_max_ (pa_cons (pe_ix ix_list (pv 0) (pv 1) (fun _ _ => rfl)) (pa_cons (pe_ix ix_list (pv 0) (pv 2) (fun _ _ => rfl)) pa_nil))))
    (pss_cons (ps_if (pt_cmpR op_eq (pv 3) (pv 4) (nomark _)) (pss_one (ps_ret pe_bl)) pss_nil)
    (pss_cons (ps_for PassesOwn.never rfl (pi_range2 rfl B.range_ (pa_cons (pv 4) (pa_cons (pe_callB call_len_seq rfl B.len_ PySem.boot_len (pa_cons (pv 0) pa_nil)) pa_nil))) (pg_name (i := 5) sc_join_classes.nd rfl (Or.inl rfl))
    (pss_one (ps_if (pt_cmpR op_eq (pe_ix ix_list (pv 0) (pv 5) (fun _ _ => rfl)) (pv 4) (nomark _)) (pss_one (ps_asg (pv 3) (pg_sub (pv 0) (pv 5) set_list))) pss_nil)))
    (pss_one (ps_ret pe_bl)))))), ?_⟩
  try dsimp only [cxOf]
  refine ⟨_, rfl, _, rfl, L, _, _, _, rfl, rfl, SqL.of hL, nV_at ha, _, rfl, _, rfl, L, _, _, _, rfl, rfl, SqL.of hL, nV_at hb, _, _, rfl, ?_⟩
  refine ⟨_, rfl, _, rfl, L, _, _, _, rfl, rfl, SqL.of hL, nV_at ha, _, rfl, _, rfl, L, _, _, _, rfl, rfl, SqL.of hL, nV_at hb, _, _, rfl, ?_⟩
  have e1 : (if (lb : Int) < (la : Int) then (lb : Int) else (la : Int)) = ((min la lb : Nat) : Int) := by split <;> omega
  have e2 : (if (lb : Int) > (la : Int) then (lb : Int) else (la : Int)) = ((max la lb : Nat) : Int) := by split <;> omega
  dsimp only [gName]
  rw [e1, e2]
  by_cases hab : la = lb
  · refine ⟨_, rfl, _, rfl, rfl, _, rfl, iteD (fun _ => q1 hab) (fun z => absurd ?_ z)⟩
    show V.int _ = V.int _
    congr 1; omega
  · refine ⟨_, rfl, _, rfl, rfl, _, rfl, iteD (fun z => ?_) (fun _ => ?_)⟩
    · have := V.int.inj z
      omega
    have hhi : ∃ c : Nat, ls[c]? = some (max la lb) := by
      rcases Nat.le_total la lb with h | h
      · exact ⟨b, by rw [Nat.max_eq_right h]; exact hb⟩
      · exact ⟨a, by rw [Nat.max_eq_left h]; exact ha⟩
    obtain ⟨c, hc⟩ := hhi
    have hhi2 := (hg c _ hc).2
    have hlt : max la lb < ls.length := (List.getElem?_eq_some_iff.mp hhi2).1
    have q2' := q2 hab
    have hlohi : min la lb < max la lb := by omega
    generalize max la lb = hi at *
    generalize min la lb = lo at *
    refine ⟨_, rfl, _, rfl, L, _, rfl, .inl (SqL.of hL), hi, _, rfl, ?_, ?_⟩
    · rw [List.length_map]; omega
    have en : (((ls.map nV).length : Nat) : Int) - (hi : Int) = ((ls.length - hi : Nat) : Int) := by rw [List.length_map]; omega
    rw [en, Int.toNat_natCast]
    refine for_range (lo := (hi : Int)) (fun i σ H' => ∃ o, σ = [some (.ref L), some (nV a), some (nV b), some (nV lo), some (nV hi), o] ∧ H' = upd H L (.lst ((mix ls hi lo (hi + i)).map nV))) ⟨none, rfl, ?_⟩ ?_ ?_
    · rw [Nat.add_zero, mix_start hg]
      funext c'
      by_cases h : c' = L
      · subst h; rw [upd_same]; exact hL
      · rw [upd_ne h]
    · rintro i σ H' hi' ⟨o, rfl, rfl⟩
      have hk : hi + i < ls.length := by omega
      have ev := List.getElem?_eq_getElem hk
      generalize ls[hi + i] = v at ev
      have em : (mix ls hi lo (hi + i))[hi + i]? = some v := by
        rw [mix_at, ev]
        show some _ = some _
        dsimp only
        rw [if_neg (by omega)]
      have ek : (hi : Int) + (i : Int) = ((hi + i : Nat) : Int) := by omega
      show tIfS _ _ _ _ _ _
      refine ⟨_, rfl, _, rfl, L, _, _, nV v, rfl, rfl, SqL.of upd_same, (by rw [ek]; exact nV_at em), _, rfl, rfl, _, rfl, iteD (fun z => ?_) (fun z => ?_)⟩
      · have hv : v = hi := by have := V.int.inj z; omega
        refine ⟨_, rfl, _, rfl, _, rfl, L, _, _, hi + i, rfl, rfl, upd_same, ?_, ⟨_, rfl, ?_⟩⟩
        · rw [ek, List.length_map, mix_len]
          unfold ixN
          rw [if_pos (by omega), if_pos (by omega), Int.toNat_natCast]
        · rw [upd_upd]
          have := mix_set (hi := hi) (lo := lo) ev
          unfold ren at this
          rw [if_pos hv] at this
          rw [nV_set, this]
          rfl
      · have hv : v ≠ hi := fun e => z (by rw [e])
        refine ⟨_, rfl, ?_⟩
        have := mix_stay (hi := hi) (lo := lo) ev hv
        rw [show hi + (i + 1) = hi + i + 1 from rfl, this]
    · rintro σ H' ⟨o, rfl, rfl⟩
      rw [mix_end (by omega)]
      exact q2'
inductive SpJoinLike (P : Program) (w : World) (vs : List V) (H : Hp) (Q : VK) : Prop
  | mk (T L : Addr) (us : List V) (ts : List Tm) (ls : List Nat) (es : List (Nat × Nat)) (z0 : vs = [.ref T, .ref L]) (z1 : H T = some (.lst us)) (z2 : Tms H us ts) (z3 : H L = some (.lst (ls.map nV))) (z4 : T ≠ L) (z5 : GoodL ls) (z6 : Sound ts es ls) (z7 : Arms ts) (z8 : ls.length = ts.length) (z9 : ts.length ≤ 1000) (z10 : (∀ (i : Nat) x as, ts[i]? = some (.of x as) → as.length ≤ 1000)) (z11 : ∀ ls' b H', But L H H' → H' L = some (.lst (ls'.map nV)) → GoodL ls' → Sound ts es ls' → Keeps ls ls' → ls'.length = ls.length → (b = true → ls'.sum < ls.sum) → (b = false → ls' = ls ∧ ∀ (i j : Nat) (t u : Tm), ts[i]? = some t → ts[j]? = some u → mk ls t = mk ls u → ls[i]? = ls[j]?) → Q (.bl b) H') : SpJoinLike P w vs H Q
noncomputable def spJoinLike (P : Program) (w : World) : Sp := fun vs H Q _ => SpJoinLike P w vs H Q
inductive Iv_join_like1 (P : Program) (w : World) (H : Hp) (T : Addr) (L : Addr) (p : Addr) (ts : List Tm) (es : List (Nat × Nat)) (ls : List Nat) (i : Nat) (σ : St) (H' : Hp) : Prop
  | mk : ∀ (ls' : List Nat) (jd : Bool) (kvs : List (NK × V)) (x4 x5 x6 : Option V), (σ = [some (.ref T), some (.ref L), some (.bl jd), some (.ref p), x4, x5, x6]) → (But L H H') → (H' L = some (.lst (ls'.map nV))) → (DN P w H' p kvs) → (GoodL ls') → (Sound ts es ls') → (Keeps ls ls') → (ls'.length = ls.length) → ((jd = true → ls'.sum < ls.sum)) → ((jd = false → ls' = ls)) → (ls'.sum ≤ ls.sum) → (kvs.length ≤ i) → ((∀ key v, valV kvs key = some v → ∃ j t m, v = nV j ∧ ts[j]? = some t ∧ key = tmNK m ∧ Stands ts es t m)) → ((jd = false → ∀ (j : Nat) t, j < i → ts[j]? = some t → ∃ j', valV kvs (tmNK (mk ls t)) = some (nV j') ∧ ls[j']? = ls[j]?)) → Iv_join_like1 P w H T L p ts es ls i σ H'
theorem ok_join_like (B : Blt mg) (h_mark : Has P w K mg base 1 "mark" ["term", "leads"] (spMark K)) (h_join_classes : Has P w K mg base 1 "join_classes" ["leads", "a", "b"] spJoin) (D : Def K mg "join_like" s_join_like ["terms", "leads"]) :
    Has P w K mg base 2 "join_like" ["terms", "leads"] (spJoinLike P w) := by
  refine D.has sc_join_like (fun vs H Q E h => ?_) (fun f cdv A outer s H vs Q E hr h => ?_)
  · obtain ⟨T, L, us, ts, ls, es, rfl, _⟩ := h; rfl
  obtain ⟨T, L, us, ts, ls, es, rfl, hT, hts, hL, hTL, hg, hs, har, hlen, hz, hza, q⟩ := h
  refine ⟨_, (pss_cons (ps_set (i := 2) sc_join_like.nd rfl (Or.inl rfl) pe_bl)
    (pss_cons (ps_set (i := 3) sc_join_like.nd rfl (Or.inl rfl) pe_dnewN)
    (pss_cons (ps_for PassesOwn.never rfl (pi_enum rfl B.enumerate_ (pa_cons (pv 0) pa_nil)) (pg_tup rfl (pgs_cons (pg_name (i := 4) sc_join_like.nd rfl (Or.inl rfl)) (pgs_cons (pg_name (i := 5) sc_join_like.nd rfl (Or.inl rfl)) pgs_nil)))
    (pss_cons (ps_set (i := 6) sc_join_like.nd rfl (Or.inl rfl) (pe_setD (un10 hr) (pv 3) (pe_callH h_mark hr (by omega) rfl (pa_cons (pv 5) (pa_cons (pv 1) pa_nil))) (pv 4) ⟨rfl, rfl, rfl, rfl⟩))
    (pss_one (ps_if (pt_val (pe_callH h_join_classes hr (by omega) rfl (pa_cons (pv 1) (pa_cons (pv 6) (pa_cons (pv 4) pa_nil))))) (pss_one (ps_set (i := 2) sc_join_like.nd rfl (Or.inl rfl) pe_bl)) pss_nil))))
    (pss_one (ps_ret (pv 2)))))), ?_⟩
  try dsimp only [cxOf]
  have hut := Paired.length hts
  intro p φ hp dn0
  dsimp only [gName]
  have hpL : p ≠ L := fun e => by rw [e, hL] at hp; cases hp
  have hpT : p ≠ T := fun e => by rw [e, hT] at hp; cases hp
  refine ⟨_, rfl, T, rfl, ⟨us, SqL.of (by rw [upd_ne (Ne.symm hpT)]; exact hT)⟩, ?_⟩
  refine for_enum (xs := us) (Iv_join_like1 P w H T L p ts es ls)
    ⟨ls, false, [], none, none, none, rfl, (But.refl L H).new hp, by rw [upd_ne (Ne.symm hpL)]; exact hL, dn0, hg, hs, keeps_refl ls, rfl, (fun z => nomatch z), fun _ => rfl, Nat.le_refl _, Nat.zero_le _, (fun key v e => by rw [valV_nil] at e; cases e), fun _ j t hj => absurd hj (Nat.not_lt_zero _)⟩ ?_ ?_ ?_
  · rintro i σ H' _ ⟨ls', jd, kvs, x4, x5, x6, rfl, bt, _⟩
    exact SqL.of (bt T _ hTL hT)
  · rintro i x a0 σ H' hx ⟨ls', jd, kvs, x4, x5, x6, rfl, bt, hL', dn, hg', hs', hk', hlen', hjt, hjf, hsum, hkl, iA, iB⟩ ha0
    obtain ⟨t, ht, hx'⟩ := tms_at hts hx
    have hi : i < ts.length := (List.getElem?_eq_some_iff.mp ht).1
    have sm0 := same_new ha0 (.tup [.int (i : Int), x])
    have bt1 := bt.same sm0
    have itx : IsTm (upd H' a0 (.tup [.int (i : Int), x])) t x := hx'.keep (bt1.tup hL)
    have hL1 := sm0 _ _ hL'
    have dn1 := dn.same sm0
    refine ⟨a0, _, rfl, SqT.of upd_same, rfl, _, _, rfl, _, _, rfl, rfl, ?_⟩
    generalize upd H' a0 (.tup [.int (i : Int), x]) = H1 at bt1 itx hL1 dn1 ⊢
    have hb : ∀ x as, t = .of x as → as.length ≤ 1000 ∧ ∀ a ∈ as, a < ls'.length := fun x as e => by
      subst e
      refine ⟨hza i x as ht, fun a ha => ?_⟩
      have := har i x as ht a ha
      omega
    refine ⟨_, rfl, p, rfl, ⟨kvs, dn1⟩, _, rfl, _, rfl, x, t, L, ls', rfl, itx, SqL.of hL1, hb, fun v' H2 sm2 hm => ?_⟩
    obtain ⟨b, rfl, nk⟩ := hm.key
    have dn2 := dn1.same sm2
    have hL2 := sm2 _ _ hL1
    have bt2 := bt1.same sm2
    obtain ⟨li, hli⟩ : ∃ li, ls'[i]? = some li := ⟨_, List.getElem?_eq_getElem (by omega)⟩
    refine ⟨_, rfl, kvs, tmNK (mk ls' t), b, dn2, rfl, nk, small1000 (by omega), fun v hv => ?_, fun hn φ2 dn3 => ?_⟩
    · -- there is one already
      obtain ⟨j, u, m, rfl, hu, hkey, hst⟩ := iA _ _ hv
      have em : m = mk ls' t := tmNK_inj hkey.symm
      subst em
      have hj : j < ts.length := (List.getElem?_eq_some_iff.mp hu).1
      obtain ⟨lj, hlj⟩ : ∃ lj, ls'[j]? = some lj := ⟨_, List.getElem?_eq_getElem (by omega)⟩
      have eq : Eqv ts es j i := stands_eqv hu ht hst (stands_mk hs' (fun x as e => (hb x as e).2))
      refine ⟨_, rfl, _, rfl, _, rfl, L, ls', j, i, lj, li, rfl, hL2, hg', by omega, hlj, hli, fun e => ?_, fun e => ?_⟩
      · refine ⟨_, rfl, iteF ⟨ls', jd, kvs, _, _, _, rfl, bt2, hL2, dn2, hg', hs', hk', hlen', hjt, hjf, hsum, by omega, iA, fun hjd j' t' hj' ht' => ?_⟩⟩
        by_cases hji : j' < i
        · exact iB hjd j' t' hji ht'
        · have e' : j' = i := by omega
          subst e'
          rw [ht] at ht'; cases ht'
          have el := hjf hjd
          rw [el] at hv hlj hli
          exact ⟨j, hv, by rw [hlj, hli, e]⟩
      · have e1 : Eqv ts es lj li := .trans (.symm (hs' j lj hlj)) (.trans eq (hs' i li hli))
        have g1 := (hg' j lj hlj).2
        have g2 := (hg' i li hli).2
        have eqv : Eqv ts es (max lj li) (min lj li) := by
          rcases Nat.le_total lj li with h | h
          · rw [Nat.max_eq_right h, Nat.min_eq_left h]; exact e1.symm
          · rw [Nat.max_eq_left h, Nat.min_eq_right h]; exact e1
        have hlo : ls'[min lj li]? = some (min lj li) := by
          rcases Nat.le_total lj li with h | h
          · rw [Nat.min_eq_left h]; exact g1
          · rw [Nat.min_eq_right h]; exact g2
        have hhi : max lj li ∈ ls' := by
          rcases Nat.le_total lj li with h | h
          · rw [Nat.max_eq_right h]; exact List.mem_of_getElem? g2
          · rw [Nat.max_eq_left h]; exact List.mem_of_getElem? g1
        have hlt : min lj li < max lj li := by omega
        have hsm := sum_jn hlt hhi
        refine ⟨_, rfl, iteT ?_⟩
        refine ⟨jn ls' (max lj li) (min lj li), true, kvs, _, _, _, rfl, bt2.put, upd_same, dn2.keep (fun φ e => by rw [upd_ne hpL]; exact e) (fun c ys e => by rw [upd_ne (ne_of e hL2 (fun z => nomatch z))]; exact e),
          good_jn hg' hlo hlt, sound_jn hs' eqv, hk'.trans (keeps_jn _ _ _), by rw [jn_len]; exact hlen', fun _ => by omega, (fun z => nomatch z), by omega, by omega, iA, (fun z => nomatch z)⟩
    · -- it is the first one
      have hL3 : (upd H2 p (.ext φ2)) L = some (.lst (ls'.map nV)) := by rw [upd_ne (Ne.symm hpL)]; exact hL2
      refine ⟨_, rfl, _, rfl, _, rfl, L, ls', i, i, li, li, rfl, hL3, hg', by omega, hli, hli, fun _ => ?_, fun z => absurd rfl z⟩
      refine ⟨_, rfl, iteF ⟨ls', jd, _, _, _, _, rfl, bt2.new hp, hL3, dn3, hg', hs', hk', hlen', hjt, hjf, hsum, by rw [List.length_append]; show kvs.length + 1 ≤ i + 1; omega, fun key v e => ?_, fun hjd j' t' hj' ht' => ?_⟩⟩
      · rw [valV_snoc _ _ _ _ hn] at e
        by_cases hk : key = tmNK (mk ls' t)
        · rw [if_pos hk] at e
          cases e
          exact ⟨i, t, mk ls' t, rfl, ht, hk, stands_mk hs' (fun x as e => (hb x as e).2)⟩
        · rw [if_neg hk] at e
          exact iA key v e
      · have el := hjf hjd
        rw [valV_snoc _ _ _ _ hn]
        by_cases hji : j' < i
        · obtain ⟨j2, e1, e2⟩ := iB hjd j' t' hji ht'
          by_cases hk : tmNK (mk ls t') = tmNK (mk ls' t)
          · rw [hk, hn] at e1; cases e1
          · rw [if_neg hk]; exact ⟨j2, e1, e2⟩
        · have e' : j' = i := by omega
          subst e'
          rw [ht] at ht'; cases ht'
          rw [el, if_pos rfl]
          exact ⟨j', rfl, rfl⟩
  · rintro σ H' ⟨ls', jd, kvs, x4, x5, x6, rfl, bt, hL', dn, hg', hs', hk', hlen', hjt, hjf, hsum, hkl, iA, iB⟩
    refine ⟨_, rfl, q ls' jd H' bt hL' hg' hs' hk' hlen' hjt fun hjd => ⟨hjf hjd, fun i j t u hi hj hm => ?_⟩⟩
    obtain ⟨i', a1, a2⟩ := iB hjd i t (by rw [hut]; exact (List.getElem?_eq_some_iff.mp hi).1) hi
    obtain ⟨j', b1, b2⟩ := iB hjd j u (by rw [hut]; exact (List.getElem?_eq_some_iff.mp hj).1) hj
    rw [hm, b1] at a1
    have e : i' = j' := by have := V.int.inj (Option.some.inj a1); omega
    rw [← a2, ← b2, e]
inductive SpClosed (K : PySem.W.Frag) (vs : List V) (H : Hp) (Q : VK) : Prop
  | mk (T E : Addr) (us evs : List V) (ts : List Tm) (es : List (Nat × Nat)) (z0 : vs = [.ref T, .ref E]) (z1 : H T = some (.lst us)) (z2 : Tms H us ts) (z3 : SqL K H E evs) (z4 : Edges H evs es) (z5 : Arms ts) (z6 : ts.length ≤ 1000) (z7 : (∀ (i : Nat) x as, ts[i]? = some (.of x as) → as.length ≤ 1000)) (z8 : (∀ a b : Nat, (a, b) ∈ es → a < ts.length ∧ b < ts.length)) (z9 : ∀ L ls H', Same H H' → H L = none → H' L = some (.lst (ls.map nV)) → Closed ts es ls → Q (.ref L) H') : SpClosed K vs H Q
noncomputable def spClosed (K : PySem.W.Frag) : Sp := fun vs H Q _ => SpClosed K vs H Q
inductive Iv_closed2 (H : Hp) (T : Addr) (E : Addr) (L : Addr) (ts : List Tm) (es : List (Nat × Nat)) (σ' : St) (H' : Hp) : Prop
  | mk : ∀ (ls : List Nat) (x3 : Option V), (σ' = [some (.ref T), some (.ref E), some (.ref L), x3]) → (Same H H') → (H' L = some (.lst (ls.map nV))) → (GoodL ls) → (Sound ts es ls) → (ls.length = ts.length) → (∀ a b : Nat, (a, b) ∈ es → ls[a]? = ls[b]?) → Iv_closed2 H T E L ts es σ' H'
inductive Iv_closed3 (H : Hp) (T : Addr) (E : Addr) (L : Addr) (ts : List Tm) (es : List (Nat × Nat)) (i : Nat) (σ' : St) (H' : Hp) : Prop
  | mk : ∀ (ls : List Nat) (x3 : Option V), (σ' = [some (.ref T), some (.ref E), some (.ref L), x3]) → (Same H H') → (H' L = some (.lst (ls.map nV))) → (GoodL ls) → (Sound ts es ls) → (ls.length = ts.length) → (∀ (j a b : Nat), j < i → es[j]? = some (a, b) → ls[a]? = ls[b]?) → Iv_closed3 H T E L ts es i σ' H'
theorem ok_closed (B : Blt mg) (h_join_classes : Has P w K mg base 1 "join_classes" ["leads", "a", "b"] spJoin) (h_join_like : Has P w K mg base 2 "join_like" ["terms", "leads"] (spJoinLike P w)) (D : Def K mg "closed" s_closed ["terms", "edges"]) :
    Has P w K mg base 3 "closed" ["terms", "edges"] (spClosed K) := by
  refine D.has sc_closed (fun vs H Q E h => ?_) (fun f cdv A outer s H vs Q E hr h => ?_)
  · obtain ⟨T, E, us, evs, ts, es, rfl, _⟩ := h; rfl
  obtain ⟨T, E, us, evs, ts, es, rfl, hT, hts, hE, hes, har, hz, hza, hee, q⟩ := h
  refine ⟨_, (pss_cons (ps_set (i := 2) sc_closed.nd rfl (Or.inl rfl) (pe_callTy (call_list_rng rfl) rfl B.list_ boot_list_ (pa_cons (pe_callTy call_range1V rfl B.range_ PyProof.Rows.boot_range (pa_cons (pe_callB call_len_seq rfl B.len_ PySem.boot_len (pa_cons (pv 0) pa_nil)) pa_nil)) pa_nil)))
    (pss_cons (ps_for PassesOwn.never rfl (pi_list (pv 1)) (pg_name (i := 3) sc_closed.nd rfl (Or.inl rfl))
    (pss_one (ps_expr (pe_callH h_join_classes hr (by omega) rfl (pa_cons (pv 2) (pa_cons (pe_ix ix_tup (pv 3) pe_int (fun _ _ => rfl)) (pa_cons (pe_ix ix_tup (pv 3) pe_int (fun _ _ => rfl)) pa_nil)))))))
    (pss_cons (ps_while PassesOwn.never (pt_val (pe_callH h_join_like hr (by omega) rfl (pa_cons (pv 0) (pa_cons (pv 2) pa_nil))))
    (pss_one ps_pass))
    (pss_one (ps_ret (pv 2)))))), ?_⟩
  try dsimp only [cxOf]
  have hut := Paired.length hts
  have hue := Paired.length hes
  refine ⟨_, rfl, T, us, rfl, .inl (SqL.of hT), _, rfl, fun r hr0 => ⟨r, us.length, rfl, upd_same, by omega, fun L hL0 => ?_⟩⟩
  dsimp only [gName]
  have hLH : H L = none := by
    by_cases e : L = r
    · rw [e]; exact hr0
    · rw [upd_ne e] at hL0; exact hL0
  have sm0 : Same H (upd (upd H r (.rng 0 ((us.length : Nat) : Int))) L (.lst ((List.range us.length).map fun i : Nat => V.int (i : Int)))) := (same_new hr0 _).trans (same_new hL0 _)
  have hL1 : (upd (upd H r (.rng 0 ((us.length : Nat) : Int))) L (.lst ((List.range us.length).map fun i : Nat => V.int (i : Int)))) L = some (.lst ((List.range ts.length).map nV)) := by rw [upd_same, hut]
  generalize (upd (upd H r (.rng 0 ((us.length : Nat) : Int))) L (.lst ((List.range us.length).map fun i : Nat => V.int (i : Int)))) = H1 at sm0 hL1 ⊢
  have hTL : T ≠ L := fun e => by rw [e, hLH] at hT; cases hT
  refine rd_cut (Iv_closed2 H T E L ts es) ?_ (fun key => ?_)
  · rintro σ' H2 ⟨ls, x3, rfl, sm2, hL2, hg2, hs2, hlen2, hed2⟩
    refine ⟨fun m σ' H' => ∃ (ls : List Nat), m = ls.sum ∧ σ' = [some (.ref T), some (.ref E), some (.ref L), x3] ∧ Same H H' ∧ H' L = some (.lst (ls.map nV)) ∧ GoodL ls ∧ Sound ts es ls ∧ ls.length = ts.length ∧ ∀ a b : Nat, (a, b) ∈ es → ls[a]? = ls[b]?,
      ⟨_, ls, rfl, rfl, sm2, hL2, hg2, hs2, hlen2, hed2⟩, ?_⟩
    rintro m σ' H3 ⟨ls, rfl, rfl, sm3, hL3, hg3, hs3, hlen3, hed3⟩
    refine ⟨_, rfl, _, rfl, T, L, us, ts, ls, es, rfl, sm3 _ _ hT, tms_same sm3 hts, hL3, hTL, hg3, hs3, har, hlen3, hz, hza, fun ls' b H4 bt hL4 hg4 hs4 hk4 hlen4 hbt hbf => ?_⟩
    have sm4 : Same H H4 := fun c o h => bt c o (fun e => by rw [e, hLH] at h; cases h) (sm3 c o h)
    have hed4 : ∀ a b : Nat, (a, b) ∈ es → ls'[a]? = ls'[b]? := fun a b h => by
      obtain ⟨h1, h2⟩ := hee a b h
      obtain ⟨v, hv⟩ : ∃ v, ls[a]? = some v := ⟨_, List.getElem?_eq_getElem (by omega)⟩
      obtain ⟨u, e1, e2⟩ := hk4 a b v hv (by rw [← hed3 a b h]; exact hv)
      rw [e1, e2]
    refine ⟨_, rfl, ?_⟩
    cases b with
    | true =>
      refine iteT ⟨fun σ' H' => ∃ m', m' < ls.sum ∧ ∃ (ls : List Nat), m' = ls.sum ∧ σ' = [some (.ref T), some (.ref E), some (.ref L), x3] ∧ Same H H' ∧ H' L = some (.lst (ls.map nV)) ∧ GoodL ls ∧ Sound ts es ls ∧ ls.length = ts.length ∧ ∀ a b : Nat, (a, b) ∈ es → ls[a]? = ls[b]?, fun σ' H' h => h, ?_⟩
      exact ⟨_, hbt rfl, ls', rfl, rfl, sm4, hL4, hg4, hs4, by omega, hed4⟩
    | false =>
      obtain ⟨el, hm⟩ := hbf rfl
      refine iteF ⟨_, rfl, q L ls' H4 sm4 hLH hL4 ⟨by omega, hg4, hs4, fun i j hi hj e => ?_⟩⟩
      rw [el]
      exact complete har hee hlen3 hed3 hm e
  · refine ⟨_, rfl, E, rfl, ⟨evs, sm0.seq hE⟩, ?_⟩
    refine for_list (xs := evs) (Iv_closed3 H T E L ts es)
      ⟨_, none, rfl, sm0, hL1, good_id _, sound_id _ _ _, List.length_range, fun j a b hj => absurd hj (Nat.not_lt_zero _)⟩ ?_ ?_ ?_
    · rintro i σ' H' _ ⟨ls, x3, rfl, sm, _⟩
      exact sm.seq hE
    · rintro i x σ' H' hx ⟨ls, x3, rfl, sm, hL', hg', hs', hlen', hed'⟩
      obtain ⟨⟨a, b⟩, he, ea, rest, rfl, hea⟩ := edges_at hes hx
      have hea' := sm _ _ hea
      obtain ⟨ha, hb⟩ := hee a b (List.mem_of_getElem? he)
      obtain ⟨la, hla⟩ : ∃ la, ls[a]? = some la := ⟨_, List.getElem?_eq_getElem (by omega)⟩
      obtain ⟨lb, hlb⟩ : ∃ lb, ls[b]? = some lb := ⟨_, List.getElem?_eq_getElem (by omega)⟩
      refine ⟨_, rfl, _, rfl, ea, _, 0, _, rfl, rfl, SqT.of hea', atI_nat (j := 0) rfl, _, rfl, ea, _, 1, _, rfl, rfl, SqT.of hea', atI_nat (j := 1) rfl, L, ls, a, b, la, lb, rfl, hL', hg', by omega, hla, hlb, fun e => ?_, fun e => ?_⟩
      · refine ⟨ls, _, rfl, sm, hL', hg', hs', hlen', fun j c d hj hcd => ?_⟩
        by_cases hji : j < i
        · exact hed' j c d hji hcd
        · have e' : j = i := by omega
          subst e'
          rw [he] at hcd; cases hcd
          rw [hla, hlb, e]
      · have e1 : Eqv ts es la lb := .trans (.symm (hs' a la hla)) (.trans (.edge (List.mem_of_getElem? he)) (hs' b lb hlb))
        have g1 := (hg' a la hla).2
        have g2 := (hg' b lb hlb).2
        have eqv : Eqv ts es (max la lb) (min la lb) := by
          rcases Nat.le_total la lb with h | h
          · rw [Nat.max_eq_right h, Nat.min_eq_left h]; exact e1.symm
          · rw [Nat.max_eq_left h, Nat.min_eq_right h]; exact e1
        have hlo : ls[min la lb]? = some (min la lb) := by
          rcases Nat.le_total la lb with h | h
          · rw [Nat.min_eq_left h]; exact g1
          · rw [Nat.min_eq_right h]; exact g2
        have hlt : min la lb < max la lb := by omega
        refine ⟨jn ls (max la lb) (min la lb), _, rfl, sm.put hLH, upd_same, good_jn hg' hlo hlt, sound_jn hs' eqv, by rw [jn_len]; exact hlen', fun j c d hj hcd => ?_⟩
        by_cases hji : j < i
        · have := hed' j c d hji hcd
          rw [jn_at, jn_at, this]
        · have e' : j = i := by omega
          subst e'
          rw [he] at hcd; cases hcd
          rw [jn_at, jn_at, hla, hlb]
          show some _ = some _
          unfold ren
          by_cases h : la ≤ lb
          · rw [Nat.max_eq_right h, Nat.min_eq_left h, if_neg e, if_pos rfl]
          · rw [Nat.max_eq_left (by omega), Nat.min_eq_right (by omega), if_pos rfl, if_neg (fun z => e z.symm)]
    · rintro σ' H' ⟨ls, x3, rfl, sm, hL', hg', hs', hlen', hed'⟩
      refine key _ _ ⟨ls, x3, rfl, sm, hL', hg', hs', hlen', fun a b h => ?_⟩
      obtain ⟨j, hj⟩ := List.mem_iff_getElem?.mp h
      exact hed' j a b (by rw [hue]; exact (List.getElem?_eq_some_iff.mp hj).1) hj
end

end K64
namespace K64
open PySem L2 Sw
section
variable {P : Program} {w : World} {K : PySem.W.Frag} {mg : Str → Option Value} {base : Heap}
inductive SpWord2 (vs : List V) (H : Hp) (Q : VK) : Prop
  | mk (c h : Int) (z0 : vs = [.int c, .int h]) (z1 : ∀ z : Str, z.length ≤ 8 → Q (.str z) H) : SpWord2  vs H Q
noncomputable def spWord2 : Sp := fun vs H Q _ => SpWord2  vs H Q
theorem ok_word2 (D : Def K mg "_law_word" s_word ["_law_cell", "_law_head"]) : Has P w K mg base 1 "_law_word" ["_law_cell", "_law_head"] spWord2 := by
  refine D.has sc_word (fun vs H Q E h => ?_) (fun f cdv A outer s H vs Q E hr h => ?_)
  · obtain ⟨c, h', rfl, _⟩ := h; rfl
  obtain ⟨c, hd, rfl, q⟩ := h
  refine ⟨_, (pss_cons (ps_set (i := 2) sc_word.nd rfl (Or.inl rfl) pe_str)
    (pss_cons (ps_set (i := 3) sc_word.nd rfl (Or.inl rfl) (pe_op op_mod (pe_op op_mul (pv 0) pe_int) pe_int))
    (pss_cons (ps_set (i := 4) sc_word.nd rfl (Or.inl rfl) (pe_op op_add pe_int (pe_op op_mod (pv 3) pe_int)))
    (pss_cons (ps_if (pt_cmpR op_eq (pe_op op_mod (pv 1) pe_int) pe_int (nomark _)) (pss_one (ps_set (i := 4) sc_word.nd rfl (Or.inl rfl) (pe_op op_add pe_int (pe_op op_mod (pe_op op_fdiv (pv 1) pe_int) pe_int)))) pss_nil)
    (pss_cons (ps_set (i := 5) sc_word.nd rfl (Or.inl rfl) (pe_op op_mod (pe_op op_fdiv (pv 3) pe_int) (pv 4)))
    (pss_cons (ps_set (i := 6) sc_word.nd rfl (Or.inl rfl) (pe_ix ix_str (pv 2) (pe_op op_mod (pe_op op_fdiv (pv 1) pe_int) pe_int) (fun _ _ => rfl)))
    (pss_one (ps_ret (pe_op op_add_str (pe_op op_add_str (pe_op op_mul_str0 (pv 6) (pv 5)) (pe_ix ix_str (pv 2) (pe_op op_mod (pe_op op_fdiv (pv 3) pe_int) pe_int) (fun _ _ => rfl))) (pe_op op_mul_str0 (pv 6) (pe_op op_sub (pe_op op_sub (pv 4) pe_int) (pv 5)))))))))))), ?_⟩
  try dsimp only [cxOf]
  refine ⟨_, rfl, _, _, rfl, rfl, .inr ⟨by decide, by decide⟩, _, _, rfl, rfl, pos', ?_⟩
  dsimp only [gName]
  generalize c * 69621 % 2147483587 = m
  have b0 : 0 ≤ m % 8 := Int.emod_nonneg _ (by decide)
  have b1 : m % 8 < 8 := Int.emod_lt_of_pos _ (by decide)
  have d0 : 0 ≤ hd / 2 % 8 := Int.emod_nonneg _ (by decide)
  have d1 : hd / 2 % 8 < 8 := Int.emod_lt_of_pos _ (by decide)
  refine ⟨_, rfl, _, _, rfl, rfl, pos', _, _, rfl, rfl, ?_⟩
  dsimp only [gName]
  refine rd_cut (fun σ' H' => ∃ n : Int, σ' = [some (.int c), some (.int hd), some (.str "abcdefghijklmnopqrstuvwxyz"), some (.int m), some (.int n), none, none] ∧ H' = H ∧ 1 ≤ n ∧ n ≤ 8) ?_ (fun key => ?_)
  rotate_left
  · refine ⟨_, rfl, _, _, rfl, rfl, pos', rfl, _, rfl, iteD (fun _ => ?_) (fun _ => ?_)⟩
    · refine ⟨_, rfl, _, _, rfl, rfl, div', _, _, rfl, rfl, pos', _, _, rfl, rfl, ?_⟩
      exact key _ _ ⟨_, rfl, rfl, by omega, by omega⟩
    · exact key _ _ ⟨_, rfl, rfl, by omega, by omega⟩
  rintro σ' H' ⟨n, rfl, rfl, h1, h8⟩
  have c0 : 0 ≤ m / 8 % n := Int.emod_nonneg _ (by omega)
  have c1 : m / 8 % n < n := Int.emod_lt_of_pos _ (by omega)
  have z1 := abcF_at (hd / 16)
  have z2 := abcF_at (m / 64)
  have hz : ("abcdefghijklmnopqrstuvwxyz" : Str).length ≤ sizeLine := by decide +kernel
  refine ⟨_, rfl, _, _, rfl, rfl, div', _, rfl, _, _, rfl, rfl, (show (0 : Int) < n by omega), ?_⟩
  dsimp only [gName]
  generalize m / 8 % n = pl at c0 c1
  refine ⟨_, rfl, _, rfl, _, _, rfl, rfl, div', _, _, rfl, rfl, pos', _, _, _, rfl, rfl, hz, z1, ?_⟩
  dsimp only [gName]
  have l1 : ∀ i, (letF i).length = 1 := fun i => rfl
  have m1 := timesS_len (letF (hd / 16)) pl.toNat
  have m2 := timesS_len (letF (hd / 16)) (n - 1 - pl).toNat
  rw [l1, Nat.mul_one] at m1 m2
  have big : (1000 : Nat) ≤ sizeLine := by decide
  have l1' : ∀ c : Nat, (⟨#[c]⟩ : Str).length = 1 := fun c => rfl
  refine ⟨_, rfl, _, rfl, _, _, rfl, rfl, c0, by omega, (by rw [l1']; decide), _, rfl, _, rfl, _, _, rfl, rfl, div', _, _, rfl, rfl, pos', _, _, _, rfl, rfl, hz, z2, _, _, rfl, rfl, ?_, ?_⟩
  · show (timesS (letF (hd / 16)) _).length + (letF (m / 64)).length ≤ sizeLine
    rw [m1, l1]; omega
  refine ⟨_, rfl, _, rfl, _, _, rfl, rfl, _, rfl, _, _, rfl, rfl, _, _, rfl, rfl, by omega, by omega, (by rw [l1']; decide), _, _, rfl, rfl, ?_, q _ ?_⟩
  · show (timesS (letF (hd / 16)) _ ++ letF (m / 64)).length + (timesS (letF (hd / 16)) _).length ≤ sizeLine
    rw [Str.length_append, m1, m2, l1]; omega
  · show (timesS (letF (hd / 16)) _ ++ letF (m / 64) ++ timesS (letF (hd / 16)) _).length ≤ 8
    rw [Str.length_append, Str.length_append, m1, m2, l1]; omega
noncomputable abbrev BitsOk (c : Int) : Prop := Builtin.Int.intBits c ≤ 2000000
inductive SpNumber (vs : List V) (H : Hp) (Q : VK) : Prop
  | mk (c : Int) (z0 : vs = [.int c]) (z1 : BitsOk c) (z2 : ∀ n : Int, n.natAbs < 10 ^ 60 → Q (.int n) H) : SpNumber  vs H Q
noncomputable def spNumber : Sp := fun vs H Q _ => SpNumber  vs H Q
theorem ok_number (D : Def K mg "_law_number" s_number ["_law_cell"]) : Has P w K mg base 1 "_law_number" ["_law_cell"] spNumber := by
  refine D.has sc_number (fun vs H Q E h => ?_) (fun f cdv A outer s H vs Q E hr h => ?_)
  · obtain ⟨c, rfl, _⟩ := h; rfl
  obtain ⟨c, rfl, hb, q⟩ := h
  refine ⟨_, (pss_cons (ps_set (i := 1) sc_number.nd rfl (Or.inl rfl) (pe_op op_mod (pe_op op_mul (pv 0) pe_int) pe_int))
    (pss_cons (ps_if (pt_cmpR op_eq (pe_op op_mod (pv 1) pe_int) pe_int (nomark _)) (pss_one (ps_ret (pe_op op_sub (pe_op op_mod (pe_op op_mulB (pv 0) (pe_op op_add (pe_op op_mul pe_int (pe_op op_pow pe_int pe_int)) pe_int)) (pe_op op_sub (pe_op op_mul pe_int (pe_op op_pow pe_int pe_int)) pe_int)) (pe_op op_sub (pe_op op_pow pe_int pe_int) pe_int)))) pss_nil)
    (pss_one (ps_ret (pe_op op_sub (pe_op op_mod (pe_op op_fdiv (pv 1) pe_int) pe_int) pe_int))))), ?_⟩
  try dsimp only [cxOf]
  refine ⟨_, rfl, _, _, rfl, rfl, .inr ⟨by decide, by decide⟩, _, _, rfl, rfl, pos', ?_⟩
  dsimp only [gName]
  generalize c * 40014 % 2147483563 = m
  refine ⟨_, rfl, _, _, rfl, rfl, pos', rfl, _, rfl, iteD (fun _ => ?_) (fun _ => ?_)⟩
  · have hm : IntMulOk c (7 * 10 ^ (59 : Int).toNat + 3) := IntMulOk.of_le (n := 250) hb (intBits_le_iff.mpr (by decide)) (by decide)
    refine ⟨_, rfl, 10, 59, rfl, rfl, ⟨by decide, by decide, by decide⟩, _, _, rfl, rfl, .inl ⟨by decide, by decide⟩, _, _, rfl, rfl, _, _, rfl, rfl, hm, ?_⟩
    refine ⟨10, 60, rfl, rfl, ⟨by decide, by decide, by decide⟩, _, _, rfl, rfl, .inl ⟨by decide, by decide⟩, _, _, rfl, rfl, _, _, rfl, rfl, (by show (0 : Int) < 2 * 10 ^ 60 - 1; decide), 10, 60, rfl, rfl, ⟨by decide, by decide, by decide⟩, _, _, rfl, rfl, _, _, rfl, rfl, ?_⟩
    refine q _ ?_
    generalize c * (7 * 10 ^ (59 : Int).toNat + 3) = x
    have h0 : 0 ≤ x % (2 * 10 ^ 60 - 1) := Int.emod_nonneg _ (by decide)
    have h1 : x % (2 * 10 ^ 60 - 1) < 2 * 10 ^ 60 - 1 := Int.emod_lt_of_pos _ (by decide)
    show (x % (2 * 10 ^ 60 - 1) - (10 ^ 60 - 1)).natAbs < 10 ^ 60
    generalize x % (2 * 10 ^ 60 - 1) = y at h0 h1
    omega
  · have h0 : 0 ≤ m / 3 % 7 := Int.emod_nonneg _ (by decide)
    have h1 : m / 3 % 7 < 7 := Int.emod_lt_of_pos _ (by decide)
    refine ⟨_, rfl, _, _, rfl, rfl, div', _, _, rfl, rfl, pos', _, _, rfl, rfl, q _ ?_⟩
    show (m / 3 % 7 - 3).natAbs < 10 ^ 60
    generalize m / 3 % 7 = y at h0 h1
    omega
theorem atI_ex {xs : List V} {i : Int} (h0 : 0 ≤ i) (h1 : i < xs.length) : ∃ v, atI xs i = some v ∧ v ∈ xs := by
  have hi : i.toNat < xs.length := by omega
  have z : atI xs ((i.toNat : Nat) : Int) = some xs[i.toNat] := atI_nat (List.getElem?_eq_getElem hi)
  rw [show ((i.toNat : Nat) : Int) = i by omega] at z
  exact ⟨_, z, List.getElem_mem hi⟩
theorem cut_int {xs : List V} {n : Int} (h0 : 0 ≤ n) (h1 : n ≤ xs.length) : cutV xs none (some n) = xs.take n.toNat := by
  have := cut_take (xs := xs) (k := n.toNat) (by omega)
  rwa [show ((n.toNat : Nat) : Int) = n by omega] at this
noncomputable def TmOk (many : Nat) (t : Tm) : Prop := ∀ x as, t = .of x as → as.length ≤ 4 ∧ 1 ≤ as.length ∧ ∀ a ∈ as, a < many
inductive SpKnot (vs : List V) (H : Hp) (Q : VK) : Prop
  | mk (c : Int) (many : Nat) (h : Int) (z0 : vs = [.int c, nV many, .int h]) (z1 : 0 < many) (z2 : ∀ v H' t, Same H H' → IsTm H' t v → TmOk many t → Q v H') : SpKnot  vs H Q
noncomputable def spKnot : Sp := fun vs H Q _ => SpKnot  vs H Q
theorem ok_knot (B : Blt mg) (h_word : Has P w K mg base 1 "_law_word" ["_law_cell", "_law_head"] spWord2) (D : Def K mg "_law_knot" s_knot ["_law_cell", "_law_many", "_law_head"]) : Has P w K mg base 2 "_law_knot" ["_law_cell", "_law_many", "_law_head"] spKnot := by
  refine D.has sc_knot (fun vs H Q E h => ?_) (fun f cdv A outer s H vs Q E hr h => ?_)
  · obtain ⟨c, many, h', rfl, _⟩ := h; rfl
  obtain ⟨c, many, hd, rfl, hm, q⟩ := h
  refine ⟨_, (pss_cons (ps_set (i := 3) sc_knot.nd rfl (Or.inl rfl) (pe_op op_mod (pe_op op_mul (pv 0) pe_int) pe_int))
    (pss_cons (ps_set (i := 4) sc_knot.nd rfl (Or.inl rfl) (pe_ix ix_list (pe_lst (pa_strsB (L := ["plus", "times", "neg", "bind", "plus", "bind"]) (by decide +kernel))) (pe_op op_mod (pv 3) pe_int) (fun _ _ => rfl)))
    (pss_cons (ps_set (i := 5) sc_knot.nd rfl (Or.inl rfl) (pe_op op_sub pe_int (pe_callTy call_intB rfl B.int_ boot_int_ (pa_cons (pe_cmpR op_eq (pv 4) pe_str (nomark _)) pa_nil))))
    (pss_cons (ps_if (pt_cmpR op_gt (pe_op op_mod (pe_op op_fdiv (pv 3) pe_int) pe_int) pe_int (nomark _)) (pss_one (ps_set (i := 5) sc_knot.nd rfl (Or.inl rfl) (pe_op op_add pe_int (pe_op op_mod (pe_op op_fdiv (pv 3) pe_int) pe_int)))) pss_nil)
    (pss_cons (ps_if (pt_cmpR op_eq (pe_op op_mod (pe_op op_fdiv (pv 3) pe_int) pe_int) pe_int (nomark _)) (pss_one (ps_set (i := 4) sc_knot.nd rfl (Or.inl rfl) (pe_callH h_word hr (by omega) rfl (pa_cons (pe_op op_mod (pe_op op_fdiv (pv 3) pe_int) pe_int) (pa_cons (pv 2) pa_nil))))) pss_nil)
    (pss_cons (ps_set (i := 6) sc_knot.nd rfl (Or.inl rfl) (pe_slice sl_list (pe_lst (pa_intsB (L := [40692, 39373, 69069, 30323]) (by decide +kernel))) po_none (po_some (pv 5))))
    (pss_one (ps_ret (pe_tup (pa_cons pe_str (pa_cons (pv 4) (pa_cons (pe_callTy call_tuple_of rfl B.tuple_ boot_tuple_ (pa_cons (pe_comp (te := (tOp _ (tOp _ (tOp _ _ _) _) _)) (own := ["_law_factor"]) (caps := [("_law_many", 1), ("_law_cell", 0)]) (comp_scope (defScope s_knot) ["_law_cell", "_law_many", "_law_head", "_law_m", "_law_word_here", "_law_count", "_law_factors"] rfl rfl rfl (by decide +kernel)) (pi_list (pv 6)) rfl (fun _ _ _ => pg_name (i := 0) (show (["_law_factor", "_law_many", "_law_cell"] : List Str).Nodup by decide +kernel) rfl (Or.inl rfl)) (fun _ _ _ => (pe_op op_mod (pe_op op_mod (pe_op op_mulB (pv 2) (pv 0)) pe_int) (pv 1)))) pa_nil)) pa_nil)))))))))))), ?_⟩
  try dsimp only [cxOf]
  refine ⟨_, rfl, _, _, rfl, rfl, .inr ⟨by decide, by decide⟩, _, _, rfl, rfl, pos', ?_⟩
  dsimp only [gName]
  generalize c * 16807 % 2147483629 = m
  have b0 : 0 ≤ m % 6 := Int.emod_nonneg _ (by decide)
  have b1 : m % 6 < 6 := Int.emod_lt_of_pos _ (by decide)
  refine ⟨(show 6 ≤ sizeLine by decide), fun p hp => ?_⟩
  have s0 := same_new hp (.lst ((["plus", "times", "neg", "bind", "plus", "bind"] : List Str).map V.str))
  have hP := upd_same (H := H) (a := p) (o := .lst ((["plus", "times", "neg", "bind", "plus", "bind"] : List Str).map V.str))
  generalize upd H p (.lst ((["plus", "times", "neg", "bind", "plus", "bind"] : List Str).map V.str)) = H0 at s0 hP ⊢
  obtain ⟨v, hv, hvm⟩ := atI_ex (xs := (["plus", "times", "neg", "bind", "plus", "bind"] : List Str).map V.str) b0 (by show m % 6 < 6; exact b1)
  obtain ⟨wd, _, rfl⟩ := List.mem_map.mp hvm
  refine ⟨_, rfl, _, _, rfl, rfl, pos', p, _, _, _, rfl, rfl, SqL.of hP, hv, ?_⟩
  dsimp only [gName]
  clear hv hvm hP
  refine ⟨_, rfl, rfl, _, rfl, _, _, rfl, rfl, ?_⟩
  dsimp only [gName]
  have k1 : ∀ bb : Bool, 1 ≤ 2 - (if bb = true then (1 : Int) else 0) ∧ 2 - (if bb = true then (1 : Int) else 0) ≤ 4 := fun bb => by cases bb <;> decide
  have k2 := k1 (decide (V.str wd = V.str "neg"))
  generalize (2 : Int) - (if decide (V.str wd = V.str "neg") = true then (1 : Int) else 0) = cn at k2 ⊢
  refine rd_cut (fun σ' H' => ∃ n : Int, σ' = [some (.int c), some (nV many), some (.int hd), some (.int m), some (.str wd), some (.int n), none] ∧ H' = H0 ∧ 1 ≤ n ∧ n ≤ 4) ?_ (fun key => ?_)
  rotate_left
  · refine ⟨_, rfl, _, _, rfl, rfl, div', _, _, rfl, rfl, pos', _, _, rfl, rfl, _, rfl, iteD (fun _ => ?_) (fun _ => ?_)⟩
    · have d0 : 0 ≤ m / 24 % 4 := Int.emod_nonneg _ (by decide)
      have d1 : m / 24 % 4 < 4 := Int.emod_lt_of_pos _ (by decide)
      refine ⟨_, rfl, _, _, rfl, rfl, div', _, _, rfl, rfl, pos', _, _, rfl, rfl, ?_⟩
      exact key _ _ ⟨_, rfl, rfl, by omega, by omega⟩
    · exact key _ _ ⟨_, rfl, rfl, k2.1, k2.2⟩
  rintro σ' Ha ⟨n, rfl, rfl, n1, n4⟩
  refine rd_cut (fun σ' H' => ∃ wd : Str, σ' = [some (.int c), some (nV many), some (.int hd), some (.int m), some (.str wd), some (.int n), none] ∧ H' = Ha) ?_ (fun key => ?_)
  rotate_left
  · refine ⟨_, rfl, _, _, rfl, rfl, div', _, _, rfl, rfl, pos', rfl, _, rfl, iteD (fun _ => ?_) (fun _ => ?_)⟩
    · refine ⟨_, rfl, _, _, rfl, rfl, div', _, _, rfl, rfl, pos', _, rfl, _, _, rfl, fun z _ => ?_⟩
      exact key _ _ ⟨_, rfl, rfl⟩
    · exact key _ _ ⟨_, rfl, rfl⟩
  rintro σ' Hb ⟨wd, rfl, rfl⟩
  refine ⟨(show 4 ≤ sizeLine by decide), fun p2 hp2 => ?_⟩
  have s1 := same_new hp2 (.lst (([40692, 39373, 69069, 30323] : List Int).map V.int))
  have hP2 := upd_same (H := Hb) (a := p2) (o := .lst (([40692, 39373, 69069, 30323] : List Int).map V.int))
  generalize upd Hb p2 (.lst (([40692, 39373, 69069, 30323] : List Int).map V.int)) = H1 at s1 hP2 ⊢
  refine ⟨_, rfl, _, rfl, p2, _, rfl, SqL.of hP2, fun p3 hp3 => ?_⟩
  dsimp only [gName]
  have ec : cutV (([40692, 39373, 69069, 30323] : List Int).map V.int) none (some n) = (([40692, 39373, 69069, 30323] : List Int).take n.toNat).map V.int := by
    rw [cut_int (by omega) (by show n ≤ 4; exact n4), List.map_take]
  have hfs : ∀ f ∈ ([40692, 39373, 69069, 30323] : List Int).take n.toNat, 0 ≤ f ∧ f < 100000 := fun f hf => by
    have := List.mem_of_mem_take hf
    revert this
    simp only [List.mem_cons, List.not_mem_nil, or_false]
    omega
  have hfl : (([40692, 39373, 69069, 30323] : List Int).take n.toNat).length = n.toNat := by rw [List.length_take]; show min n.toNat 4 = n.toNat; omega
  rw [ec]
  generalize ([40692, 39373, 69069, 30323] : List Int).take n.toNat = fs at hfs hfl ⊢
  have s2 := same_new hp3 (.lst (fs.map V.int))
  have hP3 := upd_same (H := H1) (a := p3) (o := .lst (fs.map V.int))
  generalize upd H1 p3 (.lst (fs.map V.int)) = H2 at s2 hP3 ⊢
  refine ⟨_, rfl, _, rfl, p3, rfl, ⟨_, SqL.of hP3⟩, ?_⟩
  refine comp_list (xs := fs.map V.int) (fun x => .int (c * vI x % 2147483549 % (many : Int))) (SqL.of hP3) (by rw [List.length_map]; omega) (fun x hx H' sm Q' q' => ?_) (fun D1 hD1 => ?_)
  · obtain ⟨f, hf, rfl⟩ := List.mem_map.mp hx
    have := hfs f hf
    exact ⟨_, rfl, _, rfl, _, _, rfl, rfl, IntMulOk.of_right (intBits_le_64 (by omega) (by omega)), _, _, rfl, rfl, pos', _, rfl, _, _, rfl, rfl, (show (0 : Int) < (many : Int) by omega), q'⟩
  have ea : (fs.map V.int).map (fun x => V.int (c * vI x % 2147483549 % (many : Int))) = (fs.map fun f => (c * f % 2147483549 % (many : Int)).toNat).map nV := by
    rw [List.map_map, List.map_map]
    refine List.map_congr_left fun f _ => ?_
    have a1 : 0 ≤ c * f % 2147483549 % (many : Int) := Int.emod_nonneg _ (by omega)
    show V.int (c * f % 2147483549 % (many : Int)) = V.int (((c * f % 2147483549 % (many : Int)).toNat : Nat) : Int)
    congr 1
    omega
  rw [ea]
  have hlt : ∀ a ∈ (fs.map fun f => (c * f % 2147483549 % (many : Int)).toNat), a < many := fun a ha => by
    obtain ⟨f, _, rfl⟩ := List.mem_map.mp ha
    have a1 : 0 ≤ c * f % 2147483549 % (many : Int) := Int.emod_nonneg _ (by omega)
    have a2 : c * f % 2147483549 % (many : Int) < many := Int.emod_lt_of_pos _ (by omega)
    omega
  have hal : (fs.map fun f => (c * f % 2147483549 % (many : Int)).toNat).length = n.toNat := by rw [List.length_map, hfl]
  generalize (fs.map fun f => (c * f % 2147483549 % (many : Int)).toNat) = as at hlt hal ⊢
  refine ⟨D1, _, rfl, .inl ⟨SqL.of upd_same, fun l hl => ?_⟩⟩
  refine ⟨(show 3 ≤ sizeLine by decide), fun t ht => q _ _ (.of wd as) (s0.trans (s1.trans (s2.trans ((same_new hD1 _).trans ((same_new hl _).trans (same_new ht _)))))) ⟨t, l, rfl, upd_same, ?_⟩ fun x as' e => ?_⟩
  · rw [upd_ne (ne_of_none upd_same ht), upd_same]
  · cases e
    exact ⟨by omega, by omega, hlt⟩
end

end K64
namespace K64
open PySem L2 Sw
section
variable {P : Program} {w : World} {K : PySem.W.Frag} {mg : Str → Option Value} {base : Heap}
inductive SpTermM (vs : List V) (H : Hp) (Q : VK) : Prop
  | mk (c : Int) (many : Nat) (h : Int) (z0 : vs = [.int c, nV many, .int h]) (z1 : BitsOk c) (z2 : ∀ v H' t, Same H H' → IsTm H' t v → TmOk many t → Q v H') : SpTermM  vs H Q
noncomputable def spTermM : Sp := fun vs H Q _ => SpTermM  vs H Q
theorem leaf_num {many : Nat} {n : Int} : TmOk many (.num n) := fun x as e => nomatch e
theorem leaf_name {many : Nat} {n : Str} : TmOk many (.name n) := fun x as e => nomatch e
theorem ok_termM (B : Blt mg) (h_word : Has P w K mg base 1 "_law_word" ["_law_cell", "_law_head"] spWord2) (h_number : Has P w K mg base 1 "_law_number" ["_law_cell"] spNumber) (h_knot : Has P w K mg base 2 "_law_knot" ["_law_cell", "_law_many", "_law_head"] spKnot)
    (D : Def K mg "_law_term" s_term ["_law_cell", "_law_many", "_law_head"]) : Has P w K mg base 3 "_law_term" ["_law_cell", "_law_many", "_law_head"] spTermM := by
  refine D.has sc_term (fun vs H Q E h => ?_) (fun f cdv A outer s H vs Q E hr h => ?_)
  · obtain ⟨c, many, h', rfl, _⟩ := h; rfl
  obtain ⟨c, many, hd, rfl, hb, q⟩ := h
  refine ⟨_, (pss_cons (ps_set (i := 3) sc_term.nd rfl (Or.inl rfl) (pe_op op_mod (pe_op op_mul (pv 0) pe_int) pe_int))
    (pss_cons (ps_if (pt_cmpR op_lt (pe_op op_mod (pv 3) pe_int) pe_int (nomark _)) (pss_one (ps_ret (pe_tup (pa_cons pe_str (pa_cons (pe_callH h_number hr (by omega) rfl (pa_cons (pv 0) pa_nil)) pa_nil))))) pss_nil)
    (pss_cons (ps_if (PW.pt (pw_or (pt_cmpR op_lt (pe_op op_mod (pv 3) pe_int) pe_int (nomark _)) (pw_or1 (pt_cmpR op_eq (pv 1) pe_int (nomark _))))) (pss_cons (ps_if (pt_cmpR op_eq (pe_op op_mod (pe_op op_fdiv (pv 3) pe_int) pe_int) pe_int (nomark _)) (pss_one (ps_ret (pe_tup (pa_cons pe_str (pa_cons (pe_callH h_word hr (by omega) rfl (pa_cons (pe_op op_mod (pe_op op_fdiv (pv 3) pe_int) pe_int) (pa_cons (pv 2) pa_nil))) pa_nil))))) pss_nil)
    (pss_cons (ps_if (pt_cmpR op_eq (pe_op op_mod (pe_op op_fdiv (pv 3) pe_int) pe_int) pe_int (nomark _)) (pss_one (ps_ret (pe_tup (pa_cons pe_str (pa_cons (pe_ix ix_list (pe_lst (pa_strsB (L := ["plus", "times", "neg", "bind"]) (by decide +kernel))) (pe_op op_mod (pe_op op_fdiv (pv 3) pe_int) pe_int) (fun _ _ => rfl)) pa_nil))))) pss_nil)
    (pss_one (ps_ret (pe_tup (pa_cons pe_str (pa_cons (pe_callH h_word hr (by omega) rfl (pa_cons (pv 0) (pa_cons (pv 2) pa_nil))) pa_nil))))))) pss_nil)
    (pss_one (ps_ret (pe_callH h_knot hr (by omega) rfl (pa_cons (pv 0) (pa_cons (pv 1) (pa_cons (pv 2) pa_nil))))))))), ?_⟩
  try dsimp only [cxOf]
  refine ⟨_, rfl, _, _, rfl, rfl, .inr ⟨by decide, by decide⟩, _, _, rfl, rfl, pos', ?_⟩
  dsimp only [gName]
  generalize c * 48271 % 2147483647 = m
  refine ⟨_, rfl, _, _, rfl, rfl, pos', _, _, rfl, rfl, _, rfl, iteD (fun _ => ?_) (fun _ => ?_)⟩
  · refine ⟨_, rfl, c, rfl, hb, fun n _ => ?_⟩
    exact ⟨(show 2 ≤ sizeLine by decide), fun t ht => q _ _ (.num n) (same_new ht _) ⟨t, rfl, upd_same⟩ leaf_num⟩
  have nm : ∀ z : Str, (2 : Nat) ≤ sizeLine ∧ ∀ p, H p = none → Q (.ref p) (upd H p (.tup [.str "name", .str z])) := fun z => ⟨by decide, fun t ht => q _ _ (.name z) (same_new ht _) ⟨t, rfl, upd_same⟩ leaf_name⟩
  have b0 : 0 ≤ m / 50 % 4 := Int.emod_nonneg _ (by decide)
  have b1 : m / 50 % 4 < 4 := Int.emod_lt_of_pos _ (by decide)
  by_cases h4 : m % 10 < 4 ∨ many = 0
  · dsimp only [tNext]
    show tIfS _ _ _ _ _ _
    refine rd_if2 (fun b H' => b = true ∧ H' = H) (fun Q' hQ' => ?_) (fun H' hR => ?_) (fun H' hR => ?_)
    · refine ⟨_, rfl, _, _, rfl, rfl, pos', _, _, rfl, rfl, _, rfl, iteD (fun _ => hQ' _ _ ⟨rfl, rfl⟩) (fun z => ?_)⟩
      refine ⟨_, rfl, rfl, _, rfl, ?_⟩
      have hm : many = 0 := by rcases h4 with h | h; exact absurd h z; exact h
      subst hm
      exact hQ' _ _ ⟨by rw [decide_eq_true_iff]; rfl, rfl⟩
    · obtain ⟨_, rfl⟩ := hR
      refine ⟨_, rfl, _, _, rfl, rfl, div', _, _, rfl, rfl, pos', rfl, _, rfl, iteD (fun _ => ?_) (fun _ => ?_)⟩
      · exact ⟨_, rfl, _, _, rfl, rfl, div', _, _, rfl, rfl, pos', _, rfl, _, _, rfl, fun z _ => nm z⟩
      refine ⟨_, rfl, _, _, rfl, rfl, div', _, _, rfl, rfl, pos', rfl, _, rfl, iteD (fun _ => ?_) (fun _ => ?_)⟩
      · refine ⟨(show 4 ≤ sizeLine by decide), fun p hp => ?_⟩
        obtain ⟨v, hv, hvm⟩ := atI_ex (xs := (["plus", "times", "neg", "bind"] : List Str).map V.str) b0 (by show m / 50 % 4 < 4; exact b1)
        obtain ⟨z, _, rfl⟩ := List.mem_map.mp hvm
        refine ⟨_, rfl, _, _, rfl, rfl, div', _, _, rfl, rfl, pos', p, _, _, _, rfl, rfl, SqL.of upd_same, hv, ?_⟩
        exact ⟨(show 2 ≤ sizeLine by decide), fun t ht => q _ _ (.name z) ((same_new hp _).trans (same_new ht _)) ⟨t, rfl, upd_same⟩ leaf_name⟩
      · exact ⟨_, rfl, _, rfl, _, _, rfl, fun z _ => nm z⟩
    · cases hR.1
  · dsimp only [tNext]
    show tIfS _ _ _ _ _ _
    refine rd_if2 (fun b H' => b = false ∧ H' = H) (fun Q' hQ' => ?_) (fun H' hR => ?_) (fun H' hR => ?_)
    · refine ⟨_, rfl, _, _, rfl, rfl, pos', _, _, rfl, rfl, _, rfl, iteD (fun z => absurd (.inl z) h4) (fun z => ?_)⟩
      refine ⟨_, rfl, rfl, _, rfl, ?_⟩
      refine hQ' _ _ ⟨?_, rfl⟩
      rw [decide_eq_false_iff_not]
      intro e
      have := V.int.inj e
      exact h4 (.inr (by omega))
    · cases hR.1
    · obtain ⟨_, rfl⟩ := hR
      exact ⟨_, rfl, _, rfl, _, rfl, c, many, hd, rfl, by omega, q⟩
theorem tsok_snoc {ts : List Tm} {t : Tm} (h : TsOk ts) (ht : TmOk ts.length t) (hn : tmD t ∉ ts.map tmD) : TsOk (ts ++ [t]) := by
  have key : ∀ (i : Nat) y as, (ts ++ [t])[i]? = some (.of y as) → ts[i]? = some (.of y as) ∨ (i = ts.length ∧ t = .of y as) := fun i y as e => by
    by_cases hi : i < ts.length
    · rw [List.getElem?_append_left hi] at e; exact .inl e
    · rw [List.getElem?_append_right (by omega)] at e
      by_cases h0 : i - ts.length = 0
      · rw [h0] at e
        exact .inr ⟨by omega, by simpa using e⟩
      · rw [List.getElem?_eq_none (by simp; omega)] at e; cases e
  refine ⟨fun i y as e a ha => ?_, fun i y as e => ?_, ?_⟩
  · rcases key i y as e with e' | ⟨rfl, e'⟩
    · exact h.1 i y as e' a ha
    · exact (ht _ _ e').2.2 a ha
  · rcases key i y as e with e' | ⟨rfl, e'⟩
    · exact h.2.1 i y as e'
    · exact ⟨(ht _ _ e').1, (ht _ _ e').2.1⟩
  · rw [List.nodup_append]
    refine ⟨h.2.2, by simp, fun a ha b hb => ?_⟩
    rw [List.mem_singleton.mp hb]
    intro e
    exact hn (List.mem_map.mpr ⟨a, ha, by rw [e]⟩)
structure MadeOk (H H' : Hp) (T E : Addr) (us evs : List V) (ts : List Tm) (es : List (Nat × Nat)) : Prop where
  same : Same H H'
  t0 : H T = none
  e0 : H E = none
  te : T ≠ E
  hT : H' T = some (.lst us)
  tms : Tms H' us ts
  hE : H' E = some (.lst evs)
  eds : Edges H' evs es
  ok : TsOk ts
  few : ts.length ≤ 24
  lt : ∀ a b : Nat, (a, b) ∈ es → a < ts.length ∧ b < ts.length
theorem paired_snoc_lt {ts : List Tm} {es : List (Nat × Nat)} {a b : Nat} (h : ∀ a b : Nat, (a, b) ∈ es → a < ts.length ∧ b < ts.length) (ha : a < ts.length) (hb : b < ts.length) : ∀ x y : Nat, (x, y) ∈ es ++ [(a, b)] → x < ts.length ∧ y < ts.length := fun x y hm => by
  rcases List.mem_append.mp hm with hm | hm
  · exact h x y hm
  · have := List.mem_singleton.mp hm
    cases this
    exact ⟨ha, hb⟩
inductive SpMade (K : PySem.W.Frag) (vs : List V) (H : Hp) (Q : VK) : Prop
  | mk (a : Addr) (ns : List Int) (z0 : vs = [.ref a]) (z1 : SqL K H a (ns.map V.int)) (z2 : ns.length ≤ 63) (z3 : (∀ c ∈ ns, BitsOk c)) (z4 : ∀ p T E us evs ts es H', MadeOk H H' T E us evs ts es → H' p = some (.tup [.ref T, .ref E]) → (ns.length = 0 → ts.length = 0) → evs.length ≤ 63 → Q (.ref p) H') : SpMade K vs H Q
noncomputable def spMade (K : PySem.W.Frag) : Sp := fun vs H Q _ => SpMade K vs H Q
theorem ok_made (B : Blt mg) (h_term : Has P w K mg base 3 "_law_term" ["_law_cell", "_law_many", "_law_head"] spTermM) (D : Def K mg "_law_made" s_made ["_law_script"]) : Has P w K mg base 4 "_law_made" ["_law_script"] (spMade K) := by
  refine D.has sc_made (fun vs H Q E h => ?_) (fun f cdv A outer s H vs Q E hr h => ?_)
  · obtain ⟨a, ns, rfl, _⟩ := h; rfl
  obtain ⟨a, ns, rfl, hS, h63, hbits, q⟩ := h
  refine ⟨_, (pss_cons (ps_set (i := 1) sc_made.nd rfl (Or.inl rfl) pe_int)
    (pss_cons (ps_if (pt_cmpR op_gt (pe_callB call_len_seq rfl B.len_ PySem.boot_len (pa_cons (pv 0) pa_nil)) pe_int (nomark _)) (pss_one (ps_set (i := 1) sc_made.nd rfl (Or.inl rfl) (pe_op op_mod (pe_ix ix_list (pv 0) pe_int (fun _ _ => rfl)) pe_int))) pss_nil)
    (pss_cons (ps_set (i := 2) sc_made.nd rfl (Or.inl rfl) (pe_ix ix_list (pe_lst (pa_cons pe_int (pa_cons pe_int (pa_cons pe_int pa_nil)))) (pe_op op_mod (pv 1) pe_int) (fun _ _ => rfl)))
    (pss_cons (ps_set (i := 3) sc_made.nd rfl (Or.inl rfl) (pe_lst pa_nil))
    (pss_cons (ps_set (i := 4) sc_made.nd rfl (Or.inl rfl) (pe_lst pa_nil))
    (pss_cons (ps_for PassesOwn.never rfl (pi_list (pe_slice sl_list (pv 0) po_none (po_some pe_int))) (pg_name (i := 5) sc_made.nd rfl (Or.inl rfl))
    (pss_cons (ps_if (pt_cmpR op_lt (pe_callB call_len_seq rfl B.len_ PySem.boot_len (pa_cons (pv 3) pa_nil)) pe_int (nomark _)) (pss_cons (ps_set (i := 6) sc_made.nd rfl (Or.inl rfl) (pe_callH h_term hr (by omega) rfl (pa_cons (pv 5) (pa_cons (pe_callB call_len_seq rfl B.len_ PySem.boot_len (pa_cons (pv 3) pa_nil)) (pa_cons (pv 1) pa_nil)))))
    (pss_one (ps_if (pt_cmpR (op_notInD (un101 hr)) (pv 6) (pv 3) (by with_unfolding_all rfl)) (pss_one (ps_expr (pe_bm PySem.F.plainAttrs_list PySem.F.slot_list_append PySem.F.type_list_append mt_append (pv 3) (pa_cons (pv 6) pa_nil)))) pss_nil))) pss_nil)
    (pss_cons (ps_set (i := 7) sc_made.nd rfl (Or.inl rfl) (pe_op op_mod (pe_op op_mul (pv 5) pe_int) pe_int))
    (pss_one (ps_if (pt_cmpR op_eq (pe_op op_mod (pv 7) (pv 2)) pe_int (nomark _)) (pss_cons (ps_set (i := 8) sc_made.nd rfl (Or.inl rfl) (pe_op op_mod (pe_op op_fdiv (pv 7) pe_int) (pe_callB call_len_seq rfl B.len_ PySem.boot_len (pa_cons (pv 3) pa_nil))))
    (pss_cons (ps_set (i := 9) sc_made.nd rfl (Or.inl rfl) (pe_op op_mod (pe_op op_mod (pe_op op_mul (pv 5) pe_int) pe_int) (pe_callB call_len_seq rfl B.len_ PySem.boot_len (pa_cons (pv 3) pa_nil))))
    (pss_one (ps_expr (pe_bm PySem.F.plainAttrs_list PySem.F.slot_list_append PySem.F.type_list_append mt_append (pv 4) (pa_cons (pe_tup (pa_cons (pv 8) (pa_cons (pv 9) (pa_cons (pe_op op_add pe_int (pe_op op_mod (pv 5) (pe_op op_pow pe_int pe_int))) (pa_cons (pe_tup (pa_cons pe_str pa_nil)) pa_nil))))) pa_nil)))))) pss_nil)))))
    (pss_one (ps_ret (pe_tup (pa_cons (pv 3) (pa_cons (pv 4) pa_nil))))))))))), ?_⟩
  try dsimp only [cxOf]
  have hnl : (ns.map V.int).length = ns.length := List.length_map ..
  refine rd_cut (fun σ' H' => σ' = [some (.ref a), some (.int 0), none, none, none, none, none, none, none, none] ∧ H' = H) ?_ (fun key => key _ _ ⟨rfl, rfl⟩)
  rintro σ0 H ⟨rfl, rfl⟩
  refine rd_cut (fun σ' H' => ∃ hd : Int, σ' = [some (.ref a), some (.int hd), none, none, none, none, none, none, none, none] ∧ H' = H) ?_ (fun key => ?_)
  rotate_left
  · refine ⟨_, rfl, a, _, rfl, .inl hS, _, _, rfl, rfl, _, rfl, iteD (fun z => ?_) (fun _ => ?_)⟩
    · rw [hnl] at z
      obtain ⟨v, hv, hvm⟩ := atI_ex (xs := ns.map V.int) (i := 0) (Int.le_refl _) (by rw [hnl]; exact z)
      obtain ⟨c, _, rfl⟩ := List.mem_map.mp hvm
      refine ⟨_, rfl, a, _, _, _, rfl, rfl, hS, hv, _, _, rfl, rfl, pos', ?_⟩
      exact key _ _ ⟨_, rfl, rfl⟩
    · exact key _ _ ⟨_, rfl, rfl⟩
  rintro σ' H ⟨hd, rfl, rfl⟩
  refine ⟨(show 3 ≤ sizeLine by decide), fun p hp => ?_⟩
  have b0 : 0 ≤ hd % 3 := Int.emod_nonneg _ (by decide)
  have b1 : hd % 3 < 3 := Int.emod_lt_of_pos _ (by decide)
  have hr3 : ∃ r : Int, 0 < r ∧ atI ([V.int 3, V.int 7, V.int 20]) (hd % 3) = some (.int r) := by
    rcases (show hd % 3 = 0 ∨ hd % 3 = 1 ∨ hd % 3 = 2 by omega) with e | e | e <;> rw [e]
    · exact ⟨3, by decide, rfl⟩
    · exact ⟨7, by decide, rfl⟩
    · exact ⟨20, by decide, rfl⟩
  obtain ⟨r, hr0, hv⟩ := hr3
  have s0 := same_new hp (.lst [V.int 3, V.int 7, V.int 20])
  refine ⟨_, rfl, _, _, rfl, rfl, pos', p, _, _, _, rfl, rfl, SqL.of upd_same, hv, ?_⟩
  dsimp only [gName]
  generalize upd H p (.lst [V.int 3, V.int 7, V.int 20]) = H0 at s0 ⊢
  refine ⟨Nat.zero_le _, fun T hT => ?_⟩
  dsimp only [gName]
  have s1 := same_new hT (.lst [])
  have hT1 := upd_same (H := H0) (a := T) (o := .lst [])
  generalize upd H0 T (.lst []) = H1 at s1 hT1 ⊢
  refine ⟨Nat.zero_le _, fun E1 hE => ?_⟩
  dsimp only [gName]
  have s2 := same_new hE (.lst [])
  have hE2 := upd_same (H := H1) (a := E1) (o := .lst [])
  generalize upd H1 E1 (.lst []) = H2 at s2 hE2 ⊢
  have hTE : T ≠ E1 := fun e => by rw [e, hE] at hT1; cases hT1
  have g2 := s0.trans (s1.trans s2)
  have hT0 : H T = none := s0.free hT
  have hE0 : H E1 = none := (s0.trans s1).free hE
  refine ⟨_, rfl, _, rfl, a, _, rfl, g2.seq hS, fun sl hsl => ?_⟩
  have hcm : ∀ x ∈ cutV (ns.map V.int) none (some 90), ∃ c : Int, x = .int c ∧ BitsOk c := fun x hx => by
    obtain ⟨c, hc, rfl⟩ := List.mem_map.mp (cutV_mem hx)
    exact ⟨c, rfl, hbits c hc⟩
  have hcl := cutV_length (ns.map V.int) none (some 90)
  rw [hnl] at hcl
  generalize cutV (ns.map V.int) none (some 90) = cs at hcm hcl ⊢
  have s3 := same_new hsl (.lst cs)
  have hsl3 := upd_same (H := H2) (a := sl) (o := .lst cs)
  have hTsl : T ≠ sl := fun e => by rw [e] at hT1; have := s2 _ _ hT1; rw [hsl] at this; cases this
  have hEsl : E1 ≠ sl := fun e => by rw [e, hsl] at hE2; cases hE2
  have hT3 := s3 _ _ (s2 _ _ hT1)
  have hE3 := s3 _ _ hE2
  have g3 := g2.trans s3
  generalize upd H2 sl (.lst cs) = H3 at s3 hsl3 hT3 hE3 g3 ⊢
  refine ⟨sl, rfl, ⟨_, SqL.of hsl3⟩, ?_⟩
  refine for_list (xs := cs) (fun i σ H' => ∃ (us evs : List V) (ts : List Tm) (es : List (Nat × Nat)) (x5 x6 x7 x8 x9 : Option V), σ = [some (.ref a), some (.int hd), some (.int r), some (.ref T), some (.ref E1), x5, x6, x7, x8, x9] ∧ MadeOk H H' T E1 us evs ts es ∧ H' sl = some (.lst cs) ∧ ts.length ≤ i ∧ evs.length ≤ i)
    ⟨[], [], [], [], none, none, none, none, none, rfl, ⟨g3, hT0, hE0, hTE, hT3, .nil, hE3, .nil, tsok_nil, Nat.zero_le _, fun a b h => nomatch h⟩, hsl3, Nat.le_refl _, Nat.le_refl _⟩ ?_ ?_ ?_
  · rintro i σ H' _ ⟨us, evs, ts, es, x5, x6, x7, x8, x9, rfl, mo, h1, _⟩
    exact SqL.of h1
  · rintro i x σ H' hx ⟨us, evs, ts, es, x5, x6, x7, x8, x9, rfl, mo, h1, hti, hei⟩
    obtain ⟨c, rfl, hbc⟩ := hcm x (List.mem_of_getElem? hx)
    have hlen := Paired.length mo.tms
    have hi : i < cs.length := (List.getElem?_eq_some_iff.mp hx).1
    show tSeq _ _ _ _ _
    refine rd_cut (fun σ' H4 => ∃ (us : List V) (ts : List Tm) (x6 x7 : Option V), σ' = [some (.ref a), some (.int hd), some (.int r), some (.ref T), some (.ref E1), some (.int c), x6, x7, x8, x9] ∧ MadeOk H H4 T E1 us evs ts es ∧ H4 sl = some (.lst cs) ∧ ts.length ≤ i + 1 ∧ 0 < ts.length) ?_ (fun key => ?_)
    rotate_left
    · refine ⟨_, rfl, T, us, rfl, .inl (SqL.of mo.hT), _, _, rfl, rfl, _, rfl, iteD (fun z => ?_) (fun z => ?_)⟩
      · refine ⟨_, rfl, _, rfl, T, us, rfl, .inl (SqL.of mo.hT), _, rfl, c, us.length, hd, rfl, hbc, fun v H4 t s4 hv htm => ?_⟩
        dsimp only [gName]
        have hT4 := s4 _ _ mo.hT
        have h3' := tms_same s4 mo.tms
        rw [hlen] at htm z
        refine ⟨_, rfl, _, rfl, _, _, hv.den, .inl (by rw [Den]; exact ⟨T, us, rfl, hT4, tms_den h3'⟩), Nat.le_trans (tms_deep ts) (by decide), _, rfl, ?_⟩
        by_cases hm : tmD t ∈ ts.map tmD
        · rw [decide_eq_true hm]
          refine iteF (key _ _ ⟨us, ts, _, _, rfl, { mo with same := mo.same.trans s4, hT := hT4, tms := h3', hE := s4 _ _ mo.hE, eds := edges_keep (fun b ys => s4 _ _) mo.eds }, s4 _ _ h1, by omega, ?_⟩)
          cases ts with
          | nil => cases hm
          | cons => exact Nat.succ_pos _
        · rw [decide_eq_false hm]
          have kp : ∀ b ys, H4 b = some (.tup ys) → (upd H4 T (.lst (us ++ [v]))) b = some (.tup ys) := fun b ys e => by rw [upd_ne (ne_of e hT4 (fun z => nomatch z))]; exact e
          refine iteT ⟨_, rfl, .inl ⟨rfl, _, SqL.of hT4⟩, _, rfl, T, us, v, rfl, rfl, hT4, small1000 (by omega), ?_⟩
          refine key _ _ ⟨us ++ [v], ts ++ [t], _, _, rfl, ⟨(mo.same.trans s4).put mo.t0, mo.t0, mo.e0, mo.te, upd_same, tms_snoc (tms_keep kp h3') (hv.keep kp), by rw [upd_ne (Ne.symm mo.te)]; exact s4 _ _ mo.hE, edges_keep kp (edges_keep (fun b ys => s4 _ _) mo.eds), tsok_snoc mo.ok htm hm, ?_, fun x y hxy => ?_⟩, ?_, ?_, ?_⟩
          · rw [List.length_append]; show ts.length + 1 ≤ 24; omega
          · have := mo.lt x y hxy; rw [List.length_append]; omega
          · rw [upd_ne (Ne.symm hTsl)]; exact s4 _ _ h1
          · rw [List.length_append]; show ts.length + 1 ≤ i + 1; omega
          · rw [List.length_append]; exact Nat.succ_pos _
      · refine key _ _ ⟨us, ts, _, _, rfl, mo, h1, by omega, ?_⟩
        rw [hlen] at z
        omega
    rintro σ' H4 ⟨us, ts, x6, x7, rfl, mo, h1, hti, hpos⟩
    have hlen := Paired.length mo.tms
    refine ⟨_, rfl, _, _, rfl, rfl, .inr ⟨by decide, by decide⟩, _, _, rfl, rfl, pos', ?_⟩
    dsimp only [gName]
    generalize c * 45991 % 2147483543 = m
    refine ⟨_, rfl, _, rfl, _, _, rfl, rfl, hr0, rfl, _, rfl, iteD (fun _ => ?_) (fun _ => ?_)⟩
    · have hp0 : (0 : Int) < ((us.length : Nat) : Int) := by omega
      have a0 : 0 ≤ m / 60 % ((us.length : Nat) : Int) := Int.emod_nonneg _ (by omega)
      have a1 : m / 60 % ((us.length : Nat) : Int) < ((us.length : Nat) : Int) := Int.emod_lt_of_pos _ hp0
      have c0 : 0 ≤ c * 62089911 % 4294967291 % ((us.length : Nat) : Int) := Int.emod_nonneg _ (by omega)
      have c1 : c * 62089911 % 4294967291 % ((us.length : Nat) : Int) < ((us.length : Nat) : Int) := Int.emod_lt_of_pos _ hp0
      refine ⟨_, rfl, _, _, rfl, rfl, div', _, rfl, T, us, rfl, .inl (SqL.of mo.hT), _, _, rfl, rfl, hp0, ?_⟩
      dsimp only [gName]
      refine ⟨_, rfl, _, _, rfl, rfl, .inr ⟨by decide, by decide⟩, _, _, rfl, rfl, pos', _, rfl, T, us, rfl, .inl (SqL.of mo.hT), _, _, rfl, rfl, hp0, ?_⟩
      dsimp only [gName]
      obtain ⟨na, ena⟩ : ∃ na : Nat, m / 60 % ((us.length : Nat) : Int) = (na : Int) := ⟨_, (Int.toNat_of_nonneg a0).symm⟩
      obtain ⟨nb, enb⟩ : ∃ nb : Nat, c * 62089911 % 4294967291 % ((us.length : Nat) : Int) = (nb : Int) := ⟨_, (Int.toNat_of_nonneg c0).symm⟩
      rw [ena] at a1 ⊢
      rw [enb] at c1 ⊢
      refine ⟨_, rfl, .inl ⟨rfl, _, SqL.of mo.hE⟩, ?_⟩
      refine ⟨_, rfl, _, rfl, _, rfl, 10, 12, rfl, rfl, ⟨by decide, by decide, by decide⟩, _, _, rfl, rfl, (by show (0 : Int) < 10 ^ 12; decide), _, _, rfl, rfl, (show 1 ≤ sizeLine by decide), fun tp htp => ⟨(show 4 ≤ sizeLine by decide), fun te hte => ?_⟩⟩
      have s5 := (same_new htp (.tup [.str "told"])).trans (same_new hte (.tup [nV na, nV nb, .int (1 + c % 10 ^ (12 : Int).toNat), .ref tp]))
      have hte5 := upd_same (H := upd H4 tp (.tup [.str "told"])) (a := te) (o := .tup [nV na, nV nb, .int (1 + c % 10 ^ (12 : Int).toNat), .ref tp])
      generalize upd (upd H4 tp (.tup [.str "told"])) te (.tup [nV na, nV nb, .int (1 + c % 10 ^ (12 : Int).toNat), .ref tp]) = H5 at s5 hte5 ⊢
      have hE5 := s5 _ _ mo.hE
      have kp : ∀ b ys, H5 b = some (.tup ys) → (upd H5 E1 (.lst (evs ++ [.ref te]))) b = some (.tup ys) := fun b ys e => by rw [upd_ne (ne_of e hE5 (fun z => nomatch z))]; exact e
      refine ⟨E1, evs, _, rfl, rfl, hE5, small1000 (by omega), ?_⟩
      refine ⟨us, evs ++ [.ref te], ts, es ++ [(na, nb)], _, _, _, _, _, rfl, ⟨(mo.same.trans s5).put mo.e0, mo.t0, mo.e0, mo.te, by rw [upd_ne mo.te]; exact s5 _ _ mo.hT, tms_keep kp (tms_same s5 mo.tms), upd_same, Paired.snoc (edges_keep kp (edges_keep (fun b ys => s5 _ _) mo.eds)) ⟨te, _, rfl, kp _ _ hte5⟩, mo.ok, mo.few, paired_snoc_lt mo.lt (by omega) (by omega)⟩, ?_, hti, ?_⟩
      · rw [upd_ne (Ne.symm hEsl)]; exact s5 _ _ h1
      · rw [List.length_append]; show evs.length + 1 ≤ i + 1; omega
    · exact ⟨us, evs, ts, es, _, _, _, _, _, rfl, mo, h1, hti, by omega⟩
  · rintro σ H' ⟨us, evs, ts, es, x5, x6, x7, x8, x9, rfl, mo, h1, hti, hei⟩
    refine ⟨_, rfl, _, rfl, (show 2 ≤ sizeLine by decide), fun p hp => ?_⟩
    have s5 := same_new hp (.tup [.ref T, .ref E1])
    refine q p T E1 us evs ts es _ { mo with same := mo.same.trans s5, hT := s5 _ _ mo.hT, tms := tms_same s5 mo.tms, hE := s5 _ _ mo.hE, eds := edges_keep (fun b ys => s5 _ _) mo.eds } upd_same (fun z => by omega) (by omega)
end

end K64
namespace K64
open PySem L2 Sw
section
variable {P : Program} {w : World} {K : PySem.W.Frag} {mg : Str → Option Value} {base : Heap}
inductive SpArmsL (vs : List V) (H : Hp) (Q : VK) : Prop
  | mk (v : V) (t : Tm) (z0 : vs = [v]) (z1 : IsTm H t v) (z2 : ∀ N H', Same H H' → H N = none → H' N = some (.lst ((armsF t).map nV)) → Q (.ref N) H') : SpArmsL  vs H Q
noncomputable def spArmsL : Sp := fun vs H Q _ => SpArmsL  vs H Q
theorem ok_armsL (B : Blt mg) (D : Def K mg "_law_arms" s_arms ["_law_term_here"]) : Has P w K mg base 1 "_law_arms" ["_law_term_here"] spArmsL := by
  refine D.has sc_arms (fun vs H Q E h => ?_) (fun f cdv A outer s H vs Q E hr h => ?_)
  · obtain ⟨v, t, rfl, _⟩ := h; rfl
  obtain ⟨v, t, rfl, hT, q⟩ := h
  refine ⟨_, (pss_cons (ps_if (pt_cmpR op_eq (pe_ix ix_tup (pv 0) pe_int (fun _ _ => rfl)) pe_str (nomark _)) (pss_one (ps_ret (pe_callTy call_list_of rfl B.list_ boot_list_ (pa_cons (pe_ix ix_tup (pv 0) pe_int (fun _ _ => rfl)) pa_nil)))) pss_nil)
    (pss_one (ps_ret (pe_lst pa_nil)))), ?_⟩
  try dsimp only [cxOf]
  cases t with
  | num n =>
    obtain ⟨a, rfl, h⟩ := id hT
    exact ⟨_, rfl, a, _, 0, _, rfl, rfl, SqT.of h, atI_nat (j := 0) rfl, rfl, _, rfl, iteD (fun z => absurd (V.str.inj z) (by decide)) (fun _ => ⟨Nat.zero_le _, fun p hp => q p _ (same_new hp _) hp upd_same⟩)⟩
  | name n =>
    obtain ⟨a, rfl, h⟩ := id hT
    exact ⟨_, rfl, a, _, 0, _, rfl, rfl, SqT.of h, atI_nat (j := 0) rfl, rfl, _, rfl, iteD (fun z => absurd (V.str.inj z) (by decide)) (fun _ => ⟨Nat.zero_le _, fun p hp => q p _ (same_new hp _) hp upd_same⟩)⟩
  | of x as =>
    obtain ⟨a, b, rfl, h, h2⟩ := id hT
    refine ⟨_, rfl, a, _, 0, _, rfl, rfl, SqT.of h, atI_nat (j := 0) rfl, rfl, _, rfl, iteD (fun _ => ?_) (fun z => absurd rfl z)⟩
    exact ⟨_, rfl, a, _, 2, _, rfl, rfl, SqT.of h, atI_nat (j := 2) rfl, b, _, rfl, .inr (SqT.of h2), fun p hp => q p _ (same_new hp _) hp upd_same⟩
end

section
variable {P : Program} {w : World} {K : PySem.W.Frag} {mg : Str → Option Value} {base : Heap} {CTB : Addr}
inductive SpSizeD (vs : List V) (H : Hp) (Q : VK) : Prop
  | mk (v : V) (t : Tm) (S : Addr) (kvs : DK) (g : Nat → Sz) (z0 : vs = [v, .ref S]) (z1 : IsTm H t v) (z2 : H S = some (.dK kvs)) (z3 : SzD H kvs g (armsF t)) (z4 : (armsF t).length ≤ 1000) (z5 : ∀ r H', Same H H' → SzAt H' r (szL g (armsF t)) → Q r H') : SpSizeD  vs H Q
noncomputable def spSizeD : Sp := fun vs H Q _ => SpSizeD  vs H Q
inductive SzI (H : Hp) (a S : Addr) (as : List Nat) (g : Nat → Sz) (i : Nat) (σ : St) (H' : Hp) : Prop
  | mk : ∀ (o4 o5 : Option V), (σ = [some (.ref a), some (.ref S), some (nV (1 + ((as.take i).map fun b => (g b).1).sum)), some (nV (dpL g (as.take i))), o4, o5]) → (H' = H) → SzI H a S as g i σ H'
theorem ok_sizeD (B : Blt mg) (D : Def K mg "size_above" s_size_above ["term", "sizes"]) : Has P w K mg base 1 "size_above" ["term", "sizes"] spSizeD := by
  refine D.has sc_size_above (fun vs H Q E h => ?_) (fun f cdv A outer s H vs Q E hr h => ?_)
  · obtain ⟨v, t, S, kvs, g, rfl, _⟩ := h; rfl
  obtain ⟨v, t, S, kvs, g, rfl, hT, hS, hz, hb, q⟩ := h
  refine ⟨_, (pss_cons (ps_if (pt_cmpR op_ne (pe_ix ix_tup (pv 0) pe_int (fun _ _ => rfl)) pe_str (nomark _)) (pss_one (ps_ret (pe_tup (pa_cons pe_int (pa_cons pe_int pa_nil))))) pss_nil)
    (pss_cons (ps_set (i := 2) sc_size_above.nd rfl (Or.inl rfl) pe_int)
    (pss_cons (ps_set (i := 3) sc_size_above.nd rfl (Or.inl rfl) pe_int)
    (pss_cons (ps_for PassesOwn.never rfl (pi_tup (pe_ix ix_tup (pv 0) pe_int (fun _ _ => rfl))) (pg_name (i := 4) sc_size_above.nd rfl (Or.inl rfl))
    (pss_cons (ps_set (i := 5) sc_size_above.nd rfl (Or.inl rfl) (pe_dget (hu_of hr) (pv 1) (pv 4) (fun _ _ => rfl)))
    (pss_cons (ps_aug (i := 2) sc_size_above.nd rfl (Or.inl rfl) (pe_ix ix_tup (pv 5) pe_int (fun _ _ => rfl)) ip_add)
    (pss_one (ps_set (i := 3) sc_size_above.nd rfl (Or.inl rfl) (pe_callB (call_max2 rfl) rfl B.max_ boot_max_ (pa_cons (pv 3) (pa_cons (pe_ix ix_tup (pv 5) pe_int (fun _ _ => rfl)) pa_nil))))))))
    (pss_one (ps_ret (pe_tup (pa_cons (pv 2) (pa_cons (pe_op op_add (pv 3) pe_int) pa_nil))))))))), ?_⟩
  try dsimp only [cxOf]
  cases t with
  | num n =>
    obtain ⟨a, rfl, h⟩ := hT
    exact ⟨_, rfl, a, _, 0, _, rfl, rfl, SqT.of h, atI_nat (j := 0) rfl, rfl, _, rfl, iteDN (fun _ => ⟨(show 2 ≤ sizeLine by decide), fun p hp => q _ _ (same_new hp _) ⟨p, rfl, upd_same⟩⟩) (fun z => absurd (V.str.inj z) (by decide))⟩
  | name n =>
    obtain ⟨a, rfl, h⟩ := hT
    exact ⟨_, rfl, a, _, 0, _, rfl, rfl, SqT.of h, atI_nat (j := 0) rfl, rfl, _, rfl, iteDN (fun _ => ⟨(show 2 ≤ sizeLine by decide), fun p hp => q _ _ (same_new hp _) ⟨p, rfl, upd_same⟩⟩) (fun z => absurd (V.str.inj z) (by decide))⟩
  | of x as =>
    obtain ⟨a, b, rfl, h, h2⟩ := hT
    have hz : SzD H kvs g as := hz
    have q : ∀ r H', Same H H' → SzAt H' r (szL g as) → Q r H' := q
    refine ⟨_, rfl, a, _, 0, _, rfl, rfl, SqT.of h, atI_nat (j := 0) rfl, rfl, _, rfl, iteDN (fun z => absurd rfl z) (fun _ => ?_)⟩
    refine ⟨_, rfl, a, _, 2, _, rfl, rfl, SqT.of h, atI_nat (j := 2) rfl, b, rfl, ⟨_, SqT.of h2⟩, ?_⟩
    refine for_tup (xs := as.map nV) (SzI H a S as g) (SzI.mk none none rfl rfl) ?_ ?_ ?_
    · rintro i σ H' _ ⟨o4, o5, rfl, rfl⟩
      exact SqT.of h2
    · rintro i y σ H' hy ⟨o4, o5, rfl, rfl⟩
      rw [List.getElem?_map] at hy
      cases e : as[i]? with
      | none => rw [e] at hy; cases hy
      | some k =>
        rw [e] at hy
        have ey : nV k = y := Option.some.inj hy
        subst ey
        obtain ⟨v, hv, za, rfl, hza⟩ := hz k (List.mem_of_getElem? e)
        refine ⟨_, rfl, _, rfl, S, _, rfl, dget_lk hS hv, ?_⟩
        dsimp only [gName]
        refine ⟨_, rfl, _, rfl, za, _, 0, _, rfl, rfl, SqT.of hza, atI_nat (j := 0) rfl, _, _, rfl, rfl, ?_⟩
        refine ⟨_, rfl, _, rfl, za, _, 1, _, rfl, rfl, SqT.of hza, atI_nat (j := 1) rfl, _, _, rfl, SzI.mk (some (nV k)) (some (.ref za)) ?_ rfl⟩
        have e1 : ((1 + ((as.take (i + 1)).map fun b => (g b).1).sum : Nat) : Int) = ((1 + ((as.take i).map fun b => (g b).1).sum : Nat) : Int) + (((g k).1 : Nat) : Int) := by rw [sum_step e]; omega
        have e2 : ((dpL g (as.take (i + 1)) : Nat) : Int) = (if (((g k).2 : Nat) : Int) > ((dpL g (as.take i) : Nat) : Int) then (((g k).2 : Nat) : Int) else ((dpL g (as.take i) : Nat) : Int)) := by rw [sz_step e]; split <;> omega
        show _ = [some (V.ref a), some (V.ref S), some (V.int ((1 + ((as.take (i + 1)).map fun b => (g b).1).sum : Nat) : Int)), some (V.int ((dpL g (as.take (i + 1)) : Nat) : Int)), some (nV k), some (V.ref za)]
        rw [e1, e2]
        rfl
    · rintro σ H' ⟨o4, o5, rfl, rfl⟩
      rw [List.length_map, List.take_length]
      refine ⟨_, rfl, _, rfl, _, _, rfl, rfl, (show 2 ≤ sizeLine by decide), fun p hp => q _ _ (same_new hp _) ⟨p, rfl, ?_⟩⟩
      rw [upd_same]
      rfl
structure TopB (K : PySem.W.Frag) (mg : Str → Option Value) (CTB : Addr) : Prop where
  g_MOST_TOLD_PARTS : ∃ t, mg "MOST_TOLD_PARTS" = some (.int 500 t)
  g_MOST_TOLD_DEEP : ∃ t, mg "MOST_TOLD_DEEP" = some (.int 60 t)
  oTooBig : Exc K mg "TooBig" CTB
inductive SpRefuse (CTB : Addr) (vs : List V) (H : Hp) (Q : VK) (E : XK) : Prop
  | mk (v : V) (z : Sz) (z0 : vs = [v]) (z1 : SzAt H v z) (z2 : (z.1 ≤ 500 ∧ z.2 ≤ 60 → Q .non H)) (z3 : (¬ (z.1 ≤ 500 ∧ z.2 ≤ 60) → E (.ref CTB) none H)) : SpRefuse CTB vs H Q E
noncomputable def spRefuse (CTB : Addr) : Sp := fun vs H Q E => SpRefuse CTB vs H Q E
theorem ok_refuse_great (B : Blt mg) (Z : TopB K mg CTB) (D : Def K mg "refuse_great" s_refuse_great ["size"]) : HasE P w K mg base 1 "refuse_great" ["size"] (spRefuse CTB) := by
  have oTooBig := Z.oTooBig
  have g_MOST_TOLD_PARTS := Z.g_MOST_TOLD_PARTS
  have g_MOST_TOLD_DEEP := Z.g_MOST_TOLD_DEEP
  refine D.hasE sc_refuse_great (fun vs H Q E h => ?_) (fun f cdv A outer s H vs Q E hr h => ?_)
  · obtain ⟨v, z, rfl, _⟩ := h; rfl
  obtain ⟨v, z, rfl, ⟨a, rfl, h⟩, q1, q2⟩ := h
  refine ⟨_, (pss_one (ps_if (PW.pt (pw_or (pt_cmpR op_gt (pe_ix ix_tup (pv 0) pe_int (fun _ _ => rfl)) (pe_globI g_MOST_TOLD_PARTS rfl) (nomark _)) (pw_or1 (pt_cmpR op_gt (pe_ix ix_tup (pv 0) pe_int (fun _ _ => rfl)) (pe_globI g_MOST_TOLD_DEEP rfl) (nomark _))))) (pss_one (ps_raise oTooBig rfl (fun _ _ _ _ _ _ _ I hx q => flies I hx q) (pa_cons (pe_joined (pj_cons pe_str (pj_cons (pe_fmtI (pe_globI g_MOST_TOLD_PARTS rfl)) (pj_cons pe_str (pj_cons (pe_fmtI (pe_globI g_MOST_TOLD_DEEP rfl)) (pj_cons pe_str pj_nil)))))) pa_nil) rfl)) pss_nil)), ?_⟩
  try dsimp only [cxOf]
  refine ⟨_, rfl, a, _, 0, _, rfl, rfl, SqT.of h, atI_nat (j := 0) rfl, _, _, rfl, rfl, _, rfl, iteD (fun h1 => iteT ?_) (fun h1 => ?_)⟩
  · refine ⟨by decide, _, rfl, by decide, _, rfl, by decide, _, rfl, by decide, _, rfl, by decide, _, rfl, by decide, _, rfl, by decide, _, rfl, by decide, fun zz => ⟨(show 1 ≤ sizeLine by decide), q2 fun z => ?_⟩⟩
    omega
  refine ⟨_, rfl, a, _, 1, _, rfl, rfl, SqT.of h, atI_nat (j := 1) rfl, _, _, rfl, rfl, _, rfl, iteD (fun h2 => ?_) (fun h2 => q1 ⟨by omega, by omega⟩)⟩
  refine ⟨by decide, _, rfl, by decide, _, rfl, by decide, _, rfl, by decide, _, rfl, by decide, _, rfl, by decide, _, rfl, by decide, _, rfl, by decide, fun zz => ⟨(show 1 ≤ sizeLine by decide), q2 fun z => ?_⟩⟩
  omega
inductive SpTreeD (vs : List V) (H : Hp) (Q : VK) : Prop
  | mk (v : V) (t : Tm) (R : Addr) (kvs : DK) (g : Nat → L2.D) (z0 : vs = [v, .ref R]) (z1 : IsTm H t v) (z2 : H R = some (.dK kvs)) (z3 : TrD H kvs g (armsF t)) (z4 : (armsF t).length ≤ 1000) (z5 : ∀ r H', Same H H' → Den H' (trM g t) r → Q r H') : SpTreeD  vs H Q
noncomputable def spTreeD : Sp := fun vs H Q _ => SpTreeD  vs H Q
theorem ok_treeD (B : Blt mg) (D : Def K mg "tree_above" s_tree_above ["term", "trees"]) : Has P w K mg base 1 "tree_above" ["term", "trees"] spTreeD := by
  refine D.has sc_tree_above (fun vs H Q E h => ?_) (fun f cdv A outer s H vs Q E hr h => ?_)
  · obtain ⟨v, t, R, kvs, g, rfl, _⟩ := h; rfl
  obtain ⟨v, t, R, kvs, g, rfl, hT, hR, hd, hb, q⟩ := h
  refine ⟨_, (pss_cons (ps_if (pt_cmpR op_ne (pe_ix ix_tup (pv 0) pe_int (fun _ _ => rfl)) pe_str (nomark _)) (pss_one (ps_ret (pv 0))) pss_nil)
    (pss_one (ps_ret (pe_tup (pa_cons pe_str (pa_cons (pe_ix ix_tup (pv 0) pe_int (fun _ _ => rfl)) (pa_cons (pe_callTy call_tuple_of rfl B.tuple_ boot_tuple_ (pa_cons (pe_comp (te := (tDGet _ _)) (own := ["number"]) (caps := [("trees", 1)]) (comp_scope (defScope s_tree_above) ["term", "trees"] rfl rfl rfl (by decide +kernel)) (pi_tup (pe_ix ix_tup (pv 0) pe_int (fun _ _ => rfl))) rfl (fun _ _ _ => pg_name (i := 0) (show (["number", "trees"] : List Str).Nodup by decide +kernel) rfl (Or.inl rfl)) (fun _ _ _ => (pe_dget (hu_of hr) (pv 1) (pv 0) (fun _ _ => rfl)))) pa_nil)) pa_nil))))))), ?_⟩
  try dsimp only [cxOf]
  cases t with
  | num n =>
    have hden : Den H (trM g (.num n)) v := hT.den
    obtain ⟨a, rfl, h⟩ := id hT
    exact ⟨_, rfl, a, _, 0, _, rfl, rfl, SqT.of h, atI_nat (j := 0) rfl, rfl, _, rfl, iteDN (fun _ => ⟨_, rfl, q _ _ (Same.refl _) hden⟩) (fun z => absurd (V.str.inj z) (by decide))⟩
  | name n =>
    have hden : Den H (trM g (.name n)) v := hT.den
    obtain ⟨a, rfl, h⟩ := id hT
    exact ⟨_, rfl, a, _, 0, _, rfl, rfl, SqT.of h, atI_nat (j := 0) rfl, rfl, _, rfl, iteDN (fun _ => ⟨_, rfl, q _ _ (Same.refl _) hden⟩) (fun z => absurd (V.str.inj z) (by decide))⟩
  | of x as =>
    obtain ⟨a, b, rfl, h, h2⟩ := id hT
    have hd : TrD H kvs g as := hd
    refine ⟨_, rfl, a, _, 0, _, rfl, rfl, SqT.of h, atI_nat (j := 0) rfl, rfl, _, rfl, iteDN (fun z => absurd rfl z) (fun _ => ?_)⟩
    refine ⟨_, rfl, a, _, 1, _, rfl, rfl, SqT.of h, atI_nat (j := 1) rfl, ?_⟩
    refine ⟨_, rfl, a, _, 2, _, rfl, rfl, SqT.of h, atI_nat (j := 2) rfl, b, rfl, ⟨_, SqT.of h2⟩, ?_⟩
    refine comp_tupS (ys := as.map fun a => (valV kvs (lk a)).getD .non) (SqT.of h2) (by rw [List.length_map]; exact hb) (by simp) (fun i y z hy hz H' sm Q' q' => ?_) (fun D1 H' hD1 sm hD => ?_)
    · rw [List.getElem?_map] at hy
      rw [List.getElem?_map] at hz
      cases e : as[i]? with
      | none => rw [e] at hy; cases hy
      | some k =>
        rw [e] at hy hz
        have e1 : nV k = y := Option.some.inj hy
        have e2 : (valV kvs (lk k)).getD .non = z := Option.some.inj hz
        subst e1
        obtain ⟨v, hv, _⟩ := hd k (List.mem_of_getElem? e)
        rw [hv] at e2
        have e2 : v = z := e2
        subst e2
        exact ⟨_, rfl, _, rfl, R, _, rfl, dget_lk (sm _ _ hR) hv, q' _ (Same.refl _)⟩
    · refine ⟨D1, _, rfl, .inl ⟨SqL.of hD, fun l hl' => ?_⟩⟩
      refine ⟨(show 3 ≤ sizeLine by decide), fun t ht => ?_⟩
      have s2 := (same_new hl' (.tup (as.map fun a => (valV kvs (lk a)).getD .non))).trans (same_new ht (.tup [.str "of", .str x, .ref l]))
      refine q _ _ (sm.trans s2) ?_
      rw [trM, Den]
      refine ⟨t, _, rfl, upd_same, dens_cons (by rw [Den]) (dens_cons (by rw [Den]) (dens_cons ?_ dens_nil))⟩
      rw [Den]
      exact ⟨l, _, rfl, by rw [upd_ne (ne_of_none upd_same ht), upd_same], dens_same (sm.trans s2) (dens_pickD hd)⟩
theorem paired_at {α β : Type} {R : α → β → Prop} : ∀ {xs : List α} {ys : List β} {i : Nat} {x : α}, Paired R xs ys → xs[i]? = some x → ∃ y, ys[i]? = some y ∧ R x y
  | _, _, _, _, .nil, e => by simp at e
  | _, _, 0, _, .cons h _, e => by simp at e; subst e; exact ⟨_, rfl, h⟩
  | _, _, i + 1, v, .cons _ r, e => by
    obtain ⟨t, e', h⟩ := paired_at (i := i) (x := v) r (by simpa using e)
    exact ⟨t, by simpa using e', h⟩
theorem at_last {α : Type} (xs : List α) (x : α) : atI (xs ++ [x]) (-1) = some x := by
  unfold atI ixN
  rw [if_neg (by decide), if_pos (by rw [List.length_append]; show -((xs.length + 1 : Nat) : Int) ≤ -1; omega)]
  have e : ((-1 : Int) + (((xs ++ [x]).length : Nat) : Int)).toNat = xs.length := by rw [List.length_append]; show ((-1 : Int) + ((xs.length + 1 : Nat) : Int)).toNat = _; omega
  rw [e]
  simp
theorem last_row {H : Hp} {rvs : List V} {rs : List Rw} {l : Nat} (h : Paired (PairAt H) rvs rs) (hl : ∃ r0 k, rs = r0 ++ [(l, k)]) : ∃ b j, atI rvs (-1) = some (.ref b) ∧ H b = some (.tup [nV l, nV j]) := by
  obtain ⟨r0, k, e⟩ := hl
  have hn := Paired.length h
  rcases List.eq_nil_or_concat rvs with e2 | ⟨v0, v, e2⟩
  · rw [e2, e, List.length_append] at hn; have e1 : [(l, k)].length = 1 := rfl; have e3 : ([] : List V).length = 0 := rfl; omega
  rw [List.concat_eq_append] at e2
  have hl0 : v0.length = r0.length := by rw [e, e2, List.length_append, List.length_append] at hn; have e1 : [(l, k)].length = 1 := rfl; have e3 : [v].length = 1 := rfl; omega
  obtain ⟨r, hr, b, rfl, hb⟩ := paired_at (i := v0.length) (x := v) h (by rw [e2]; simp)
  rw [e, hl0] at hr
  have : (l, k) = r := by simpa using hr
  subst this
  exact ⟨b, k, by rw [e2]; exact at_last _ _, hb⟩
inductive SpTaken (CTB : Addr) (vs : List V) (H : Hp) (Q : VK) (E : XK) : Prop
  | mk (T L C : Addr) (us rvs : List V) (ts : List Tm) (ls : List Nat) (rs : List Rw) (l : Nat) (z0 : vs = [.ref T, .ref L, .ref C]) (z1 : H T = some (.lst us)) (z2 : Tms H us ts) (z3 : H L = some (.lst (ls.map nV))) (z4 : PrG ts ls) (z5 : H C = some (.lst rvs)) (z6 : Paired (PairAt H) rvs rs) (z7 : ChG ts ls rs) (z8 : rs.length ≤ 900) (z9 : (∃ r0 k, rs = r0 ++ [(l, k)])) (z10 : ((zF ts ls rs l).1 ≤ 500 ∧ (zF ts ls rs l).2 ≤ 60 → ∀ r H', Same H H' → Den H' (dF ts ls rs l) r → Q r H')) (z11 : (¬ ((zF ts ls rs l).1 ≤ 500 ∧ (zF ts ls rs l).2 ≤ 60) → ∀ H', Same H H' → E (.ref CTB) none H')) : SpTaken CTB vs H Q E
noncomputable def spTaken (CTB : Addr) : Sp := fun vs H Q E => SpTaken CTB vs H Q E
inductive TkI (H : Hp) (T L C S R : Addr) (ts : List Tm) (ls : List Nat) (rs : List Rw) (i : Nat) (σ : St) (H' : Hp) : Prop
  | mk : ∀ (zk tk : DK) (x5 x6 x7 : Option V), (σ = [some (.ref T), some (.ref L), some (.ref C), some (.ref S), some (.ref R), x5, x6, x7, none]) → (Same H H') → (H' S = some (.dK zk)) → (H' R = some (.dK tk)) → (SzD H' zk (zF ts ls (rs.take i)) ((rs.take i).map (·.1))) →
      (TrD H' tk (dF ts ls (rs.take i)) ((rs.take i).map (·.1))) → (zk.length ≤ i) → (tk.length ≤ i) → TkI H T L C S R ts ls rs i σ H'
theorem ok_taken (h_mark : Has P w K mg base 1 "mark" ["term", "leads"] (spMark K)) (h_size_above : Has P w K mg base 1 "size_above" ["term", "sizes"] spSizeD) (h_refuse_great : HasE P w K mg base 1 "refuse_great" ["size"] (spRefuse CTB)) (h_tree_above : Has P w K mg base 1 "tree_above" ["term", "trees"] spTreeD)
    (D : Def K mg "taken" s_taken ["terms", "leads", "choice"]) : HasE P w K mg base 2 "taken" ["terms", "leads", "choice"] (spTaken CTB) := by
  refine D.hasE sc_taken (fun vs H Q E h => ?_) (fun f cdv A outer s H vs Q E hr h => ?_)
  · obtain ⟨T, L, C, us, rvs, ts, ls, rs, l, rfl, _⟩ := h; rfl
  obtain ⟨T, L, C, us, rvs, ts, ls, rs, l, rfl, hT, hts, hL, pi, hC, hrs, ch, hrl, hlast, q1, q2⟩ := h
  refine ⟨_, (pss_cons (ps_set (i := 3) sc_taken.nd rfl (Or.inl rfl) pe_dnewK)
    (pss_cons (ps_set (i := 4) sc_taken.nd rfl (Or.inl rfl) pe_dnewK)
    (pss_cons (ps_for PassesOwn.leaving rfl (pi_list (pv 2)) (pg_tup rfl (pgs_cons (pg_name (i := 5) sc_taken.nd rfl (Or.inl rfl)) (pgs_cons (pg_name (i := 6) sc_taken.nd rfl (Or.inl rfl)) pgs_nil)))
    (pss_cons (ps_set (i := 7) sc_taken.nd rfl (Or.inl rfl) (pe_callH h_mark hr (by omega) rfl (pa_cons (pe_ix ix_list (pv 0) (pv 6) (fun _ _ => rfl)) (pa_cons (pv 1) pa_nil))))
    (pss_cons (ps_dput (hu_of hr) (pv 3) (pv 5) (pe_callH h_size_above hr (by omega) rfl (pa_cons (pv 7) (pa_cons (pv 3) pa_nil))) rfl)
    (pss_one (ps_dput (hu_of hr) (pv 4) (pv 5) (pe_callH h_tree_above hr (by omega) rfl (pa_cons (pv 7) (pa_cons (pv 4) pa_nil))) rfl)))))
    (pss_cons (ps_set (i := 8) sc_taken.nd rfl (Or.inl rfl) (pe_ix ix_tup (pe_ix ix_list (pv 2) (pe_un un_neg pe_int) (fun _ _ => rfl)) pe_int (fun _ _ => rfl)))
    (pss_cons (ps_expr (pe_callE h_refuse_great hr (by omega) (passE fun _ _ z => z) rfl (pa_cons (pe_dget (hu_of hr) (pv 3) (pv 8) (fun _ _ => rfl)) pa_nil)))
    (pss_one (ps_ret (pe_dget (hu_of hr) (pv 4) (pv 8) (fun _ _ => rfl))))))))), ?_⟩
  try dsimp only [cxOf]
  have hut := Paired.length hts
  have hrn := Paired.length hrs
  intro S hS0
  dsimp only [gName]
  have s1 := same_new hS0 (.dK [])
  have hS1 := upd_same (H := H) (a := S) (o := .dK [])
  generalize upd H S (.dK []) = H1 at s1 hS1 ⊢
  intro R hR0
  dsimp only [gName]
  have hR00 : H R = none := s1.free hR0
  have s2 := s1.trans (same_new hR0 (.dK []))
  have hS2 := (same_new hR0 (.dK [])) _ _ hS1
  have hR2 := upd_same (H := H1) (a := R) (o := .dK [])
  have hSR : S ≠ R := ne_of_none hS1 hR0
  generalize upd H1 R (.dK []) = H2 at s2 hS2 hR2 ⊢
  refine ⟨_, rfl, C, rfl, ⟨_, SqL.of (s2 _ _ hC)⟩, ?_⟩
  refine for_list (xs := rvs) (TkI H T L C S R ts ls rs) (TkI.mk [] [] none none none rfl s2 hS2 hR2 (fun b hb => by rw [List.take_zero] at hb; cases hb) (fun b hb => by rw [List.take_zero] at hb; cases hb) (Nat.le_refl _) (Nat.le_refl _)) ?_ ?_ ?_
  · rintro i σ H' _ ⟨zk, tk, x5, x6, x7, rfl, sm, _⟩
    exact SqL.of (sm _ _ hC)
  · rintro i y σ H3 hy ⟨zk, tk, x5, x6, x7, rfl, sm, hS3, hR3, hz, ht, hzl, htl⟩
    obtain ⟨⟨lr, kr⟩, hr', b, rfl, hb⟩ := paired_at hrs hy
    have hil : i < rs.length := (List.getElem?_eq_some_iff.mp hr').1
    have hk : kr < ts.length := ch.num _ (List.mem_of_getElem? hr')
    obtain ⟨v, hv⟩ : ∃ v, us[kr]? = some v := ⟨_, List.getElem?_eq_getElem (by rw [hut]; exact hk)⟩
    obtain ⟨t, htt, hvt⟩ := tms_at hts hv
    have arm := pi.armIn htt
    have emt : mtF ts ls kr = mk ls t := mtF_at htt
    have harms := ch.arms i _ hr'
    have hcok := ch_ok ch i (by omega)
    dsimp only at harms
    rw [emt] at harms
    have alen : (armsF (mk ls t)).length ≤ 1000 := by rw [arms_mk, List.length_map]; exact arm.1
    have htk := take_snoc hr'
    have hzs := zF_snoc ts ls (rs.take i) (lr, kr)
    have hds := dF_snoc ts ls (rs.take i) (lr, kr)
    generalize rs.take i = ra at hz ht harms hcok htk hzs hds
    refine ⟨b, _, rfl, SqT.of (sm _ _ hb), rfl, _, _, rfl, _, _, rfl, rfl, ?_⟩
    refine ⟨_, rfl, _, rfl, T, _, _, _, rfl, rfl, SqL.of (sm _ _ hT), atI_nat hv, _, rfl, v, t, L, ls, rfl, hvt.same sm, SqL.of (sm _ _ hL), arm.mark, fun v' H4 s4 hm => ?_⟩
    dsimp only [gName]
    have sm4 := sm.trans s4
    have hS4 := s4 _ _ hS3
    refine ⟨_, rfl, _, rfl, v', mk ls t, S, zk, zF ts ls ra, rfl, hm, hS4, (fun c hc => hz.keep (fun b ys => s4 _ _) c (harms c hc)), alen, fun r H5 s5 hr5 => ?_⟩
    have sm5 := sm4.trans s5
    have hS5 := s5 _ _ hS4
    have hR5 := s5 _ _ (s4 _ _ hR3)
    refine ⟨_, rfl, _, rfl, S, _, rfl, DPut.k (k := lk lr) hS5 (small1000 (by omega)), ?_⟩
    have k6 : ∀ b ys, H5 b = some (.tup ys) → (upd H5 S (.dK (putK zk (lk lr) r))) b = some (.tup ys) := fun b ys e => by rw [upd_ne (ne_of e hS5 (fun z => nomatch z))]; exact e
    have sm6 := sm5.put (o := .dK (putK zk (lk lr) r)) hS0
    have hS6 := upd_same (H := H5) (a := S) (o := .dK (putK zk (lk lr) r))
    have hR6 : (upd H5 S (.dK (putK zk (lk lr) r))) R = some (.dK tk) := by rw [upd_ne hSR.symm]; exact hR5
    generalize upd H5 S (.dK (putK zk (lk lr) r)) = H6 at k6 sm6 hS6 hR6 ⊢
    have k35 : ∀ b ys, H3 b = some (.tup ys) → H5 b = some (.tup ys) := fun b ys e => s5 _ _ (s4 _ _ e)
    have hm6 : IsTm H6 (mk ls t) v' := (hm.same s5).keep k6
    have ht6 : TrD H6 tk (dF ts ls ra) (ra.map (·.1)) := ht.keep (fun b ys e => k6 _ _ (k35 _ _ e)) fun c hc => (hcok c hc).2
    refine ⟨_, rfl, _, rfl, v', mk ls t, R, tk, dF ts ls ra, rfl, hm6, hR6, (fun c hc => ht6 c (harms c hc)), alen, fun r2 H7 s7 hr7 => ?_⟩
    have hS7 := s7 _ _ hS6
    have hR7 := s7 _ _ hR6
    refine ⟨_, rfl, _, rfl, R, _, rfl, DPut.k (k := lk lr) hR7 (small1000 (by omega)), ?_⟩
    have k8 : ∀ b ys, H7 b = some (.tup ys) → (upd H7 R (.dK (putK tk (lk lr) r2))) b = some (.tup ys) := fun b ys e => by rw [upd_ne (ne_of e hR7 (fun z => nomatch z))]; exact e
    have k58 : ∀ b ys, H5 b = some (.tup ys) → (upd H7 R (.dK (putK tk (lk lr) r2))) b = some (.tup ys) := fun b ys e => k8 _ _ (s7 _ _ (k6 _ _ e))
    have hnew := trM_ok (f := dF ts ls ra) (z := zF ts ls ra) (t := mk ls t) fun c hc => hcok c (harms c hc)
    refine TkI.mk (putK zk (lk lr) r) (putK tk (lk lr) r2) _ _ _ rfl ((sm6.trans s7).put hR00) ?_ upd_same ?_ ?_ ?_ ?_
    · rw [upd_ne hSR]; exact hS7
    · rw [htk, hzs, List.map_append]
      refine SzD.put (hz.keep fun b ys e => k58 _ _ (k35 _ _ e)) ?_ (stepZ_ne (r := (lr, kr)))
      have e1 : stepZ ts ls (zF ts ls ra) (lr, kr) lr = szL (zF ts ls ra) (armsF (mk ls t)) := by rw [← emt]; exact stepZ_at (r := (lr, kr))
      rw [e1]
      exact hr5.keep k58
    · rw [htk, hds, List.map_append]
      refine TrD.put (ht6.keep (fun b ys e => k8 _ _ (s7 _ _ e)) fun c hc => (hcok c hc).2) ?_ (stepD_ne (r := (lr, kr)))
      have e1 : stepD ts ls (dF ts ls ra) (lr, kr) lr = trM (dF ts ls ra) (mk ls t) := by rw [← emt]; exact stepD_at (r := (lr, kr))
      rw [e1]
      exact den_keepT k8 hnew.2 hr7
    · have := length_putK zk (lk lr) r
      omega
    · have := length_putK tk (lk lr) r2
      omega
  · rintro σ H3 ⟨zk, tk, x5, x6, x7, rfl, sm, hS3, hR3, hz, ht, hzl, htl⟩
    rw [hrn, List.take_length] at hz ht
    obtain ⟨b, j, ea, hb⟩ := last_row hrs hlast
    have hlm : l ∈ rs.map (·.1) := by obtain ⟨r0, k, e⟩ := hlast; rw [e, List.map_append]; exact List.mem_append_right _ (List.mem_singleton.mpr rfl)
    have r0 : atI [nV l, nV j] (0 : Int) = some (nV l) := atI_nat (j := 0) rfl
    refine ⟨_, rfl, 1, rfl, C, _, _, _, rfl, rfl, SqL.of (sm _ _ hC), ea, b, _, _, _, rfl, rfl, SqT.of (sm _ _ hb), r0, ?_⟩
    dsimp only [gName]
    obtain ⟨zv, hzv, hza⟩ := hz l hlm
    obtain ⟨tv, htv, htd⟩ := ht l hlm
    refine ⟨_, rfl, _, rfl, S, _, rfl, dget_lk hS3 hzv, zv, zF ts ls rs l, rfl, hza, fun hok => ?_, fun hno => q2 hno H3 sm⟩
    exact ⟨_, rfl, _, rfl, R, _, rfl, dget_lk hR3 htv, q1 hok tv H3 sm htd⟩
end

end K64
namespace K64
open PySem L2 Sw
section
variable {P : Program} {w : World} {K : PySem.W.Frag} {mg : Str → Option Value} {base : Heap}
theorem in_nats {z : Nat} {hs : List Nat} : inV (nV z) (hs.map nV) = decide (z ∈ hs) := by
  unfold inV
  induction hs with
  | nil => rfl
  | cons x l ih =>
    rw [List.map_cons, List.any_cons, ih]
    have e : eqV (nV x) (nV z) = decide (x = z) := by
      show (((x : Nat) : Int) == ((z : Nat) : Int)) = _
      rw [Bool.eq_iff_iff, beq_iff_eq, decide_eq_true_iff]
      omega
    rw [e, Bool.eq_iff_iff, Bool.or_eq_true, decide_eq_true_iff, decide_eq_true_iff, decide_eq_true_iff, List.mem_cons]
    exact ⟨fun h => h.elim (fun h => .inl h.symm) .inr, fun h => h.elim (fun h => .inl h.symm) .inr⟩
theorem flat_nats (hs : List Nat) : (hs.map nV).all flatV = true := by
  rw [List.all_eq_true]
  intro y hy
  obtain ⟨z, _, rfl⟩ := List.mem_map.mp hy
  rfl
theorem filt_map (f : Nat → Bool) (n : Nat) : (List.range n).filterMap (fun i : Nat => if f i = true then some (nV i) else none) = ((List.range n).filter f).map nV := by
  induction n with
  | zero => rfl
  | succ n ih =>
    rw [List.range_succ, List.filterMap_append, List.filter_append, List.map_append, ih]
    congr 1
    cases h : f n <;> simp [h]
noncomputable def memF (ls : List Nat) (n m : Nat) : List Nat := (List.range n).filter fun i => decide (ls.getD i 0 = m)
noncomputable def PkI (ls : List Nat) (ts : List Tm) (n : Nat) (pk : DK) : Prop := ∀ k, k < n → ∃ (j : Nat) (t : Tm), valV pk (lk (ls.getD k 0)) = some (nV j) ∧ ts[j]? = some t
inductive SpPicks (vs : List V) (H : Hp) (Q : VK) : Prop
  | mk (T L Z : Addr) (us : List V) (ts : List Tm) (ls : List Nat) (zs : List Int) (z0 : vs = [.ref T, .ref L, .ref Z]) (z1 : H T = some (.lst us)) (z2 : Tms H us ts) (z3 : H L = some (.lst (ls.map nV))) (z4 : PrG ts ls) (z5 : H Z = some (.lst (zs.map V.int))) (z6 : 0 < zs.length) (z7 : ∀ G pk H', Same H H' → H' G = some (.dK pk) → PkI ls ts ts.length pk → Q (.ref G) H') : SpPicks  vs H Q
noncomputable def spPicks : Sp := fun vs H Q _ => SpPicks  vs H Q
inductive PcI (H : Hp) (T L Z G : Addr) (ts : List Tm) (ls : List Nat) (i : Nat) (σ : St) (H' : Hp) : Prop
  | mk : ∀ (pk : DK) (x4 x5 x6 : Option V), (σ = [some (.ref T), some (.ref L), some (.ref Z), some (.ref G), x4, x5, x6]) → (Same H H') → (H' G = some (.dK pk)) → (PkI ls ts i pk) → (pk.length ≤ i) → PcI H T L Z G ts ls i σ H'
theorem ok_picks (B : Blt mg) (D : Def K mg "_law_picks" s_picks ["_law_terms", "_law_leads", "_law_script"]) : Has P w K mg base 1 "_law_picks" ["_law_terms", "_law_leads", "_law_script"] spPicks := by
  refine D.has sc_picks (fun vs H Q E h => ?_) (fun f cdv A outer s H vs Q E hr h => ?_)
  · obtain ⟨T, L, Z, us, ts, ls, zs, rfl, _⟩ := h; rfl
  obtain ⟨T, L, Z, us, ts, ls, zs, rfl, hT, hts, hL, pi, hZ, hzp, q⟩ := h
  refine ⟨_, (pss_cons (ps_set (i := 3) sc_picks.nd rfl (Or.inl rfl) pe_dnewK)
    (pss_cons (ps_for PassesOwn.never rfl (pi_range1 rfl B.range_ (pa_cons (pe_callB call_len_seq rfl B.len_ PySem.boot_len (pa_cons (pv 0) pa_nil)) pa_nil)) (pg_name (i := 4) sc_picks.nd rfl (Or.inr rfl))
    (pss_cons (ps_setCompI (i := 5) sc_picks.nd rfl rfl (te := _) (ct := (tTest (tOp _ (tOp (rIxL K) _ _) (tOp (rIxL K) _ _)))) (own := ["_law_j"]) (caps := [("_law_leads", 1), ("_law_k", 4)]) (comp_scope (defScope s_picks) ["_law_terms", "_law_leads", "_law_script", "_law_picks_here", "_law_k", "_law_some", "_law_cell"] rfl rfl rfl (by decide +kernel)) (pi_range1 rfl B.range_ (pa_cons (pe_callB call_len_seq rfl B.len_ PySem.boot_len (pa_cons (pv 0) pa_nil)) pa_nil)) rfl (fun _ _ _ => pg_name (i := 0) (show (["_law_j", "_law_leads", "_law_k"] : List Str).Nodup by decide +kernel) rfl (Or.inl rfl)) (fun _ _ _ => (pt_cmpR op_eq (pe_ix ix_list (pv 1) (pv 0) (fun _ _ => rfl)) (pe_ix ix_list (pv 1) (pv 2) (fun _ _ => rfl)) (nomark _))) (fun _ _ _ => (pv 0)) rfl)
    (pss_cons (ps_set (i := 6) sc_picks.nd rfl (Or.inl rfl) (pe_ix ix_list (pv 2) (pe_op op_mod (pe_ix ix_list (pv 1) (pv 4) (fun _ _ => rfl)) (pe_callB call_len_seq rfl B.len_ PySem.boot_len (pa_cons (pv 2) pa_nil))) (fun _ _ => rfl)))
    (pss_one (ps_dput (hu_of hr) (pv 3) (pe_ix ix_list (pv 1) (pv 4) (fun _ _ => rfl)) (pe_ix ix_list (pv 5) (pe_op op_mod (pe_op op_mod (pe_op op_mul (pv 6) pe_int) pe_int) (pe_callB call_len_seq rfl B.len_ PySem.boot_len (pa_cons (pv 5) pa_nil))) (fun _ _ => rfl)) rfl)))))
    (pss_one (ps_ret (pv 3))))), ?_⟩
  try dsimp only [cxOf]
  have hut := Paired.length hts
  have few := pi.few
  intro G hG0
  dsimp only [gName]
  have s1 := same_new hG0 (.dK [])
  have hG1 := upd_same (H := H) (a := G) (o := .dK [])
  generalize upd H G (.dK []) = H1 at s1 hG1 ⊢
  refine ⟨_, rfl, T, us, rfl, .inl (SqL.of (s1 _ _ hT)), _, rfl, by omega, by omega, ?_⟩
  rw [Int.toNat_natCast]
  refine for_range (lo := 0) (PcI H T L Z G ts ls) (PcI.mk [] none none none rfl s1 hG1 (fun k hk => absurd hk (Nat.not_lt_zero _)) (Nat.le_refl _)) ?_ ?_
  · rintro i σ H' hi ⟨pk, x4, x5, x6, rfl, sm, hG, hpk, hpl⟩
    have hk0 : i < ts.length := by omega
    have ei : (0 : Int) + (i : Int) = ((i : Nat) : Int) := by omega
    rw [ei]
    dsimp only [gName]
    have hT3 := sm _ _ hT
    have hL3 := sm _ _ hL
    have hZ3 := sm _ _ hZ
    have hli : ls[i]? = some (ls.getD i 0) := getD_at (by rw [pi.len]; exact hk0)
    refine ⟨_, rfl, T, us, rfl, .inl (SqL.of hT3), _, rfl, by omega, by omega, ?_⟩
    rw [Int.toNat_natCast, hut]
    refine compI_range (lo := 0) (fun j => if decide (ls.getD j.toNat 0 = ls.getD i 0) = true then some (nV j.toNat) else none) (by omega) (fun j hj Hc sm R q' => ?_) (fun j v hj e Hc sm Q' q' => ?_) (fun S hS0 => ?_)
    · have e1 : ls[j]? = some (ls.getD j 0) := getD_at (by rw [pi.len]; exact hj)
      have ej : (0 + (j : Int)) = ((j : Nat) : Int) := by omega
      rw [ej] at q' ⊢
      refine ⟨_, rfl, _, rfl, L, _, _, _, rfl, rfl, SqL.of (sm _ _ hL3), nV_at e1, _, rfl, _, rfl, L, _, _, _, rfl, rfl, SqL.of (sm _ _ hL3), nV_at hli, rfl, _, rfl, ?_⟩
      rw [Int.toNat_natCast] at q'
      have e3 : decide (nV (ls.getD j 0) = nV (ls.getD i 0)) = decide (ls.getD j 0 = ls.getD i 0) := decide_eq_decide.mpr ⟨fun z => by have := V.int.inj z; omega, fun z => by rw [z]⟩
      rw [e3]
      cases hd : decide (ls.getD j 0 = ls.getD i 0) with
      | true => rw [hd] at q'; exact q'
      | false => rw [hd] at q'; exact q'
    · have ej : (0 + (j : Int)) = ((j : Nat) : Int) := by omega
      rw [ej] at e ⊢
      rw [Int.toNat_natCast] at e
      split at e
      · have := Option.some.inj e
        subst this
        exact ⟨_, rfl, q'⟩
      · cases e
    have es : ((List.range ts.length).filterMap fun j : Nat => (fun j : Int => if decide (ls.getD j.toNat 0 = ls.getD i 0) = true then some (nV j.toNat) else none) (0 + (j : Int))) = (memF ls ts.length (ls.getD i 0)).map nV := by
      rw [memF, ← filt_map]
      congr 1
      funext j
      have ej : (0 + (j : Int)).toNat = j := by omega
      show (if decide (ls.getD (0 + (j : Int)).toNat 0 = ls.getD i 0) = true then some (nV (0 + (j : Int)).toNat) else none) = _
      rw [ej]
    rw [es]
    dsimp only [gName]
    have hmem0 : i ∈ memF ls ts.length (ls.getD i 0) := List.mem_filter.mpr ⟨List.mem_range.mpr hk0, decide_eq_true rfl⟩
    have hmem : ∀ k ∈ memF ls ts.length (ls.getD i 0), k < ts.length := fun k hk => List.mem_range.mp (List.mem_filter.mp hk).1
    have hml : 0 < (memF ls ts.length (ls.getD i 0)).length := List.length_pos_of_mem hmem0
    have s4 := same_new hS0 (.lst ((memF ls ts.length (ls.getD i 0)).map nV))
    have hS4 := upd_same (H := H') (a := S) (o := .lst ((memF ls ts.length (ls.getD i 0)).map nV))
    generalize upd H' S (.lst ((memF ls ts.length (ls.getD i 0)).map nV)) = H4 at s4 hS4 ⊢
    generalize memF ls ts.length (ls.getD i 0) = ms at hS4 hmem hml hmem0
    have b0 : 0 ≤ ((ls.getD i 0 : Nat) : Int) % (((zs.map V.int).length : Nat) : Int) := Int.emod_nonneg _ (by rw [List.length_map]; omega)
    have b1 : ((ls.getD i 0 : Nat) : Int) % (((zs.map V.int).length : Nat) : Int) < (((zs.map V.int).length : Nat) : Int) := Int.emod_lt_of_pos _ (by rw [List.length_map]; omega)
    obtain ⟨y, hy, hym⟩ := atI_ex (xs := zs.map V.int) b0 b1
    obtain ⟨cz, _, rfl⟩ := List.mem_map.mp hym
    refine ⟨_, rfl, _, rfl, _, rfl, L, _, _, _, rfl, rfl, SqL.of (s4 _ _ hL3), nV_at hli, _, rfl, Z, _, rfl, .inl (SqL.of (s4 _ _ hZ3)), _, _, rfl, rfl, (by rw [List.length_map]; omega), Z, _, _, _, rfl, rfl, SqL.of (s4 _ _ hZ3), hy, ?_⟩
    dsimp only [gName]
    have c0 : 0 ≤ cz * 39373 % 2147483549 % (((ms.map nV).length : Nat) : Int) := Int.emod_nonneg _ (by rw [List.length_map]; omega)
    have c1 : cz * 39373 % 2147483549 % (((ms.map nV).length : Nat) : Int) < (((ms.map nV).length : Nat) : Int) := Int.emod_lt_of_pos _ (by rw [List.length_map]; omega)
    obtain ⟨y1, hy1, hym1⟩ := atI_ex (xs := ms.map nV) c0 c1
    obtain ⟨k1, hk1, rfl⟩ := List.mem_map.mp hym1
    have hk1n := hmem k1 hk1
    refine ⟨_, rfl, _, rfl, _, _, rfl, rfl, .inr ⟨by decide, by decide⟩, _, _, rfl, rfl, pos', _, rfl, S, _, rfl, .inl (SqL.of hS4), _, _, rfl, rfl, (by rw [List.length_map]; omega), S, _, _, _, rfl, rfl, SqL.of hS4, hy1, ?_⟩
    refine ⟨_, rfl, _, rfl, _, rfl, L, _, _, _, rfl, rfl, SqL.of (s4 _ _ hL3), nV_at hli, G, _, rfl, DPut.k (k := lk (ls.getD i 0)) (s4 _ _ hG) (small1000 (by omega)), ?_⟩
    refine PcI.mk (putK pk (lk (ls.getD i 0)) (nV k1)) _ _ _ rfl ((sm.trans s4).put hG0) upd_same (fun k hk => ?_) ?_
    · rw [valV_put]
      by_cases e : lk (ls.getD k 0) = lk (ls.getD i 0)
      · rw [if_pos e]
        exact ⟨k1, _, rfl, List.getElem?_eq_getElem hk1n⟩
      · rw [if_neg e]
        by_cases eki : k = i
        · subst eki; exact absurd rfl e
        · exact hpk k (by omega)
    · have := length_putK pk (lk (ls.getD i 0)) (nV k1)
      omega
  · rintro σ H' ⟨pk, x4, x5, x6, rfl, sm, hG, hpk, hpl⟩
    rw [hut] at hpk
    exact ⟨_, rfl, q G pk H' sm hG hpk⟩
end

end K64
namespace K64
open PySem L2 Sw
section
variable {P : Program} {w : World} {K : PySem.W.Frag} {mg : Str → Option Value} {base : Heap}
theorem rd_set {v : V} {i : Nat} {rest : TS} {D : Ends} {σ : St} {H : Hp} (h : rest D (σ.set i (some v)) H) : tSeq (tAsg (tC v) (gName i)) rest D σ H := h
theorem paired_mapR {α β γ : Type} {R : α → β → Prop} {S : α → γ → Prop} {f : β → γ} : ∀ {xs : List α} {ys : List β}, Paired R xs ys → (∀ x y, R x y → S x (f y)) → Paired S xs (ys.map f)
  | _, _, .nil, _ => .nil
  | _, _, .cons h r, q => .cons (q _ _ h) (paired_mapR r q)
inductive SpRows (vs : List V) (H : Hp) (Q : VK) : Prop
  | mk (T L G : Addr) (us : List V) (ts : List Tm) (ls : List Nat) (pk : DK) (l : Nat) (z0 : vs = [.ref T, .ref L, .ref G, nV l]) (z1 : H T = some (.lst us)) (z2 : Tms H us ts) (z3 : H L = some (.lst (ls.map nV))) (z4 : PrG ts ls) (z5 : H G = some (.dK pk)) (z6 : PkI ls ts ts.length pk) (z7 : (∃ k, k < ts.length ∧ ls.getD k 0 = l)) (z8 : (∀ H', Same H H' → ¬ Ranked ls ts pk → Q .non H')) (z9 : ∀ N rvs rs l' H', Same H H' → H' N = some (.lst rvs) → Paired (PairAt H') rvs rs → ChG ts ls rs → rs.length ≤ ts.length → (∃ r0 k, rs = r0 ++ [(l', k)]) → Q (.ref N) H') : SpRows  vs H Q
noncomputable def spRows : Sp := fun vs H Q _ => SpRows  vs H Q
inductive WtI (H : Hp) (T L G W : Addr) (ts : List Tm) (ls : List Nat) (pk : DK) (l : Nat) (m : Nat) (σ : St) (H' : Hp) : Prop
  | mk : ∀ (ws : List Nat) (n : Nat) (x6 : Option V), (σ = [some (.ref T), some (.ref L), some (.ref G), some (nV l), some (.ref W), some (nV n), x6, none, none, none, none, none]) → (Same H H') → (H' W = some (.lst (ws.map nV))) → (WInv ts ls l ws) → (n ≤ ws.length) →
      (∀ i w, i < n → ws[i]? = some w → ∀ b ∈ pkA ls ts pk w, b ∈ ws) → (m = ts.length - n) → WtI H T L G W ts ls pk l m σ H'
inductive WaI (H : Hp) (T L G W N : Addr) (ts : List Tm) (ls : List Nat) (pk : DK) (l n : Nat) (w0 : List Nat) (t : Tm) (i : Nat) (σ : St) (H' : Hp) : Prop
  | mk : ∀ (ws : List Nat) (x6 : Option V), (σ = [some (.ref T), some (.ref L), some (.ref G), some (nV l), some (.ref W), some (nV n), x6, none, none, none, none, none]) → (Same H H') → (H' N = some (.lst ((armsF t).map nV))) → (H' W = some (.lst (ws.map nV))) → (WInv ts ls l ws) → (∃ more, ws = w0 ++ more) →
      (∀ b ∈ ((armsF t).take i).map (fun a => ls.getD a 0), b ∈ ws) → WaI H T L G W N ts ls pk l n w0 t i σ H'
inductive RoI (H : Hp) (T L G W N Y : Addr) (ts : List Tm) (ls : List Nat) (pk : DK) (l : Nat) (x5 x6 : Option V) (ws : List Nat) (R : List Rw → Prop) (σ : St) (H' : Hp) : Prop
  | mk : ∀ (rs : List Rw) (rvs : List V) (x9 x10 x11 : Option V), (σ = [some (.ref T), some (.ref L), some (.ref G), some (nV l), some (.ref W), x5, x6, some (.ref N), some (.ref Y), x9, x10, x11]) → (Same H H') → (H' W = some (.lst (ws.map nV))) → (H' N = some (.lst rvs)) → (Paired (PairAt H') rvs rs) → (H' Y = some (.dK (dictN (rs.map (·.1))))) →
      (RwI ts ls ws rs) → (R rs) → RoI H T L G W N Y ts ls pk l x5 x6 ws R σ H'
theorem all_dec {ks bs : List Nat} : (bs.map fun b => decide (b ∈ ks)).all id = decide (∀ b ∈ bs, b ∈ ks) := by
  rw [Bool.eq_iff_iff, List.all_eq_true, decide_eq_true_iff]
  constructor
  · intro h b hb
    exact of_decide_eq_true (h _ (List.mem_map.mpr ⟨b, hb, rfl⟩))
  · intro h x hx
    obtain ⟨b, hb, rfl⟩ := List.mem_map.mp hx
    exact decide_eq_true (h b hb)
theorem ok_rows (B : Blt mg) (b_all : mg "all" = none) (b_reversed : mg "reversed" = none) (h_arms : Has P w K mg base 1 "_law_arms" ["_law_term_here"] spArmsL) (D : Def K mg "_law_rows" s_rows ["_law_terms", "_law_leads", "_law_picks_here", "_law_lead"]) :
    Has P w K mg base 2 "_law_rows" ["_law_terms", "_law_leads", "_law_picks_here", "_law_lead"] spRows := by
  refine D.has sc_rows (fun vs H Q E h => ?_) (fun f cdv A outer s H vs Q E hr h => ?_)
  · obtain ⟨T, L, G, us, ts, ls, pk, l, rfl, _⟩ := h; rfl
  obtain ⟨T, L, G, us, ts, ls, pk, l, rfl, hT, hts, hL, pi, hG, hpk, hl, qn, q⟩ := h
  refine ⟨_, (pss_cons (ps_set (i := 4) sc_rows.nd rfl (Or.inl rfl) (pe_lst (pa_cons (pv 3) pa_nil)))
    (pss_cons (ps_set (i := 5) sc_rows.nd rfl (Or.inl rfl) pe_int)
    (pss_cons (ps_while PassesOwn.never (pt_cmpR op_lt (pv 5) (pe_callB call_len_seq rfl B.len_ PySem.boot_len (pa_cons (pv 4) pa_nil)) (nomark _))
    (pss_cons (ps_for PassesOwn.never rfl (pi_list (pe_callH h_arms hr (by omega) rfl (pa_cons (pe_ix ix_list (pv 0) (pe_dget (hu_of hr) (pv 2) (pe_ix ix_list (pv 4) (pv 5) (fun _ _ => rfl)) (fun _ _ => rfl)) (fun _ _ => rfl)) pa_nil))) (pg_name (i := 6) sc_rows.nd rfl (Or.inl rfl))
    (pss_one (ps_if (pt_cmpR op_notIn_seq (pe_ix ix_list (pv 1) (pv 6) (fun _ _ => rfl)) (pv 4) (by with_unfolding_all rfl)) (pss_one (ps_expr (pe_bm PySem.F.plainAttrs_list PySem.F.slot_list_append PySem.F.type_list_append mt_append (pv 4) (pa_cons (pe_ix ix_list (pv 1) (pv 6) (fun _ _ => rfl)) pa_nil)))) pss_nil)))
    (pss_one (ps_aug (i := 5) sc_rows.nd rfl (Or.inl rfl) pe_int ip_add))))
    (pss_cons (ps_set (i := 7) sc_rows.nd rfl (Or.inl rfl) (pe_lst pa_nil))
    (pss_cons (ps_set (i := 8) sc_rows.nd rfl (Or.inr rfl) pe_dnewK)
    (pss_cons (ps_for PassesOwn.never rfl (pi_range1 rfl B.range_ (pa_cons (pe_callB call_len_seq rfl B.len_ PySem.boot_len (pa_cons (pv 4) pa_nil)) pa_nil)) (pg_name (i := 9) sc_rows.nd rfl (Or.inl rfl))
    (pss_one (ps_for PassesOwn.never rfl (pi_rev rfl b_reversed (pv 4)) (pg_name (i := 10) sc_rows.nd rfl (Or.inl rfl))
    (pss_cons (ps_setComp (i := 11) sc_rows.nd rfl rfl (te := (tOp (rIxL K) _ _)) (own := ["_law_arm"]) (caps := [("_law_leads", 1)]) (comp_scope (defScope s_rows) ["_law_terms", "_law_leads", "_law_picks_here", "_law_lead", "_law_wanted", "_law_at", "_law_arm", "_law_rows_here", "_law_there", "_law_again", "_law_one", "_law_below"] rfl rfl rfl (by decide +kernel)) (pi_list (pe_callH h_arms hr (by omega) rfl (pa_cons (pe_ix ix_list (pv 0) (pe_dget (hu_of hr) (pv 2) (pv 10) (fun _ _ => rfl)) (fun _ _ => rfl)) pa_nil))) rfl (fun _ _ _ => pg_name (i := 0) (show (["_law_arm", "_law_leads"] : List Str).Nodup by decide +kernel) rfl (Or.inl rfl)) (fun _ _ _ => (pe_ix ix_list (pv 1) (pv 0) (fun _ _ => rfl))) rfl)
    (pss_one (ps_if (PW.pt (pw_and (pt_cmp (pc_dnotin (hu_of hr) (pv 10) (pv 8)) (by with_unfolding_all rfl)) (pw_and1 (pt_val (pe_callB (call_allL rfl) rfl b_all boot_all_ (pa_cons (pe_comp (te := _) (own := ["_law_lower"]) (caps := [("_law_there", 8)]) (comp_scope (defScope s_rows) ["_law_terms", "_law_leads", "_law_picks_here", "_law_lead", "_law_wanted", "_law_at", "_law_arm", "_law_rows_here", "_law_there", "_law_again", "_law_one", "_law_below"] rfl rfl rfl (by decide +kernel)) (pi_list (pv 11)) rfl (fun _ _ _ => pg_name (i := 0) (show (["_law_lower", "_law_there"] : List Str).Nodup by decide +kernel) rfl (Or.inl rfl)) (fun _ _ _ => (pe_cmp (pc_din (hu_of hr) (pv 0) (pv 1)) (by with_unfolding_all rfl)))) pa_nil)))))) (pss_cons (ps_expr (pe_bm PySem.F.plainAttrs_list PySem.F.slot_list_append PySem.F.type_list_append mt_append (pv 7) (pa_cons (pe_tup (pa_cons (pv 10) (pa_cons (pe_dget (hu_of hr) (pv 2) (pv 10) (fun _ _ => rfl)) pa_nil))) pa_nil)))
    (pss_one (ps_dput (hu_of hr) (pv 8) (pv 10) pe_bl rfl))) pss_nil))))))
    (pss_cons (ps_if (pt_cmpR op_lt (pe_callB call_len_seq rfl B.len_ PySem.boot_len (pa_cons (pv 7) pa_nil)) (pe_callB call_len_seq rfl B.len_ PySem.boot_len (pa_cons (pv 4) pa_nil)) (nomark _)) (pss_one (ps_ret pe_non)) pss_nil)
    (pss_one (ps_ret (pv 7)))))))))), ?_⟩
  try dsimp only [cxOf]
  have hut := Paired.length hts
  have few := pi.few
  have pick : ∀ {ws : List Nat} {m : Nat}, WInv ts ls l ws → m ∈ ws → ∃ j t v, valV pk (lk m) = some (nV j) ∧ ts[j]? = some t ∧ us[j]? = some v ∧ IsTm H t v := fun {ws m} wi hm => by
    obtain ⟨k, hk, rfl⟩ := wi.lead m hm
    obtain ⟨j, t, h1, h2⟩ := hpk k hk
    obtain ⟨v, hv⟩ : ∃ v, us[j]? = some v := ⟨_, List.getElem?_eq_getElem (by rw [hut]; exact (List.getElem?_eq_some_iff.mp h2).1)⟩
    obtain ⟨t', ht', hvt⟩ := tms_at hts hv
    rw [h2] at ht'
    cases ht'
    exact ⟨j, t, v, h1, h2, hv, hvt⟩
  refine ⟨_, rfl, (show 1 ≤ sizeLine by decide), fun W hW0 => ?_⟩
  dsimp only [gName]
  have s1 := same_new hW0 (.lst ([l].map nV))
  have hW1 := upd_same (H := H) (a := W) (o := .lst ([l].map nV))
  show tSeq _ _ _ _ (upd H W (.lst ([l].map nV)))
  generalize upd H W (.lst ([l].map nV)) = H1 at s1 hW1 ⊢
  refine rd_set ?_
  refine ⟨WtI H T L G W ts ls pk l, ⟨_, WtI.mk [l] 0 none rfl s1 hW1 (WInv.start hl) (Nat.zero_le _) (fun i w hi => absurd hi (Nat.not_lt_zero _)) rfl⟩, ?_⟩
  rintro m σ H2 ⟨ws, n, x6, rfl, s2, hW2, wi, hn, hcl, rfl⟩
  have hwl := wi.len pi
  have hwm : (ws.map nV).length = ws.length := List.length_map ..
  refine ⟨_, rfl, _, rfl, W, _, rfl, .inl (SqL.of hW2), _, _, rfl, rfl, _, rfl, iteD (fun hlt => ?_) (fun hge => ?_)⟩
  · have hnl : n < ws.length := by rw [hwm] at hlt; omega
    have hw : ws[n]? = some ws[n] := List.getElem?_eq_getElem hnl
    generalize ws[n] = wn at hw
    obtain ⟨j, t, v, hj, ht, hv, hvt⟩ := pick wi (List.mem_of_getElem? hw)
    have arm := pi.armIn ht
    have hpa := pkA_at (ls := ls) hj ht
    refine ⟨fun σ' H' => ∃ m', m' < ts.length - n ∧ WtI H T L G W ts ls pk l m' σ' H', fun σ' H' h => h, ?_⟩
    refine rd_cut (fun σ' H' => ∃ N, WaI H T L G W N ts ls pk l n ws t (armsF t).length σ' H') ?_ (fun key => ?_)
    rotate_left
    · refine ⟨_, rfl, _, rfl, _, rfl, _, rfl, W, _, _, _, rfl, rfl, SqL.of hW2, nV_at hw, G, _, rfl, dget_lk (s2 _ _ hG) hj, T, _, _, _, rfl, rfl, SqL.of (s2 _ _ hT), atI_nat hv, v, t, rfl, hvt.same s2, fun N H3 s3 hN0 hN => ⟨N, rfl, ⟨_, SqL.of hN⟩, ?_⟩⟩
      have hNW : N ≠ W := (ne_of_none hW2 hN0).symm
      refine for_list (xs := (armsF t).map nV) (WaI H T L G W N ts ls pk l n ws t) (WaI.mk ws x6 rfl (s2.trans s3) hN (s3 _ _ hW2) wi ⟨[], by simp⟩ (fun b hb => by rw [List.take_zero] at hb; cases hb)) ?_ ?_ ?_
      · rintro i σ H' _ ⟨ws2, x6, rfl, sm, hN', _⟩
        exact SqL.of hN'
      · rintro i y σ H' hy ⟨ws2, x6, rfl, sm, hN', hW', wi2, hmore, hb⟩
        rw [List.getElem?_map] at hy
        cases ea : (armsF t)[i]? with
        | none => rw [ea] at hy; cases hy
        | some a =>
          rw [ea] at hy
          have ey : nV a = y := Option.some.inj hy
          subst ey
          have hal := arm.2 a (List.mem_of_getElem? ea)
          have hwl2 := wi2.len pi
          have htk : ((armsF t).take (i + 1)).map (fun a => ls.getD a 0) = ((armsF t).take i).map (fun a => ls.getD a 0) ++ [ls.getD a 0] := by rw [take_snoc ea, List.map_append]; rfl
          dsimp only [gName]
          refine ⟨_, rfl, _, rfl, L, _, _, _, rfl, rfl, SqL.of (sm _ _ hL), nV_at (getD_at hal), _, rfl, W, _, rfl, .inl (SqL.of hW'), rfl, flat_nats ws2, _, rfl, ?_⟩
          have e0 : (if true = true then !inV (nV (ls.getD a 0)) (ws2.map nV) else inV (nV (ls.getD a 0)) (ws2.map nV)) = !decide (ls.getD a 0 ∈ ws2) := by rw [if_pos rfl, in_nats]
          rw [e0]
          refine iteDN (fun hnin => ?_) (fun hin => WaI.mk ws2 _ rfl sm hN' hW' wi2 hmore (fun b hb' => ?_))
          · refine ⟨_, rfl, .inl ⟨rfl, _, SqL.of hW'⟩, _, rfl, _, rfl, L, _, _, _, rfl, rfl, SqL.of (sm _ _ hL), nV_at (getD_at hal), W, _, _, rfl, rfl, hW', small1000 (by rw [List.length_map]; omega), WaI.mk (ws2 ++ [ls.getD a 0]) _ rfl (sm.put hW0) ?_ ?_ (wi2.add (by rw [← pi.len]; exact hal) hnin) ?_ (fun b hb' => ?_)⟩
            · rw [upd_ne hNW]; exact hN'
            · rw [upd_same, List.map_append]; rfl
            · obtain ⟨more, e⟩ := hmore
              exact ⟨more ++ [ls.getD a 0], by rw [e, List.append_assoc]⟩
            · rw [htk] at hb'
              rcases List.mem_append.mp hb' with z | z
              · exact List.mem_append_left _ (hb b z)
              · exact List.mem_append_right _ z
          · rw [htk] at hb'
            rcases List.mem_append.mp hb' with z | z
            · exact hb b z
            · rw [List.mem_singleton.mp z]; exact hin
      · rintro σ H' h
        rw [List.length_map] at h
        exact key _ _ ⟨N, h⟩
    rintro σ' H3 ⟨N, ws2, x6, rfl, s3, _, hW3, wi2, ⟨more, rfl⟩, hb⟩
    rw [List.take_length] at hb
    refine ⟨_, rfl, _, _, rfl, rfl, ts.length - (n + 1), by omega, WtI.mk (ws ++ more) (n + 1) _ rfl s3 hW3 wi2 (by rw [List.length_append]; omega) (fun i w hi hwi b hb' => ?_) rfl⟩
    by_cases hin : i < n
    · rw [List.getElem?_append_left (by omega)] at hwi
      exact List.mem_append_left _ (hcl i w hin hwi b hb')
    · have e : i = n := by omega
      subst e
      rw [List.getElem?_append_left hnl, hw] at hwi
      have e := Option.some.inj hwi
      subst e
      rw [hpa] at hb'
      exact hb b hb'
  · have hnl : n = ws.length := by rw [hwm] at hge; omega
    have hcl2 : ∀ w ∈ ws, ∀ b ∈ pkA ls ts pk w, b ∈ ws := fun w hw b hb => by
      obtain ⟨i, hi⟩ := List.getElem?_of_mem hw
      have := (List.getElem?_eq_some_iff.mp hi).1
      exact hcl i w (by omega) hi b hb
    refine ⟨Nat.zero_le _, fun N hN0 => ?_⟩
    dsimp only [gName]
    have hN00 : H N = none := s2.free hN0
    have hNW : N ≠ W := (ne_of_none hW2 hN0).symm
    have s3 := s2.trans (same_new hN0 (.lst []))
    have hW3 := (same_new hN0 (.lst [])) _ _ hW2
    have hN3 := upd_same (H := H2) (a := N) (o := .lst [])
    generalize upd H2 N (.lst []) = H3 at s3 hW3 hN3 ⊢
    intro Y hY0
    dsimp only [gName]
    have hY00 : H Y = none := s3.free hY0
    have hYW : Y ≠ W := (ne_of_none hW3 hY0).symm
    have hYN : Y ≠ N := (ne_of_none hN3 hY0).symm
    have s4 := s3.trans (same_new hY0 (.dK []))
    have hW4 := (same_new hY0 (.dK [])) _ _ hW3
    have hN4 := (same_new hY0 (.dK [])) _ _ hN3
    have hY4 := upd_same (H := H3) (a := Y) (o := .dK [])
    generalize upd H3 Y (.dK []) = H4 at s4 hW4 hN4 hY4 ⊢
    refine ⟨_, rfl, W, _, rfl, .inl (SqL.of hW4), _, rfl, by omega, by omega, ?_⟩
    rw [Int.toNat_natCast, hwm]
    refine for_range (lo := 0) (fun i => RoI H T L G W N Y ts ls pk l (some (nV n)) x6 ws fun rs => Ranked ls ts pk → i ≤ rs.length) (RoI.mk [] [] none none none rfl s4 hW4 hN4 .nil hY4 RwI.nil (fun _ => Nat.zero_le _)) ?_ ?_
    · rintro i σ H5 hi ⟨rs0, rv0, x9, x10, x11, rfl, s5, hW5, hN5, hp5, hY5, rw5, hrk⟩
      dsimp only [gName]
      refine ⟨_, rfl, W, _, rfl, hW5, ?_⟩
      refine for_rev (xs := ws.map nV) (fun i2 => RoI H T L G W N Y ts ls pk l (some (nV n)) x6 ws fun rs => (∃ more, rs = rs0 ++ more) ∧ ∀ j, ws.length - i2 ≤ j → ∀ w, ws[j]? = some w → (∀ b ∈ pkA ls ts pk w, b ∈ rs0.map (·.1)) → w ∈ rs.map (·.1))
        (RoI.mk rs0 rv0 _ _ _ rfl s5 hW5 hN5 hp5 hY5 rw5 ⟨⟨[], by simp⟩, fun j hj w hw => by have := (List.getElem?_eq_some_iff.mp hw).1; omega⟩) ?_ ?_ ?_
      · rintro i2 σ H' _ ⟨rs, rvs, x9, x10, x11, rfl, sm, hW', _⟩
        exact hW'
      · rintro i2 x σ H6 hi2 hx ⟨rs, rvs, x9, x10, x11, rfl, s6, hW6, hN6, hp6, hY6, rw6, hmore, hvis⟩
        rw [hwm] at hi2 hx
        rw [List.getElem?_map] at hx
        cases ew : ws[ws.length - 1 - i2]? with
        | none => rw [ew] at hx; cases hx
        | some wx =>
        rw [ew] at hx
        have ex : nV wx = x := Option.some.inj hx
        subst ex
        have hwx := List.mem_of_getElem? ew
        obtain ⟨j, t, v, hj, ht, hv, hvt⟩ := pick wi hwx
        have arm := pi.armIn ht
        have hpa := pkA_at (ls := ls) hj ht
        have rl := rw6.len
        have hpl := Paired.length hp6
        have hnext : ∀ rs', (∃ more, rs' = rs ++ more) → ((∀ b ∈ pkA ls ts pk wx, b ∈ rs0.map (·.1)) → wx ∈ rs'.map (·.1)) → (∃ more, rs' = rs0 ++ more) ∧ ∀ j, ws.length - (i2 + 1) ≤ j → ∀ w, ws[j]? = some w → (∀ b ∈ pkA ls ts pk w, b ∈ rs0.map (·.1)) → w ∈ rs'.map (·.1) := fun rs' h1 h2 => by
          obtain ⟨m1, e1⟩ := h1
          obtain ⟨m0, e0⟩ := hmore
          refine ⟨⟨m0 ++ m1, by rw [e1, e0, List.append_assoc]⟩, fun j' hj' w hw' hb => ?_⟩
          by_cases e : j' = ws.length - 1 - i2
          · subst e
            rw [ew] at hw'
            have e := Option.some.inj hw'
            subst e
            exact h2 hb
          · rw [e1, List.map_append]
            exact List.mem_append_left _ (hvis j' (by omega) w hw' hb)
        have hsub : ∀ b ∈ rs0.map (·.1), b ∈ rs.map (·.1) := fun b hb => by
          obtain ⟨m0, e0⟩ := hmore
          rw [e0, List.map_append]
          exact List.mem_append_left _ hb
        dsimp only [gName]
        refine ⟨_, rfl, _, rfl, _, rfl, G, _, rfl, dget_lk (s6 _ _ hG) hj, T, _, _, _, rfl, rfl, SqL.of (s6 _ _ hT), atI_nat hv, v, t, rfl, hvt.same s6, fun Na H7 s7 _ hNa => ⟨Na, rfl, ⟨_, SqL.of hNa⟩, ?_⟩⟩
        refine comp_list (xs := (armsF t).map nV) (fun x => nV (ls.getD (vI x).toNat 0)) (SqL.of hNa) (by rw [List.length_map]; exact arm.1) (fun x hx H' sm' Q' q' => ?_) (fun D2 hD2 => ?_)
        · obtain ⟨a, ha, rfl⟩ := List.mem_map.mp hx
          have ev : (vI (nV a)).toNat = a := by show ((a : Nat) : Int).toNat = a; omega
          rw [ev] at q'
          exact ⟨_, rfl, _, rfl, L, _, _, _, rfl, rfl, SqL.of ((s6.trans (s7.trans sm')) _ _ hL), nV_at (getD_at (arm.2 a ha)), q'⟩
        have es : ((armsF t).map nV).map (fun x => nV (ls.getD (vI x).toNat 0)) = (pkA ls ts pk wx).map nV := by
          rw [hpa, List.map_map, List.map_map]
          refine List.map_congr_left fun a _ => ?_
          show nV (ls.getD ((a : Nat) : Int).toNat 0) = nV (ls.getD a 0)
          rw [Int.toNat_natCast]
        rw [es]
        have hbl : (pkA ls ts pk wx).length ≤ 1000 := by rw [hpa, List.length_map]; exact arm.1
        have harm : ∀ b ∈ (armsF t).map (fun a => ls.getD a 0), b ∈ pkA ls ts pk wx := fun b hb => by rw [hpa]; exact hb
        generalize pkA ls ts pk wx = bel at hbl harm hnext
        dsimp only [gName]
        have k68 := s7.trans (same_new hD2 (.lst (bel.map nV)))
        have hD8 := upd_same (H := H7) (a := D2) (o := .lst (bel.map nV))
        generalize upd H7 D2 (.lst (bel.map nV)) = H8 at k68 hD8 ⊢
        have hY8 := k68 _ _ hY6
        refine ⟨_, rfl, _, rfl, Y, _, rfl, DGet.k (k := lk wx) hY8, _, rfl, ?_⟩
        rw [val_dictN]
        by_cases hin : wx ∈ rs.map (·.1)
        · rw [decide_eq_true hin]
          exact iteF (iteF (RoI.mk rs rvs _ _ _ rfl (s6.trans k68) (k68 _ _ hW6) (k68 _ _ hN6) (Paired.mapP hp6 fun _ _ z => z.keep fun b ys => k68 _ _) hY8 rw6 (hnext rs ⟨[], by simp⟩ fun _ => hin)))
        rw [decide_eq_false hin]
        refine iteT ?_
        refine ⟨_, rfl, D2, rfl, ⟨_, SqL.of hD8⟩, ?_⟩
        refine comp_list (xs := bel.map nV) (fun x => .bl (decide ((vI x).toNat ∈ rs.map (·.1)))) (SqL.of hD8) (by rw [List.length_map]; exact hbl) (fun x hx H' sm' Q' q' => ?_) (fun D3 hD3 => ?_)
        · obtain ⟨b, hb, rfl⟩ := List.mem_map.mp hx
          have ev : (vI (nV b)).toNat = b := by show ((b : Nat) : Int).toNat = b; omega
          rw [ev, ← val_dictN] at q'
          exact ⟨_, rfl, _, rfl, Y, _, rfl, DGet.k (k := lk b) (sm' _ _ hY8), q'⟩
        have es2 : (bel.map nV).map (fun x => V.bl (decide ((vI x).toNat ∈ rs.map (·.1)))) = (bel.map fun b => decide (b ∈ rs.map (·.1))).map V.bl := by
          rw [List.map_map, List.map_map]
          refine List.map_congr_left fun b _ => ?_
          show V.bl (decide (((b : Nat) : Int).toNat ∈ rs.map (·.1))) = V.bl (decide (b ∈ rs.map (·.1)))
          rw [Int.toNat_natCast]
        rw [es2]
        have k69 := k68.trans (same_new hD3 (.lst ((bel.map fun b => decide (b ∈ rs.map (·.1))).map V.bl)))
        refine ⟨D3, _, rfl, SqL.of upd_same, _, rfl, ?_⟩
        generalize upd H8 D3 (.lst ((bel.map fun b => decide (b ∈ rs.map (·.1))).map V.bl)) = H9 at k69 ⊢
        rw [all_dec]
        have s9 := s6.trans k69
        have hN9 := k69 _ _ hN6
        have hY9 := k69 _ _ hY6
        have hW9 := k69 _ _ hW6
        have hp9 : Paired (PairAt H9) rvs rs := Paired.mapP hp6 fun _ _ z => z.keep fun b ys => k69 _ _
        refine iteD (fun hall => ?_) (fun hno => RoI.mk rs rvs _ _ _ rfl s9 hW9 hN9 hp9 hY9 rw6 (hnext rs ⟨[], by simp⟩ fun z => absurd (fun b hb => hsub b (z b hb)) hno))
        refine ⟨_, rfl, .inl ⟨rfl, _, SqL.of hN9⟩, _, rfl, _, rfl, _, rfl, G, _, rfl, dget_lk (s9 _ _ hG) hj, (show 2 ≤ sizeLine by decide), fun p hp => ?_⟩
        have kp := same_new hp (.tup [nV wx, nV j])
        have hp10 := upd_same (H := H9) (a := p) (o := .tup [nV wx, nV j])
        generalize upd H9 p (.tup [nV wx, nV j]) = H10 at kp hp10 ⊢
        have hN10 := kp _ _ hN9
        have hY10 := kp _ _ hY9
        refine ⟨N, rvs, .ref p, rfl, rfl, hN10, small1000 (by omega), ?_⟩
        have k11 : ∀ b ys, H10 b = some (.tup ys) → (upd H10 N (.lst (rvs ++ [.ref p]))) b = some (.tup ys) := fun b ys e => by rw [upd_ne (ne_of e hN10 (fun z => nomatch z))]; exact e
        have s11 := (s9.trans kp).put (o := .lst (rvs ++ [.ref p])) hN00
        have hY11 : (upd H10 N (.lst (rvs ++ [.ref p]))) Y = some (.dK (dictN (rs.map (·.1)))) := by rw [upd_ne hYN]; exact hY10
        have hW11 : (upd H10 N (.lst (rvs ++ [.ref p]))) W = some (.lst (ws.map nV)) := by rw [upd_ne hNW.symm]; exact kp _ _ hW9
        have hN11 := upd_same (H := H10) (a := N) (o := .lst (rvs ++ [.ref p]))
        generalize upd H10 N (.lst (rvs ++ [.ref p])) = H11 at k11 s11 hY11 hW11 hN11 ⊢
        refine ⟨_, rfl, _, rfl, Y, _, rfl, DPut.k (k := lk wx) hY11 (small1000 (by unfold dictN; rw [List.length_map, List.length_map]; omega)), ?_⟩
        rw [put_dictN hin]
        have k12 : ∀ b ys, H11 b = some (.tup ys) → (upd H11 Y (.dK (dictN (rs.map (·.1) ++ [wx])))) b = some (.tup ys) := fun b ys e => by rw [upd_ne (ne_of e hY11 (fun z => nomatch z))]; exact e
        refine RoI.mk (rs ++ [(wx, j)]) (rvs ++ [.ref p]) _ _ _ rfl (s11.put hY00) ?_ ?_ ?_ ?_ (rw6.add hwx hin ht fun b hb => hall b (harm b hb)) (hnext _ ⟨_, rfl⟩ fun _ => ?_)
        · rw [upd_ne hYW.symm]; exact hW11
        · rw [upd_ne hYN.symm]; exact hN11
        · exact Paired.snoc (Paired.mapP hp9 fun _ _ z => z.keep fun b ys e => k12 _ _ (k11 _ _ (kp _ _ e))) ⟨p, rfl, k12 _ _ (k11 _ _ hp10)⟩
        · rw [upd_same, List.map_append]; rfl
        · rw [List.map_append]; exact List.mem_append_right _ (List.mem_singleton.mpr rfl)
      · rintro σ H6 ⟨rs, rvs, x9, x10, x11, rfl, s6, hW6, hN6, hp6, hY6, rw6, hmore, hvis⟩
        rw [hwm] at hvis
        refine RoI.mk rs rvs _ _ _ rfl s6 hW6 hN6 hp6 hY6 rw6 fun hr' => ?_
        have h1 := rank_step (R0 := rs0.map (·.1)) (R1 := rs.map (·.1)) hr' wi.nd hcl2 (fun w hw hb => by
          obtain ⟨j', hj'⟩ := List.getElem?_of_mem hw
          exact hvis j' (by omega) w hj' hb) (fun x hx => by
          obtain ⟨m0, e0⟩ := hmore
          rw [e0, List.map_append]
          exact List.mem_append_left _ hx) rw5.nd (i := i) hi (by rw [List.length_map]; exact hrk hr')
        rw [List.length_map] at h1
        exact h1
    · rintro σ H5 ⟨rs, rvs, x9, x10, x11, rfl, s5, hW5, hN5, hp5, hY5, rw5, hrk⟩
      have hpl := Paired.length hp5
      refine ⟨_, rfl, N, _, rfl, .inl (SqL.of hN5), _, rfl, W, _, rfl, .inl (SqL.of hW5), _, _, rfl, rfl, _, rfl, iteD (fun hlt => ?_) (fun hge => ?_)⟩
      · refine qn H5 s5 fun z => ?_
        have := hrk z
        rw [hwm] at hlt
        omega
      · have h1 := List.length_pos_of_mem wi.here
        have h2 := rw5.len
        rw [hwm] at hge
        rcases List.eq_nil_or_concat rs with e | ⟨r0, ⟨l', k'⟩, e⟩
        · rw [e] at hpl; have : ([] : List Rw).length = 0 := rfl; omega
        · rw [List.concat_eq_append] at e
          exact ⟨_, rfl, q N rvs rs l' H5 s5 hN5 hp5 rw5.ch (by omega) ⟨r0, k', e⟩⟩
inductive SpDrawnC (vs : List V) (H : Hp) (Q : VK) : Prop
  | mk (T L Z : Addr) (us : List V) (ts : List Tm) (ls : List Nat) (zs : List Int) (l : Nat) (z0 : vs = [.ref T, .ref L, nV l, .ref Z]) (z1 : H T = some (.lst us)) (z2 : Tms H us ts) (z3 : H L = some (.lst (ls.map nV))) (z4 : PrG ts ls) (z5 : H Z = some (.lst (zs.map V.int))) (z6 : 0 < zs.length) (z7 : (∃ k, k < ts.length ∧ ls.getD k 0 = l)) (z8 : ∀ N rvs rs l' H', Same H H' → H' N = some (.lst rvs) → Paired (PairAt H') rvs rs → ChG ts ls rs → rs.length ≤ ts.length → (∃ r0 k, rs = r0 ++ [(l', k)]) → Q (.ref N) H') : SpDrawnC  vs H Q
noncomputable def spDrawnC : Sp := fun vs H Q _ => SpDrawnC  vs H Q
theorem ok_drawnC (B : Blt mg) (b_dict : mg "dict" = none) (h_picks : Has P w K mg base 1 "_law_picks" ["_law_terms", "_law_leads", "_law_script"] spPicks) (h_rows : Has P w K mg base 2 "_law_rows" ["_law_terms", "_law_leads", "_law_picks_here", "_law_lead"] spRows)
    (D : Def K mg "_law_drawn" s_drawn ["_law_terms", "_law_leads", "_law_lead", "_law_script"]) : Has P w K mg base 3 "_law_drawn" ["_law_terms", "_law_leads", "_law_lead", "_law_script"] spDrawnC := by
  refine D.has sc_drawn (fun vs H Q E h => ?_) (fun f cdv A outer s H vs Q E hr h => ?_)
  · obtain ⟨T, L, Z, us, ts, ls, zs, l, rfl, _⟩ := h; rfl
  obtain ⟨T, L, Z, us, ts, ls, zs, l, rfl, hT, hts, hL, pi, hZ, hzp, hl, q⟩ := h
  refine ⟨_, (pss_cons (ps_set (i := 4) sc_drawn.nd rfl (Or.inl rfl) (pe_callH h_rows hr (by omega) rfl (pa_cons (pv 0) (pa_cons (pv 1) (pa_cons (pe_callH h_picks hr (by omega) rfl (pa_cons (pv 0) (pa_cons (pv 1) (pa_cons (pv 3) pa_nil)))) (pa_cons (pv 2) pa_nil))))))
    (pss_cons (ps_if (pt_cmpR op_isN (pv 4) pe_non (nomark _)) (pss_one (ps_ret (pe_callH h_rows hr (by omega) rfl (pa_cons (pv 0) (pa_cons (pv 1) (pa_cons (pe_callTy (call_dictP rfl) rfl b_dict boot_dict_ (pa_cons (pe_comp (te := _) (own := ["_law_k"]) (caps := []) (comp_scope (defScope s_drawn) ["_law_terms", "_law_leads", "_law_lead", "_law_script", "_law_rows_here"] rfl rfl rfl (by decide +kernel)) (pi_list (pv 1)) rfl (fun _ _ _ => pg_name (i := 0) (show (["_law_k"] : List Str).Nodup by decide +kernel) rfl (Or.inl rfl)) (fun _ _ _ => (pe_tup (pa_cons (pv 0) (pa_cons (pv 0) pa_nil))))) pa_nil)) (pa_cons (pv 2) pa_nil))))))) pss_nil)
    (pss_one (ps_ret (pv 4))))), ?_⟩
  try dsimp only [cxOf]
  refine ⟨_, rfl, _, rfl, _, rfl, _, rfl, _, rfl, T, L, Z, us, ts, ls, zs, rfl, hT, hts, hL, pi, hZ, hzp, fun G pk H1 s1 hG hpk => ⟨_, rfl, T, L, G, us, ts, ls, pk, l, rfl, s1 _ _ hT, tms_same s1 hts, s1 _ _ hL, pi, hG, hpk, hl, fun H2 s2 _ => ?_, fun N rvs rs l' H2 s2 hN hp ch hlen hlast => ?_⟩⟩
  · dsimp only [gName]
    have s12 := s1.trans s2
    refine ⟨_, rfl, rfl, _, rfl, iteD (fun _ => ?_) (fun z => absurd rfl z)⟩
    refine ⟨_, rfl, _, rfl, _, rfl, L, rfl, ⟨_, SqL.of (s12 _ _ hL)⟩, ?_⟩
    refine comp_listP (R := fun H v (m : Nat) => PairAt H v (m, m)) (bs := ls) (fun Ha Hb v b kt hr => hr.keep kt) (SqL.of (s12 _ _ hL)) (by rw [List.length_map, pi.len]; exact Nat.le_trans pi.few (by decide)) (by rw [List.length_map]) (fun i x m hx hm H' sm Q' q' => ?_) (fun D1 H3 ps hD1 s3 hD3 pr => ?_)
    · rw [List.getElem?_map, hm] at hx
      have e1 : nV m = x := Option.some.inj hx
      subst e1
      exact ⟨_, rfl, _, rfl, (show 2 ≤ sizeLine by decide), fun b hb => q' _ _ (same_new hb _) ⟨b, rfl, upd_same⟩⟩
    refine ⟨D1, ps, ls.map fun x => (lk x, nV x), rfl, hD3, ?_, ?_, fun G2 hG2 => ?_⟩
    · exact paired_mapR pr fun v m z => z
    · rw [List.length_map, pi.len]; exact Nat.le_trans pi.few (by decide)
    have s13 := s12.trans (s3.trans (same_new hG2 (.dK (idK ls))))
    have hG3 := upd_same (H := H3) (a := G2) (o := .dK (idK ls))
    have eid : mergeK [] (ls.map fun x => (lk x, nV x)) = idK ls := rfl
    rw [eid]
    generalize upd H3 G2 (.dK (idK ls)) = H4 at s13 hG3 ⊢
    refine ⟨_, rfl, T, L, G2, us, ts, ls, idK ls, l, rfl, s13 _ _ hT, tms_same s13 hts, s13 _ _ hL, pi, hG3, (fun k hk => ?_), hl, (fun H5 s5 no => absurd (idK_rank pi) no), fun N rvs rs l' H5 s5 hN hp ch hlen hlast => q N rvs rs l' H5 (s13.trans s5) hN hp ch hlen hlast⟩
    have hk' := getD_at (ls := ls) (k := k) (by rw [pi.len]; exact hk)
    exact ⟨ls.getD k 0, _, idK_at (List.mem_of_getElem? hk'), List.getElem?_eq_getElem (pi.lt k hk)⟩
  · dsimp only [gName]
    exact ⟨_, rfl, rfl, _, rfl, iteD (fun z => nomatch z) (fun _ => ⟨_, rfl, q N rvs rs l' H2 (s1.trans s2) hN hp ch hlen hlast⟩)⟩
end

end K64
namespace K64
open PySem L2 Sw
section
variable {P : Program} {w : World} {K : PySem.W.Frag} {mg : Str → Option Value} {base : Heap}
inductive SpSizeL (vs : List V) (H : Hp) (Q : VK) : Prop
  | mk (C T L : Addr) (rvs us : List V) (ts : List Tm) (ls : List Nat) (rs : List Rw) (l : Nat) (z0 : vs = [.ref C, .ref T, .ref L]) (z1 : H T = some (.lst us)) (z2 : Tms H us ts) (z3 : H L = some (.lst (ls.map nV))) (z4 : PrG ts ls) (z5 : H C = some (.lst rvs)) (z6 : Paired (PairAt H) rvs rs) (z7 : ChG ts ls rs) (z8 : rs.length ≤ 900) (z9 : (∃ r0 k, rs = r0 ++ [(l, k)])) (z10 : ∀ r H', Same H H' → SzAt H' r (zF ts ls rs l) → Q r H') : SpSizeL  vs H Q
noncomputable def spSizeL : Sp := fun vs H Q _ => SpSizeL  vs H Q
inductive SlI (H : Hp) (C T L S : Addr) (ts : List Tm) (ls : List Nat) (rs : List Rw) (i : Nat) (σ : St) (H' : Hp) : Prop
  | mk : ∀ (zk : DK) (x4 x5 x6 x7 : Option V), (σ = [some (.ref C), some (.ref T), some (.ref L), some (.ref S), x4, x5, x6, x7]) → (Same H H') → (H' S = some (.dK zk)) → (SzD H' zk (zF ts ls (rs.take i)) ((rs.take i).map (·.1))) → (zk.length ≤ i) → SlI H C T L S ts ls rs i σ H'
theorem ok_sizeL (B : Blt mg) (h_arms : Has P w K mg base 1 "_law_arms" ["_law_term_here"] spArmsL) (D : Def K mg "_law_size" s_size ["_law_choice", "_law_terms", "_law_leads"]) : Has P w K mg base 2 "_law_size" ["_law_choice", "_law_terms", "_law_leads"] spSizeL := by
  refine D.has sc_size (fun vs H Q E h => ?_) (fun f cdv A outer s H vs Q E hr h => ?_)
  · obtain ⟨C, T, L, rvs, us, ts, ls, rs, l, rfl, _⟩ := h; rfl
  obtain ⟨C, T, L, rvs, us, ts, ls, rs, l, rfl, hT, hts, hL, pi, hC, hrs, ch, hrl, hlast, q⟩ := h
  refine ⟨_, (pss_cons (ps_set (i := 3) sc_size.nd rfl (Or.inr rfl) pe_dnewK)
    (pss_cons (ps_for PassesOwn.never rfl (pi_list (pv 0)) (pg_tup rfl (pgs_cons (pg_name (i := 4) sc_size.nd rfl (Or.inl rfl)) (pgs_cons (pg_name (i := 5) sc_size.nd rfl (Or.inl rfl)) pgs_nil)))
    (pss_cons (ps_setComp (i := 6) sc_size.nd rfl rfl (te := (tDGet _ (tOp (rIxL K) _ _))) (own := ["_law_arm"]) (caps := [("_law_sizes", 3), ("_law_leads", 2)]) (comp_scope (defScope s_size) ["_law_choice", "_law_terms", "_law_leads", "_law_sizes", "_law_lead", "_law_k", "_law_arms_here", "_law_deep"] rfl rfl rfl (by decide +kernel)) (pi_list (pe_callH h_arms hr (by omega) rfl (pa_cons (pe_ix ix_list (pv 1) (pv 5) (fun _ _ => rfl)) pa_nil))) rfl (fun _ _ _ => pg_name (i := 0) (show (["_law_arm", "_law_sizes", "_law_leads"] : List Str).Nodup by decide +kernel) rfl (Or.inl rfl)) (fun _ _ _ => (pe_dget (hu_of hr) (pv 1) (pe_ix ix_list (pv 2) (pv 0) (fun _ _ => rfl)) (fun _ _ => rfl))) rfl)
    (pss_cons (ps_set (i := 7) sc_size.nd rfl (Or.inl rfl) (pe_maxD rfl rfl B.max_ (pe_comp (te := (tOp (rIxT K) _ _)) (own := ["_law_size_here"]) (caps := []) (comp_scope (defScope s_size) ["_law_choice", "_law_terms", "_law_leads", "_law_sizes", "_law_lead", "_law_k", "_law_arms_here", "_law_deep"] rfl rfl rfl (by decide +kernel)) (pi_list (pv 6)) rfl (fun _ _ _ => pg_name (i := 0) (show (["_law_size_here"] : List Str).Nodup by decide +kernel) rfl (Or.inl rfl)) (fun _ _ _ => (pe_ix ix_tup (pv 0) pe_int (fun _ _ => rfl))))))
    (pss_one (ps_dput (hu_of hr) (pv 3) (pv 4) (pe_tup (pa_cons (pe_op op_add pe_int (pe_callB (call_sumL rfl) rfl B.sum_ boot_sum_ (pa_cons (pe_comp (te := (tOp (rIxT K) _ _)) (own := ["_law_size_here"]) (caps := []) (comp_scope (defScope s_size) ["_law_choice", "_law_terms", "_law_leads", "_law_sizes", "_law_lead", "_law_k", "_law_arms_here", "_law_deep"] rfl rfl rfl (by decide +kernel)) (pi_list (pv 6)) rfl (fun _ _ _ => pg_name (i := 0) (show (["_law_size_here"] : List Str).Nodup by decide +kernel) rfl (Or.inl rfl)) (fun _ _ _ => (pe_ix ix_tup (pv 0) pe_int (fun _ _ => rfl)))) pa_nil))) (pa_cons (pe_op op_add pe_int (pv 7)) pa_nil))) rfl)))))
    (pss_one (ps_ret (pe_dget (hu_of hr) (pv 3) (pe_ix ix_tup (pe_ix ix_list (pv 0) (pe_un un_neg pe_int) (fun _ _ => rfl)) pe_int (fun _ _ => rfl)) (fun _ _ => rfl)))))), ?_⟩
  try dsimp only [cxOf]
  have hut := Paired.length hts
  have hrn := Paired.length hrs
  intro S hS0
  dsimp only [gName]
  have s1 := same_new hS0 (.dK [])
  have hS1 := upd_same (H := H) (a := S) (o := .dK [])
  generalize upd H S (.dK []) = H1 at s1 hS1 ⊢
  refine ⟨_, rfl, C, rfl, ⟨_, SqL.of (s1 _ _ hC)⟩, ?_⟩
  refine for_list (xs := rvs) (SlI H C T L S ts ls rs) (SlI.mk [] none none none none rfl s1 hS1 (fun b hb => by rw [List.take_zero] at hb; cases hb) (Nat.le_refl _)) ?_ ?_ ?_
  · rintro i σ H' _ ⟨zk, x4, x5, x6, x7, rfl, sm, _⟩
    exact SqL.of (sm _ _ hC)
  · rintro i y σ H3 hy ⟨zk, x4, x5, x6, x7, rfl, sm, hS3, hz, hzl⟩
    obtain ⟨⟨lr, kr⟩, hr', b, rfl, hb⟩ := paired_at hrs hy
    have hil : i < rs.length := (List.getElem?_eq_some_iff.mp hr').1
    have hk : kr < ts.length := ch.num _ (List.mem_of_getElem? hr')
    obtain ⟨v, hv⟩ : ∃ v, us[kr]? = some v := ⟨_, List.getElem?_eq_getElem (by rw [hut]; exact hk)⟩
    obtain ⟨t, htt, hvt⟩ := tms_at hts hv
    have arm := pi.armIn htt
    have emt : mtF ts ls kr = mk ls t := mtF_at htt
    have harms := ch.arms i _ hr'
    dsimp only at harms
    rw [emt, arms_mk] at harms
    have htk := take_snoc hr'
    have hzs := zF_snoc ts ls (rs.take i) (lr, kr)
    have e1 : stepZ ts ls (zF ts ls (rs.take i)) (lr, kr) lr = szL (zF ts ls (rs.take i)) ((armsF t).map fun a => ls.getD a 0) := by rw [← arms_mk, ← emt]; exact stepZ_at (r := (lr, kr))
    generalize rs.take i = ra at hz harms htk hzs e1
    generalize hg : zF ts ls ra = g at hz hzs e1
    refine ⟨b, _, rfl, SqT.of (sm _ _ hb), rfl, _, _, rfl, _, _, rfl, rfl, ?_⟩
    refine ⟨_, rfl, _, rfl, T, _, _, _, rfl, rfl, SqL.of (sm _ _ hT), atI_nat hv, v, t, rfl, hvt.same sm, fun Na H4 s4 _ hNa => ⟨Na, rfl, ⟨_, SqL.of hNa⟩, ?_⟩⟩
    have sm4 := sm.trans s4
    refine comp_listP (R := fun H v (a : Nat) => SzAt H v (g (ls.getD a 0))) (bs := armsF t) (fun Ha Hb v b kt hr => hr.keep kt) (SqL.of hNa) (by rw [List.length_map]; exact arm.1) (by rw [List.length_map]) (fun j x a hx ha H' sm' Q' q' => ?_) (fun D2 H5 zs hD2 s5 hD5 pr => ?_)
    · rw [List.getElem?_map, ha] at hx
      have ex : nV a = x := Option.some.inj hx
      subst ex
      have ham := List.mem_of_getElem? ha
      obtain ⟨zv, hzv, hza⟩ := hz _ (harms _ (List.mem_map.mpr ⟨a, ham, rfl⟩))
      have s' := s4.trans sm'
      exact ⟨_, rfl, _, rfl, _, rfl, L, _, _, _, rfl, rfl, SqL.of ((sm.trans s') _ _ hL), nV_at (getD_at (arm.2 a ham)), S, _, rfl, dget_lk (s' _ _ hS3) hzv, q' _ _ (Same.refl _) (hza.keep fun b ys => s' _ _)⟩
    dsimp only [gName]
    have sm5 := sm4.trans s5
    have hzl2 := Paired.length pr
    have part : ∀ {H' : Hp} {te : TE} {σ' : St} {Q' : VK} (n : Nat) (h : Sz → Nat), Same H5 H' → (∀ (x : V) (z : Sz) (H'' : Hp) (Q'' : VK), SzAt H'' x z → Q'' (nV (h z)) H'' → te (some x :: capt σ' []) H'' Q'') →
        (∀ D3 H6, Same H' H6 → H6 D3 = some (.lst ((((armsF t).map fun a => ls.getD a 0).map fun b => ((h (g b) : Nat) : Int)).map V.int)) → Q' (.ref D3) H6) → CompBody (Itl K D2) (gName 0) te (List.replicate 1 none ++ capt σ' []) H' Q' := fun {H' te σ' Q'} n h sh hel hq => by
      refine comp_listP (R := fun _ v (a : Nat) => v = nV (h (g (ls.getD a 0)))) (bs := armsF t) (fun Ha Hb v b kt hr => hr) (SqL.of (sh _ _ hD5)) (by rw [hzl2]; exact arm.1) hzl2.symm (fun j x a hx ha H'' sm' Q'' q'' => ?_) (fun D3 H6 ws hD3 s6 hD6 pr6 => ?_)
      · have hza := paired_at2 pr hx ha
        exact hel x _ H'' Q'' (hza.keep fun b ys => (sh.trans sm') _ _) (q'' _ _ (Same.refl _) rfl)
      · have e : ws = (((armsF t).map fun a => ls.getD a 0).map fun b => ((h (g b) : Nat) : Int)).map V.int := by
          rw [List.map_map, List.map_map]
          have : ∀ {ws : List V} {as : List Nat}, Paired (fun v (a : Nat) => v = nV (h (g (ls.getD a 0)))) ws as → ws = as.map (fun a => nV (h (g (ls.getD a 0)))) := by
            intro ws as z
            induction z with
            | nil => rfl
            | cons h1 _ ih => rw [ih, h1]; rfl
          rw [this pr6]
          rfl
        rw [e] at hD6
        exact hq D3 H6 s6 hD6
    refine ⟨_, rfl, D2, rfl, ⟨_, SqL.of hD5⟩, part 1 (fun z => z.2) (Same.refl _) (fun x z H'' Q'' hz' q'' => ?_) fun D3 H6 s6 hD6 => ?_⟩
    · obtain ⟨za, rfl, hza⟩ := hz'
      exact ⟨_, rfl, za, _, 1, _, rfl, rfl, SqT.of hza, atI_nat (j := 1) rfl, q''⟩
    refine ⟨D3, _, rfl, hD6, fun M h0 h1 h2 => ?_⟩
    have eM : M = ((dpL g ((armsF t).map fun a => ls.getD a 0) : Nat) : Int) := dpL_is (fun e => h0 (by rw [e]; rfl)) (fun e => h1 (fun z => e (List.map_eq_nil_iff.mp z))) h2
    subst eM
    dsimp only [gName]
    refine ⟨_, rfl, D2, rfl, ⟨_, SqL.of (s6 _ _ hD5)⟩, part 0 (fun z => z.1) s6 (fun x z H'' Q'' hz' q'' => ?_) fun D4 H7 s7 hD7 => ?_⟩
    · obtain ⟨za, rfl, hza⟩ := hz'
      exact ⟨_, rfl, za, _, 0, _, rfl, rfl, SqT.of hza, atI_nat (j := 0) rfl, q''⟩
    have s37 := s4.trans (s5.trans (s6.trans s7))
    refine ⟨D4, _, rfl, SqL.of hD7, _, _, rfl, rfl, _, rfl, _, _, rfl, rfl, (show 2 ≤ sizeLine by decide), fun p hp => ?_⟩
    have s8 := same_new hp (.tup [V.int (1 + (((armsF t).map fun a => ls.getD a 0).map fun b => (((g b).1 : Nat) : Int)).sum), V.int (1 + ((dpL g ((armsF t).map fun a => ls.getD a 0) : Nat) : Int))])
    have hp8 := upd_same (H := H7) (a := p) (o := .tup [V.int (1 + (((armsF t).map fun a => ls.getD a 0).map fun b => (((g b).1 : Nat) : Int)).sum), V.int (1 + ((dpL g ((armsF t).map fun a => ls.getD a 0) : Nat) : Int))])
    generalize upd H7 p (.tup [V.int (1 + (((armsF t).map fun a => ls.getD a 0).map fun b => (((g b).1 : Nat) : Int)).sum), V.int (1 + ((dpL g ((armsF t).map fun a => ls.getD a 0) : Nat) : Int))]) = H8 at s8 hp8 ⊢
    have hnew : SzAt H8 (.ref p) (szL g ((armsF t).map fun a => ls.getD a 0)) := by
      refine ⟨p, rfl, ?_⟩
      rw [hp8]
      have sums : ∀ bs : List Nat, (bs.map fun b => (((g b).1 : Nat) : Int)).sum = (((bs.map fun b => (g b).1).sum : Nat) : Int) := fun bs => by
        induction bs with
        | nil => rfl
        | cons b bs ih => rw [List.map_cons, List.map_cons, List.sum_cons, List.sum_cons, ih]; omega
      rw [sums]
      have a1 : ∀ n : Nat, V.int (1 + ((n : Nat) : Int)) = nV (1 + n) := fun n => by have e : (1 + ((n : Nat) : Int)) = ((1 + n : Nat) : Int) := by omega
                                                                                     rw [e]
      have a2 : ∀ n : Nat, V.int (1 + ((n : Nat) : Int)) = nV (n + 1) := fun n => by have e : (1 + ((n : Nat) : Int)) = ((n + 1 : Nat) : Int) := by omega
                                                                                     rw [e]
      rw [a1, a2]
      rfl
    have s38 := s37.trans s8
    have hS8 := s38 _ _ hS3
    refine ⟨_, rfl, _, rfl, S, _, rfl, DPut.k (k := lk lr) hS8 (small1000 (by omega)), ?_⟩
    have k9 : ∀ b ys, H8 b = some (.tup ys) → (upd H8 S (.dK (putK zk (lk lr) (.ref p)))) b = some (.tup ys) := fun b ys e => by rw [upd_ne (ne_of e hS8 (fun z => nomatch z))]; exact e
    refine SlI.mk (putK zk (lk lr) (.ref p)) _ _ _ _ rfl ((sm.trans s38).put hS0) upd_same ?_ ?_
    · rw [htk, hzs, List.map_append]
      refine SzD.put (hz.keep fun b ys e => k9 _ _ (s38 _ _ e)) ?_ (stepZ_ne (r := (lr, kr)))
      rw [e1]
      exact hnew.keep k9
    · have := length_putK zk (lk lr) (.ref p)
      omega
  · rintro σ H3 ⟨zk, x4, x5, x6, x7, rfl, sm, hS3, hz, hzl⟩
    rw [hrn, List.take_length] at hz
    obtain ⟨b, j, ea, hb⟩ := last_row hrs hlast
    have hlm : l ∈ rs.map (·.1) := by obtain ⟨r0, k, e⟩ := hlast; rw [e, List.map_append]; exact List.mem_append_right _ (List.mem_singleton.mpr rfl)
    have r0 : atI [nV l, nV j] (0 : Int) = some (nV l) := atI_nat (j := 0) rfl
    obtain ⟨zv, hzv, hza⟩ := hz l hlm
    exact ⟨_, rfl, _, rfl, 1, rfl, C, _, _, _, rfl, rfl, SqL.of (sm _ _ hC), ea, b, _, _, _, rfl, rfl, SqT.of (sm _ _ hb), r0, S, _, rfl, dget_lk hS3 hzv, q zv H3 sm hza⟩
inductive SpTreeL (vs : List V) (H : Hp) (Q : VK) : Prop
  | mk (C T L : Addr) (rvs us : List V) (ts : List Tm) (ls : List Nat) (rs : List Rw) (l : Nat) (z0 : vs = [.ref C, .ref T, .ref L]) (z1 : H T = some (.lst us)) (z2 : Tms H us ts) (z3 : H L = some (.lst (ls.map nV))) (z4 : PrG ts ls) (z5 : H C = some (.lst rvs)) (z6 : Paired (PairAt H) rvs rs) (z7 : ChG ts ls rs) (z8 : rs.length ≤ 900) (z9 : (∃ r0 k, rs = r0 ++ [(l, k)])) (z10 : ∀ r H', Same H H' → Den H' (dF ts ls rs l) r → Q r H') : SpTreeL  vs H Q
noncomputable def spTreeL : Sp := fun vs H Q _ => SpTreeL  vs H Q
inductive TlI (H : Hp) (C T L R : Addr) (ts : List Tm) (ls : List Nat) (rs : List Rw) (i : Nat) (σ : St) (H' : Hp) : Prop
  | mk : ∀ (tk : DK) (x4 x5 x6 : Option V), (σ = [some (.ref C), some (.ref T), some (.ref L), some (.ref R), x4, x5, x6]) → (Same H H') → (H' R = some (.dK tk)) → (TrD H' tk (dF ts ls (rs.take i)) ((rs.take i).map (·.1))) → (tk.length ≤ i) → TlI H C T L R ts ls rs i σ H'
theorem ok_treeL (B : Blt mg) (D : Def K mg "_law_tree" s_tree ["_law_choice", "_law_terms", "_law_leads"]) : Has P w K mg base 1 "_law_tree" ["_law_choice", "_law_terms", "_law_leads"] spTreeL := by
  refine D.has sc_tree (fun vs H Q E h => ?_) (fun f cdv A outer s H vs Q E hr h => ?_)
  · obtain ⟨C, T, L, rvs, us, ts, ls, rs, l, rfl, _⟩ := h; rfl
  obtain ⟨C, T, L, rvs, us, ts, ls, rs, l, rfl, hT, hts, hL, pi, hC, hrs, ch, hrl, hlast, q⟩ := h
  refine ⟨_, (pss_cons (ps_set (i := 3) sc_tree.nd rfl (Or.inr rfl) pe_dnewK)
    (pss_cons (ps_for PassesOwn.never rfl (pi_list (pv 0)) (pg_tup rfl (pgs_cons (pg_name (i := 4) sc_tree.nd rfl (Or.inl rfl)) (pgs_cons (pg_name (i := 5) sc_tree.nd rfl (Or.inl rfl)) pgs_nil)))
    (pss_cons (ps_set (i := 6) sc_tree.nd rfl (Or.inl rfl) (pe_ix ix_list (pv 1) (pv 5) (fun _ _ => rfl)))
    (pss_cons (ps_if (pt_cmpR op_eq (pe_ix ix_tup (pv 6) pe_int (fun _ _ => rfl)) pe_str (nomark _)) (pss_one (ps_set (i := 6) sc_tree.nd rfl (Or.inl rfl) (pe_tup (pa_cons pe_str (pa_cons (pe_ix ix_tup (pv 6) pe_int (fun _ _ => rfl)) (pa_cons (pe_callTy call_tuple_of rfl B.tuple_ boot_tuple_ (pa_cons (pe_comp (te := (tDGet _ (tOp (rIxL K) _ _))) (own := ["_law_arm"]) (caps := [("_law_trees", 3), ("_law_leads", 2)]) (comp_scope (defScope s_tree) ["_law_choice", "_law_terms", "_law_leads", "_law_trees", "_law_lead", "_law_k", "_law_tree_here"] rfl rfl rfl (by decide +kernel)) (pi_tup (pe_ix ix_tup (pv 6) pe_int (fun _ _ => rfl))) rfl (fun _ _ _ => pg_name (i := 0) (show (["_law_arm", "_law_trees", "_law_leads"] : List Str).Nodup by decide +kernel) rfl (Or.inl rfl)) (fun _ _ _ => (pe_dget (hu_of hr) (pv 1) (pe_ix ix_list (pv 2) (pv 0) (fun _ _ => rfl)) (fun _ _ => rfl)))) pa_nil)) pa_nil)))))) pss_nil)
    (pss_one (ps_dput (hu_of hr) (pv 3) (pv 4) (pv 6) rfl)))))
    (pss_one (ps_ret (pe_dget (hu_of hr) (pv 3) (pe_ix ix_tup (pe_ix ix_list (pv 0) (pe_un un_neg pe_int) (fun _ _ => rfl)) pe_int (fun _ _ => rfl)) (fun _ _ => rfl)))))), ?_⟩
  try dsimp only [cxOf]
  have hut := Paired.length hts
  have hrn := Paired.length hrs
  intro R hR0
  dsimp only [gName]
  have s1 := same_new hR0 (.dK [])
  have hR1 := upd_same (H := H) (a := R) (o := .dK [])
  generalize upd H R (.dK []) = H1 at s1 hR1 ⊢
  refine ⟨_, rfl, C, rfl, ⟨_, SqL.of (s1 _ _ hC)⟩, ?_⟩
  refine for_list (xs := rvs) (TlI H C T L R ts ls rs) (TlI.mk [] none none none rfl s1 hR1 (fun b hb => by rw [List.take_zero] at hb; cases hb) (Nat.le_refl _)) ?_ ?_ ?_
  · rintro i σ H' _ ⟨tk, x4, x5, x6, rfl, sm, _⟩
    exact SqL.of (sm _ _ hC)
  · rintro i y σ H3 hy ⟨tk, x4, x5, x6, rfl, sm, hR3, hz, hzl⟩
    obtain ⟨⟨lr, kr⟩, hr', b, rfl, hb⟩ := paired_at hrs hy
    have hil : i < rs.length := (List.getElem?_eq_some_iff.mp hr').1
    have hk : kr < ts.length := ch.num _ (List.mem_of_getElem? hr')
    obtain ⟨v, hv⟩ : ∃ v, us[kr]? = some v := ⟨_, List.getElem?_eq_getElem (by rw [hut]; exact hk)⟩
    obtain ⟨t, htt, hvt⟩ := tms_at hts hv
    have arm := pi.armIn htt
    have emt : mtF ts ls kr = mk ls t := mtF_at htt
    have harms := ch.arms i _ hr'
    have hcok := ch_ok ch i (by omega)
    dsimp only at harms
    rw [emt] at harms
    have htk := take_snoc hr'
    have hds := dF_snoc ts ls (rs.take i) (lr, kr)
    have e1 : stepD ts ls (dF ts ls (rs.take i)) (lr, kr) lr = trM (dF ts ls (rs.take i)) (mk ls t) := by rw [← emt]; exact stepD_at (r := (lr, kr))
    have hnew := trM_ok (f := dF ts ls (rs.take i)) (z := zF ts ls (rs.take i)) (t := mk ls t) fun c hc => hcok c (harms c hc)
    have hnl : ∀ c ∈ (rs.take i).map (·.1), (dF ts ls (rs.take i) c).noL = true := fun c hc => (hcok c hc).2
    generalize rs.take i = ra at hz harms htk hds e1 hnew hnl
    generalize dF ts ls ra = g at hz hds e1 hnew hnl
    refine ⟨b, _, rfl, SqT.of (sm _ _ hb), rfl, _, _, rfl, _, _, rfl, rfl, ?_⟩
    refine ⟨_, rfl, _, rfl, T, _, _, _, rfl, rfl, SqL.of (sm _ _ hT), atI_nat hv, ?_⟩
    dsimp only [gName]
    have hvt3 := hvt.same sm
    refine rd_cut (fun σ' H' => ∃ u : V, σ' = [some (.ref C), some (.ref T), some (.ref L), some (.ref R), some (nV lr), some (nV kr), some u] ∧ Same H3 H' ∧ Den H' (trM g (mk ls t)) u) ?_ (fun key => ?_)
    · rintro σ' H4 ⟨u, rfl, s4, hu⟩
      have hR4 := s4 _ _ hR3
      refine ⟨_, rfl, _, rfl, _, rfl, R, _, rfl, DPut.k (k := lk lr) hR4 (small1000 (by omega)), ?_⟩
      have k5 : ∀ b ys, H4 b = some (.tup ys) → (upd H4 R (.dK (putK tk (lk lr) u))) b = some (.tup ys) := fun b ys e => by rw [upd_ne (ne_of e hR4 (fun z => nomatch z))]; exact e
      refine TlI.mk (putK tk (lk lr) u) _ _ _ rfl ((sm.trans s4).put hR0) upd_same ?_ ?_
      · rw [htk, hds, List.map_append]
        refine TrD.put (hz.keep (fun b ys e => k5 _ _ (s4 _ _ e)) hnl) ?_ (stepD_ne (r := (lr, kr)))
        rw [e1]
        exact den_keepT k5 hnew.2 hu
      · have := length_putK tk (lk lr) u
        omega
    · cases t with
      | num n =>
        have hden : Den H3 (trM g (mk ls (.num n))) v := hvt3.den
        obtain ⟨a, rfl, h⟩ := id hvt3
        exact ⟨_, rfl, a, _, 0, _, rfl, rfl, SqT.of h, atI_nat (j := 0) rfl, rfl, _, rfl, iteD (fun z => absurd (V.str.inj z) (by decide)) (fun _ => key _ _ ⟨_, rfl, Same.refl _, hden⟩)⟩
      | name n =>
        have hden : Den H3 (trM g (mk ls (.name n))) v := hvt3.den
        obtain ⟨a, rfl, h⟩ := id hvt3
        exact ⟨_, rfl, a, _, 0, _, rfl, rfl, SqT.of h, atI_nat (j := 0) rfl, rfl, _, rfl, iteD (fun z => absurd (V.str.inj z) (by decide)) (fun _ => key _ _ ⟨_, rfl, Same.refl _, hden⟩)⟩
      | of x as =>
        obtain ⟨a, b2, rfl, h, h2⟩ := id hvt3
        have hd : TrD H3 tk g (as.map fun a => ls.getD a 0) := fun c hc => hz c (harms c hc)
        refine ⟨_, rfl, a, _, 0, _, rfl, rfl, SqT.of h, atI_nat (j := 0) rfl, rfl, _, rfl, iteD (fun _ => ?_) (fun z => absurd rfl z)⟩
        refine ⟨_, rfl, a, _, 1, _, rfl, rfl, SqT.of h, atI_nat (j := 1) rfl, ?_⟩
        refine ⟨_, rfl, a, _, 2, _, rfl, rfl, SqT.of h, atI_nat (j := 2) rfl, b2, rfl, ⟨_, SqT.of h2⟩, ?_⟩
        refine comp_tupS (ys := (as.map fun a => ls.getD a 0).map fun c => (valV tk (lk c)).getD .non) (SqT.of h2) (by rw [List.length_map]; exact arm.1) (by simp) (fun i y z hy hz' H' sm' Q' q' => ?_) (fun D1 H' hD1 sm' hD => ?_)
        · rw [List.getElem?_map] at hy
          rw [List.getElem?_map, List.getElem?_map] at hz'
          cases e : as[i]? with
          | none => rw [e] at hy; cases hy
          | some k =>
            rw [e] at hy hz'
            have e1 : nV k = y := Option.some.inj hy
            have e2 : (valV tk (lk (ls.getD k 0))).getD .non = z := Option.some.inj hz'
            subst e1
            have hkm := List.mem_of_getElem? e
            obtain ⟨u, hu, _⟩ := hd _ (List.mem_map.mpr ⟨k, hkm, rfl⟩)
            rw [hu] at e2
            have e2 : u = z := e2
            subst e2
            exact ⟨_, rfl, _, rfl, _, rfl, L, _, _, _, rfl, rfl, SqL.of ((sm.trans sm') _ _ hL), nV_at (getD_at (arm.2 k hkm)), R, _, rfl, dget_lk (sm' _ _ hR3) hu, q' _ (Same.refl _)⟩
        · refine ⟨D1, _, rfl, .inl ⟨SqL.of hD, fun l hl' => ?_⟩⟩
          refine ⟨(show 3 ≤ sizeLine by decide), fun t ht => ?_⟩
          have s2 := (same_new hl' (.tup ((as.map fun a => ls.getD a 0).map fun c => (valV tk (lk c)).getD .non))).trans (same_new ht (.tup [.str "of", .str x, .ref l]))
          refine key _ _ ⟨.ref t, rfl, sm'.trans s2, ?_⟩
          rw [mk, trM, Den]
          refine ⟨t, _, rfl, upd_same, dens_cons (by rw [Den]) (dens_cons (by rw [Den]) (dens_cons ?_ dens_nil))⟩
          rw [Den]
          exact ⟨l, _, rfl, by rw [upd_ne (ne_of_none upd_same ht), upd_same], dens_same (sm'.trans s2) (dens_pickD hd)⟩
  · rintro σ H3 ⟨tk, x4, x5, x6, rfl, sm, hR3, hz, hzl⟩
    rw [hrn, List.take_length] at hz
    obtain ⟨b, j, ea, hb⟩ := last_row hrs hlast
    have hlm : l ∈ rs.map (·.1) := by obtain ⟨r0, k, e⟩ := hlast; rw [e, List.map_append]; exact List.mem_append_right _ (List.mem_singleton.mpr rfl)
    have r0 : atI [nV l, nV j] (0 : Int) = some (nV l) := atI_nat (j := 0) rfl
    obtain ⟨tv, htv, htd⟩ := hz l hlm
    exact ⟨_, rfl, _, rfl, 1, rfl, C, _, _, _, rfl, rfl, SqL.of (sm _ _ hC), ea, b, _, _, _, rfl, rfl, SqT.of (sm _ _ hb), r0, R, _, rfl, dget_lk hR3 htv, q tv H3 sm htd⟩
end

end K64
namespace K64
open PySem L2 Sw
section
variable {P : Program} {w : World} {K : PySem.W.Frag} {mg : Str → Option Value} {base : Heap}
noncomputable def RsOk (ts : List Tm) : Prop := Arms ts ∧ ∀ (i : Nat) x as, ts[i]? = some (.of x as) → as.length ≤ 4 ∧ 1 ≤ as.length
theorem rsok_nil : RsOk [] := ⟨fun i x as h => by simp at h, fun i x as h => by simp at h⟩
theorem rsok_snoc {ts : List Tm} {t : Tm} (h : RsOk ts) (ht : ∀ x as, t = .of x as → as.length ≤ 4 ∧ 1 ≤ as.length ∧ ∀ a ∈ as, a < ts.length) : RsOk (ts ++ [t]) := by
  have key : ∀ (i : Nat) y as, (ts ++ [t])[i]? = some (.of y as) → ts[i]? = some (.of y as) ∨ (i = ts.length ∧ t = .of y as) := fun i y as e => by
    by_cases hi : i < ts.length
    · rw [List.getElem?_append_left hi] at e; exact .inl e
    · rw [List.getElem?_append_right (by omega)] at e
      by_cases h0 : i - ts.length = 0
      · rw [h0] at e
        exact .inr ⟨by omega, by simpa using e⟩
      · rw [List.getElem?_eq_none (by simp; omega)] at e; cases e
  refine ⟨fun i y as e a ha => ?_, fun i y as e => ?_⟩
  · rcases key i y as e with e' | ⟨rfl, e'⟩
    · exact h.1 i y as e' a ha
    · exact (ht y as e').2.2 a ha
  · rcases key i y as e with e' | ⟨rfl, e'⟩
    · exact h.2 i y as e'
    · exact ⟨(ht y as e').1, (ht y as e').2.1⟩
theorem comp_rangeP {β : Type} {R : Hp → V → β → Prop} {n : Nat} {lo : Int} {g : Nat → β} {te : TE} {σ : St} {caps : List (Str × Nat)} {H : Hp} {Q : VK} (kp : ∀ (H H' : Hp) v b, (∀ c ys, H c = some (.tup ys) → H' c = some (.tup ys)) → R H v b → R H' v b) (hz : n ≤ 1000)
    (hel : ∀ (i : Nat), i < n → ∀ H', Same H H' → ∀ Q' : VK, (∀ y H'', Same H' H'' → R H'' y (g i) → Q' y H'') → te (some (.int (lo + i)) :: capt σ caps) H' Q')
    (hq : ∀ D H' ys, H D = none → Same H H' → H' D = some (.lst ys) → Paired (R H') ys ((List.range n).map g) → Q (.ref D) H') :
    CompBody (Itr lo n) (gName 0) te (List.replicate 1 none ++ capt σ caps) H Q := by
  intro D hD
  refine ⟨fun i m τ zs H' => m = n - i ∧ i ≤ n ∧ (∃ o, τ = o :: capt σ caps) ∧ Paired (R H') zs ((List.range i).map g) ∧ Same H H' ∧ H' D = some (.lst zs), ⟨n, by simp, Nat.zero_le _, ⟨none, rfl⟩, .nil, same_new hD _, upd_same⟩, ?_⟩
  rintro i m τ zs H' ⟨rfl, hi, ⟨o, rfl⟩, hzs, sm, hDl⟩
  refine ⟨hDl, ?_⟩
  have hlz := Paired.length hzs
  rw [List.length_map, List.length_range] at hlz
  by_cases hlt : i < n
  · refine .inr ⟨hlt, small1000 (by omega), fun x H'' y => ?_⟩
    obtain ⟨e, y⟩ := y
    subst e y
    show te (some (.int (lo + i)) :: capt σ caps) _ _
    refine hel i hlt _ sm _ (fun v H2 s2 hv => ?_)
    have hD2 := s2 _ _ hDl
    have k2 : ∀ b ys, H2 b = some (.tup ys) → (upd H2 D (.lst (zs ++ [v]))) b = some (.tup ys) := fun b ys e => by rw [upd_ne (ne_of e hD2 (fun z => nomatch z))]; exact e
    refine ⟨hD2, n - (i + 1), by omega, rfl, hlt, ⟨_, rfl⟩, ?_, (sm.trans s2).put hD, upd_same⟩
    rw [List.range_succ, List.map_append]
    exact Paired.snoc (Paired.mapP hzs fun v b r => kp _ _ v b k2 (kp _ _ v b (fun c ys => s2 _ _) r)) (kp _ _ _ _ k2 hv)
  · have e : i = n := by omega
    subst e
    exact .inl ⟨Nat.le_refl _, hq D H' zs hD sm hDl hzs⟩
noncomputable def nxtF (m : Nat) : Nat := if m % 2 = 1 then m / 2 else m - 1
noncomputable def lenF : Nat → Nat → Nat
  | 0, _ => 0
  | f + 1, m => if m ≤ 1 then 0 else 1 + lenF f (nxtF m)
theorem lenF_ok {n : Nat} (h1 : 498 ≤ n) (h2 : n ≤ 503) : lenF 30 n ≤ 20 := by
  have : n = 498 ∨ n = 499 ∨ n = 500 ∨ n = 501 ∨ n = 502 ∨ n = 503 := by omega
  rcases this with rfl | rfl | rfl | rfl | rfl | rfl <;> decide
noncomputable def wdV (b : Bool) : V := .str (if b = true then "plus" else "neg")
inductive SpSized (vs : List V) (H : Hp) (Q : VK) : Prop
  | mk (n : Nat) (z0 : vs = [nV n]) (z1 : 498 ≤ n) (z2 : n ≤ 503) (z3 : ∀ T us ts H', Same H H' → H T = none → H' T = some (.lst us) → Tms H' us ts → RsOk ts → ts.length ≤ 64 → Q (.ref T) H') : SpSized  vs H Q
noncomputable def spSized : Sp := fun vs H Q _ => SpSized  vs H Q
inductive PnI (H : Hp) (A : Addr) (m : Nat) (σ : St) (H' : Hp) : Prop
  | mk : ∀ (k f : Nat) (pl : List Bool), (σ = [some (nV k), some (.ref A), none, none, none]) → (Same H H') → (H' A = some (.lst (pl.map wdV))) → (pl.length + f = 30) → (pl.length + lenF f k ≤ 20) → (k = m) → PnI H A m σ H'
inductive PtI (H : Hp) (A T : Addr) (k : V) (pl : List Bool) (i : Nat) (σ : St) (H' : Hp) : Prop
  | mk : ∀ (us : List V) (ts : List Tm) (x3 x4 : Option V), (σ = [some k, some (.ref A), some (.ref T), x3, x4]) → (Same H H') → (H' A = some (.lst (pl.map wdV))) → (H' T = some (.lst us)) → (Tms H' us ts) → (RsOk ts) → (ts.length = 1 + i) → PtI H A T k pl i σ H'
theorem ok_sized (B : Blt mg) (b_reversed : mg "reversed" = none) (D : Def K mg "_law_sized" s_sized ["_law_many"]) : Has P w K mg base 1 "_law_sized" ["_law_many"] spSized := by
  refine D.has sc_sized (fun vs H Q E h => ?_) (fun f cdv A outer s H vs Q E hr h => ?_)
  · obtain ⟨n, rfl, _⟩ := h; rfl
  obtain ⟨n, rfl, h1, h2, q⟩ := h
  refine ⟨_, (pss_cons (ps_set (i := 1) sc_sized.nd rfl (Or.inl rfl) (pe_lst pa_nil))
    (pss_cons (ps_while PassesOwn.never (pt_cmpR op_gt (pv 0) pe_int (nomark _))
    (pss_one (ps_if (pt_cmpR op_eq (pe_op op_mod (pv 0) pe_int) pe_int (nomark _)) (pss_cons (ps_expr (pe_bm PySem.F.plainAttrs_list PySem.F.slot_list_append PySem.F.type_list_append mt_append (pv 1) (pa_cons pe_str pa_nil)))
    (pss_one (ps_set (i := 0) sc_sized.nd rfl (Or.inl rfl) (pe_op op_fdiv (pv 0) pe_int)))) (pss_cons (ps_expr (pe_bm PySem.F.plainAttrs_list PySem.F.slot_list_append PySem.F.type_list_append mt_append (pv 1) (pa_cons pe_str pa_nil)))
    (pss_one (ps_set (i := 0) sc_sized.nd rfl (Or.inl rfl) (pe_op op_sub (pv 0) pe_int)))))))
    (pss_cons (ps_set (i := 2) sc_sized.nd rfl (Or.inl rfl) (pe_lst (pa_cons (pe_tup (pa_cons pe_str (pa_cons pe_str pa_nil))) pa_nil)))
    (pss_cons (ps_for PassesOwn.never rfl (pi_rev rfl b_reversed (pv 1)) (pg_name (i := 3) sc_sized.nd rfl (Or.inl rfl))
    (pss_cons (ps_set (i := 4) sc_sized.nd rfl (Or.inl rfl) (pe_op op_sub (pe_callB call_len_seq rfl B.len_ PySem.boot_len (pa_cons (pv 2) pa_nil)) pe_int))
    (pss_one (ps_if (pt_cmpR op_eq (pv 3) pe_str (nomark _)) (pss_one (ps_expr (pe_bm PySem.F.plainAttrs_list PySem.F.slot_list_append PySem.F.type_list_append mt_append (pv 2) (pa_cons (pe_tup (pa_cons pe_str (pa_cons (pv 3) (pa_cons (pe_tup (pa_cons (pv 4) (pa_cons (pv 4) pa_nil))) pa_nil)))) pa_nil)))) (pss_one (ps_expr (pe_bm PySem.F.plainAttrs_list PySem.F.slot_list_append PySem.F.type_list_append mt_append (pv 2) (pa_cons (pe_tup (pa_cons pe_str (pa_cons (pv 3) (pa_cons (pe_tup (pa_cons (pv 4) pa_nil)) pa_nil)))) pa_nil))))))))
    (pss_one (ps_ret (pv 2))))))), ?_⟩
  try dsimp only [cxOf]
  refine ⟨Nat.zero_le _, fun A hA0 => ?_⟩
  dsimp only [gName]
  have s1 := same_new hA0 (.lst [])
  have hA1 := upd_same (H := H) (a := A) (o := .lst [])
  generalize upd H A (.lst []) = H1 at s1 hA1 ⊢
  refine ⟨PnI H A, ⟨_, PnI.mk n 30 [] rfl s1 hA1 rfl (by have := lenF_ok h1 h2; show 0 + lenF 30 n ≤ 20; omega) rfl⟩, ?_⟩
  rintro m σ H2 ⟨k, f, pl, rfl, s2, hA2, hf, hlen, rfl⟩
  refine ⟨_, rfl, _, _, rfl, rfl, _, rfl, iteD (fun hgt => ?_) (fun hle => ?_)⟩
  · have hk : ¬ k ≤ 1 := by omega
    cases f with
    | zero => omega
    | succ f =>
    rw [lenF, if_neg hk] at hlen
    refine ⟨fun σ' H' => ∃ m', m' < k ∧ PnI H A m' σ' H', fun σ' H' h => h, ?_⟩
    refine ⟨_, rfl, _, _, rfl, rfl, pos', rfl, _, rfl, iteD (fun hodd => ?_) (fun heven => ?_)⟩
    · have hodd' : k % 2 = 1 := by have := V.int.inj hodd; omega
      refine ⟨_, rfl, .inl ⟨rfl, _, SqL.of hA2⟩, A, _, _, rfl, rfl, hA2, small1000 (by rw [List.length_map]; omega), ?_⟩
      refine ⟨_, rfl, _, _, rfl, rfl, div', ?_⟩
      have e : V.int ((k : Int) / 2) = nV (k / 2) := by show V.int _ = V.int _; congr 1
      dsimp only [gName]
      refine ⟨k / 2, by omega, PnI.mk (k / 2) f (pl ++ [true]) (by rw [← e]; rfl) (s2.put hA0) ?_ ?_ ?_ rfl⟩
      · rw [upd_same, List.map_append]; rfl
      · rw [List.length_append, List.length_singleton]; omega
      · rw [List.length_append, List.length_singleton]; unfold nxtF at hlen; rw [if_pos hodd'] at hlen; omega
    · have heven' : ¬ k % 2 = 1 := fun z => heven (by congr 1; omega)
      refine ⟨_, rfl, .inl ⟨rfl, _, SqL.of hA2⟩, A, _, _, rfl, rfl, hA2, small1000 (by rw [List.length_map]; omega), ?_⟩
      refine ⟨_, rfl, _, _, rfl, rfl, ?_⟩
      have e : V.int ((k : Int) - 1) = nV (k - 1) := by show V.int _ = V.int _; congr 1; omega
      dsimp only [gName]
      refine ⟨k - 1, by omega, PnI.mk (k - 1) f (pl ++ [false]) (by rw [← e]; rfl) (s2.put hA0) ?_ ?_ ?_ rfl⟩
      · rw [upd_same, List.map_append]; rfl
      · rw [List.length_append, List.length_singleton]; omega
      · rw [List.length_append, List.length_singleton]; unfold nxtF at hlen; rw [if_neg heven'] at hlen; omega
  · refine ⟨(show 2 ≤ sizeLine by decide), fun t0 ht0 => ⟨(show 1 ≤ sizeLine by decide), fun T hT1 => ?_⟩⟩
    dsimp only [gName]
    have k0 := same_new ht0 (.tup [.str "name", .str "x"])
    have hT : H T = none := (s2.trans k0).free hT1
    have k1 := same_new hT1 (.lst [.ref t0])
    have hT2 := upd_same (H := upd H2 t0 (.tup [.str "name", .str "x"])) (a := T) (o := .lst [.ref t0])
    have h0 := k1 _ _ (upd_same (H := H2) (a := t0) (o := .tup [.str "name", .str "x"]))
    have hA3 := k1 _ _ (k0 _ _ hA2)
    have hTA : T ≠ A := (ne_of_none (k0 _ _ hA2) hT1).symm
    generalize upd (upd H2 t0 (.tup [.str "name", .str "x"])) T (.lst [.ref t0]) = H3 at k1 hT2 h0 hA3 ⊢
    have s3 := s2.trans (k0.trans k1)
    have tm0 : Tms H3 [.ref t0] [TM.name "x"] := .cons ⟨t0, rfl, h0⟩ .nil
    have rs0 : RsOk [TM.name "x"] := rsok_snoc rsok_nil (fun x as e => by cases e)
    refine ⟨_, rfl, A, _, rfl, hA3, ?_⟩
    refine for_rev (xs := pl.map wdV) (PtI H A T (nV k) pl) (PtI.mk _ _ none none rfl s3 hA3 hT2 tm0 rs0 rfl) ?_ ?_ ?_
    · rintro i σ H' _ ⟨us, ts, x3, x4, rfl, sm, hA', _⟩
      exact hA'
    · rintro i x σ H' hi hx ⟨us, ts, x3, x4, rfl, sm, hA', hT', htm', hrs', hl'⟩
      have hlen2 := Paired.length htm'
      rw [List.length_map] at hi
      obtain ⟨bb, _, rfl⟩ := List.mem_map.mp (List.mem_of_getElem? hx)
      dsimp only [gName]
      refine ⟨_, rfl, T, us, rfl, .inl (SqL.of hT'), _, _, rfl, rfl, ?_⟩
      have e1 : V.int (((us.length : Nat) : Int) - 1) = nV (us.length - 1) := by show V.int _ = V.int _; congr 1; omega
      dsimp only [gName]
      rw [e1]
      have fin : ∀ (as : List Nat) (H4 : Hp) (p t : Addr) (z : Str), Same H' H4 → H4 p = some (.tup (as.map nV)) → H4 t = some (.tup [.str "of", .str z, .ref p]) → as.length ≤ 4 → 1 ≤ as.length → (∀ b ∈ as, b < ts.length) →
          PtI H A T (nV k) pl (i + 1) [some (nV k), some (.ref A), some (.ref T), some (wdV bb), some (nV (us.length - 1))] (upd H4 T (.lst (us ++ [.ref t]))) := fun as H4 p t z s4 hp4 ht4 l1 l2 l3 => by
        have hT4 := s4 _ _ hT'
        have kp : ∀ b ys, H4 b = some (.tup ys) → (upd H4 T (.lst (us ++ [.ref t]))) b = some (.tup ys) := fun b ys e => by rw [upd_ne (ne_of e hT4 (fun z => nomatch z))]; exact e
        have itm : IsTm H4 (.of z as) (.ref t) := ⟨t, p, rfl, ht4, hp4⟩
        refine PtI.mk (us ++ [.ref t]) (ts ++ [.of z as]) _ _ rfl ((sm.trans s4).put hT) ?_ upd_same (tms_snoc (tms_keep kp (tms_same s4 htm')) (itm.keep kp)) (rsok_snoc hrs' (fun x as' e => ?_)) (by rw [List.length_append, hl']; rfl)
        · rw [upd_ne hTA.symm]; exact s4 _ _ hA'
        · injection e with e1 e2
          subst e2
          exact ⟨l1, l2, l3⟩
      have lt1 : us.length - 1 < ts.length := by omega
      refine ⟨_, rfl, rfl, _, rfl, iteD (fun _ => ?_) (fun _ => ?_)⟩
      · refine ⟨_, rfl, .inl ⟨rfl, _, SqL.of hT'⟩, _, rfl, _, rfl, _, rfl, (show 2 ≤ sizeLine by decide), fun p hp => ⟨(show 3 ≤ sizeLine by decide), fun t ht => ?_⟩⟩
        have s4 := (same_new hp (.tup [nV (us.length - 1), nV (us.length - 1)])).trans (same_new ht (.tup [.str "of", wdV bb, .ref p]))
        have hp4 : (upd (upd H' p (.tup [nV (us.length - 1), nV (us.length - 1)])) t (.tup [.str "of", wdV bb, .ref p])) p = some (.tup ([us.length - 1, us.length - 1].map nV)) := by rw [upd_ne (ne_of_none upd_same ht), upd_same]; rfl
        exact ⟨T, us, .ref t, rfl, rfl, s4 _ _ hT', small1000 (by omega), fin [us.length - 1, us.length - 1] _ p t _ s4 hp4 upd_same (show 2 ≤ 4 by decide) (show 1 ≤ 2 by decide) fun b hb => by
          rcases List.mem_cons.mp hb with rfl | hb
          · exact lt1
          · rw [List.mem_singleton.mp hb]; exact lt1⟩
      · refine ⟨_, rfl, .inl ⟨rfl, _, SqL.of hT'⟩, _, rfl, _, rfl, (show 1 ≤ sizeLine by decide), fun p hp => ⟨(show 3 ≤ sizeLine by decide), fun t ht => ?_⟩⟩
        have s4 := (same_new hp (.tup [nV (us.length - 1)])).trans (same_new ht (.tup [.str "of", wdV bb, .ref p]))
        have hp4 : (upd (upd H' p (.tup [nV (us.length - 1)])) t (.tup [.str "of", wdV bb, .ref p])) p = some (.tup ([us.length - 1].map nV)) := by rw [upd_ne (ne_of_none upd_same ht), upd_same]; rfl
        exact ⟨T, us, .ref t, rfl, rfl, s4 _ _ hT', small1000 (by omega), fin [us.length - 1] _ p t _ s4 hp4 upd_same (show 1 ≤ 4 by decide) (show 1 ≤ 1 by decide) fun b hb => by rw [List.mem_singleton.mp hb]; exact lt1⟩
    · rintro σ H' ⟨us, ts, x3, x4, rfl, sm, hA', hT', htm', hrs', hl'⟩
      rw [List.length_map] at hl'
      exact ⟨_, rfl, q T us ts H' sm hT hT' htm' hrs' (by omega)⟩
inductive GivOk (H H' : Hp) (T E : Addr) (us evs : List V) (ts : List Tm) (es : List (Nat × Nat)) : Prop
  | mk : (Same H H') → (H' T = some (.lst us)) → (Tms H' us ts) → (H' E = some (.lst evs)) → (Edges H' evs es) → (RsOk ts) → (ts.length ≤ 64) → (∀ a b : Nat, (a, b) ∈ es → a < ts.length ∧ b < ts.length) → GivOk H H' T E us evs ts es
inductive SpGiven (K : PySem.W.Frag) (vs : List V) (H : Hp) (Q : VK) : Prop
  | mk (a : Addr) (ns : List Int) (z0 : vs = [.ref a]) (z1 : SqL K H a (ns.map V.int)) (z2 : ns.length ≤ 63) (z3 : (∀ c ∈ ns, BitsOk c)) (z4 : ∀ p T E us evs ts es H', GivOk H H' T E us evs ts es → H' p = some (.tup [.ref T, .ref E]) → Q (.ref p) H') : SpGiven K vs H Q
noncomputable def spGiven (K : PySem.W.Frag) : Sp := fun vs H Q _ => SpGiven K vs H Q
theorem neg_ok (n : Nat) : RsOk (TM.name "y" :: (List.range n).map fun i => TM.of (S := Str) "neg" [i]) := by
  induction n with
  | zero => exact rsok_snoc rsok_nil (fun x as e => by cases e)
  | succ n ih =>
    rw [List.range_succ, List.map_append]
    refine rsok_snoc (ts := TM.name "y" :: (List.range n).map fun i => TM.of "neg" [i]) ih (fun x as e => ?_)
    injection e with e1 e2
    subst e2
    refine ⟨(show 1 ≤ 4 by decide), (show 1 ≤ 1 by decide), fun b hb => ?_⟩
    rw [List.mem_singleton.mp hb, List.length_cons, List.length_map, List.length_range]
    omega
theorem ok_given (B : Blt mg) (h_sized : Has P w K mg base 1 "_law_sized" ["_law_many"] spSized) (h_made : Has P w K mg base 4 "_law_made" ["_law_script"] (spMade K)) (D : Def K mg "_law_given" s_given ["_law_script"]) : Has P w K mg base 5 "_law_given" ["_law_script"] (spGiven K) := by
  refine D.has sc_given (fun vs H Q E h => ?_) (fun f cdv A outer s H vs Q E hr h => ?_)
  · obtain ⟨a, ns, rfl, _⟩ := h; rfl
  obtain ⟨a, ns, rfl, hS, h63, hbits, q⟩ := h
  refine ⟨_, (pss_cons (ps_set (i := 1) sc_given.nd rfl (Or.inl rfl) pe_int)
    (pss_cons (ps_if (pt_cmpR op_gt (pe_callB call_len_seq rfl B.len_ PySem.boot_len (pa_cons (pv 0) pa_nil)) pe_int (nomark _)) (pss_one (ps_set (i := 1) sc_given.nd rfl (Or.inl rfl) (pe_op op_mod (pe_op op_mul (pe_ix ix_list (pv 0) (pe_un un_neg pe_int) (fun _ _ => rfl)) pe_int) pe_int))) pss_nil)
    (pss_cons (ps_if (pt_cmpR op_eq (pe_op op_mod (pv 1) pe_int) pe_int (nomark _)) (pss_one (ps_ret (pe_tup (pa_cons (pe_callH h_sized hr (by omega) rfl (pa_cons (pe_op op_add pe_int (pe_op op_mod (pe_op op_fdiv (pv 1) pe_int) pe_int)) pa_nil)) (pa_cons (pe_lst pa_nil) pa_nil))))) pss_nil)
    (pss_cons (ps_if (pt_cmpR op_eq (pe_op op_mod (pv 1) pe_int) pe_int (nomark _)) (pss_cons (ps_set (i := 2) sc_given.nd rfl (Or.inl rfl) (pe_op op_add pe_int (pe_op op_mod (pe_op op_fdiv (pv 1) pe_int) pe_int)))
    (pss_one (ps_ret (pe_tup (pa_cons (pe_op op_cat (pe_lst (pa_cons (pe_tup (pa_cons pe_str (pa_cons pe_str pa_nil))) pa_nil)) (pe_comp (te := _) (own := ["_law_k"]) (caps := []) (comp_scope (defScope s_given) ["_law_script", "_law_cell", "_law_many"] rfl rfl rfl (by decide +kernel)) (pi_range1 rfl B.range_ (pa_cons (pe_op op_sub (pv 2) pe_int) pa_nil)) rfl (fun _ _ _ => pg_name (i := 0) (show (["_law_k"] : List Str).Nodup by decide +kernel) rfl (Or.inl rfl)) (fun _ _ _ => (pe_tup (pa_cons pe_str (pa_cons pe_str (pa_cons (pe_tup (pa_cons (pv 0) pa_nil)) pa_nil))))))) (pa_cons (pe_lst pa_nil) pa_nil)))))) pss_nil)
    (pss_one (ps_ret (pe_callH h_made hr (by omega) rfl (pa_cons (pv 0) pa_nil)))))))), ?_⟩
  try dsimp only [cxOf]
  have hnl : (ns.map V.int).length = ns.length := List.length_map ..
  refine rd_set ?_
  refine rd_cut (fun σ' H' => ∃ c : Int, σ' = [some (.ref a), some (.int c), none] ∧ H' = H ∧ 0 ≤ c) ?_ (fun key => ?_)
  rotate_left
  · refine ⟨_, rfl, a, _, rfl, .inl hS, _, _, rfl, rfl, _, rfl, iteD (fun hpos => ?_) (fun _ => key _ _ ⟨0, rfl, rfl, Int.le_refl _⟩)⟩
    rcases List.eq_nil_or_concat ns with e | ⟨n0, z, e⟩
    · rw [e] at hpos; exact absurd hpos (by decide)
    rw [List.concat_eq_append] at e
    have ea : atI (ns.map V.int) (-1) = some (.int z) := by rw [e, List.map_append]; exact at_last _ _
    exact ⟨_, rfl, 1, rfl, a, _, _, _, rfl, rfl, hS, ea, _, _, rfl, rfl, .inr ⟨by decide, by decide⟩, _, _, rfl, rfl, pos', key _ _ ⟨_, rfl, rfl, Int.emod_nonneg _ (by decide)⟩⟩
  rintro σ' H' ⟨c, rfl, rfl, hc⟩
  refine ⟨_, rfl, _, _, rfl, rfl, pos', rfl, _, rfl, iteD (fun _ => ?_) (fun _ => ?_)⟩
  · have b0 : 0 ≤ c / 3 % 6 := Int.emod_nonneg _ (by decide)
    have b1 : c / 3 % 6 < 6 := Int.emod_lt_of_pos _ (by decide)
    have e : V.int (498 + c / 3 % 6) = nV (498 + c / 3 % 6).toNat := by show V.int _ = V.int _; congr 1; omega
    refine ⟨_, rfl, _, _, rfl, rfl, div', _, _, rfl, rfl, pos', _, _, rfl, rfl, (498 + c / 3 % 6).toNat, (by rw [← e]; rfl), by omega, by omega, fun T us ts H1 s1 hT0 hT htm hrs hl => ⟨Nat.zero_le _, fun E hE => ⟨(show 2 ≤ sizeLine by decide), fun p hp => ?_⟩⟩⟩
    have s2 := (same_new hE (.lst [])).trans (same_new hp (.tup [.ref T, .ref E]))
    exact q p T E us [] ts [] _ (GivOk.mk (s1.trans s2) (s2 _ _ hT) (tms_same s2 htm) ((same_new hp _) _ _ upd_same) .nil hrs hl (fun a b h => nomatch h)) upd_same
  refine ⟨_, rfl, _, _, rfl, rfl, pos', rfl, _, rfl, iteD (fun _ => ?_) (fun _ => ?_)⟩
  · have b0 : 0 ≤ c / 3 % 8 := Int.emod_nonneg _ (by decide)
    have b1 : c / 3 % 8 < 8 := Int.emod_lt_of_pos _ (by decide)
    refine ⟨_, rfl, _, _, rfl, rfl, div', _, _, rfl, rfl, pos', _, _, rfl, rfl, ?_⟩
    dsimp only [gName]
    have em : 57 + c / 3 % 8 - 1 = (((57 + c / 3 % 8 - 1).toNat : Nat) : Int) := by omega
    have hm : (57 + c / 3 % 8 - 1).toNat ≤ 63 := by omega
    generalize 57 + c / 3 % 8 = m1 at em hm ⊢
    refine ⟨(show 2 ≤ sizeLine by decide), fun t0 ht0 => ⟨(show 1 ≤ sizeLine by decide), fun l0 hl0 => ?_⟩⟩
    have k0 := same_new ht0 (.tup [.str "name", .str "y"])
    have k1 := same_new hl0 (.lst [.ref t0])
    have h0 := k1 _ _ (upd_same (H := H') (a := t0) (o := .tup [.str "name", .str "y"]))
    have hl1 := upd_same (H := upd H' t0 (.tup [.str "name", .str "y"])) (a := l0) (o := .lst [.ref t0])
    have k01 := k0.trans k1
    generalize upd (upd H' t0 (.tup [.str "name", .str "y"])) l0 (.lst [.ref t0]) = H2 at k01 k1 h0 hl1 ⊢
    refine ⟨_, rfl, _, _, rfl, rfl, _, rfl, by omega, by omega, ?_⟩
    generalize (m1 - 1).toNat = n at em hm ⊢
    refine comp_rangeP (R := fun H v t => IsTm H t v) (g := fun i => TM.of "neg" [i]) (fun Ha Hb v b kt hr => hr.keep kt) (by omega) (fun i hi H3 sm Q' q' => ?_) (fun D1 H3 ys hD1 s3 hD3 pr => ?_)
    · have ei : V.int (0 + (i : Int)) = nV i := by show V.int _ = V.int _; congr 1; omega
      refine ⟨_, rfl, (show 1 ≤ sizeLine by decide), fun p hp => ⟨(show 3 ≤ sizeLine by decide), fun t ht => q' _ _ ((same_new hp _).trans (same_new ht _)) ⟨t, p, rfl, upd_same, ?_⟩⟩⟩
      rw [upd_ne (ne_of_none upd_same ht), upd_same, ei]
      rfl
    have hlp := Paired.length pr
    rw [List.length_map, List.length_range] at hlp
    refine ⟨l0, D1, _, _, rfl, rfl, s3 _ _ hl1, hD3, Nat.le_trans (show 1 + ys.length ≤ 1000 by omega) (by decide), fun T hT => ⟨Nat.zero_le _, fun E hE => ⟨(show 2 ≤ sizeLine by decide), fun p hp => ?_⟩⟩⟩
    have k4 := same_new hT (.lst ([V.ref t0] ++ ys))
    have s4 := k4.trans ((same_new hE (.lst [])).trans (same_new hp (.tup [.ref T, .ref E])))
    refine q p T E (.ref t0 :: ys) [] (TM.name "y" :: (List.range n).map fun i => TM.of "neg" [i]) [] _ (GivOk.mk (k01.trans (s3.trans s4)) ((same_new hp _) _ _ ((same_new hE _) _ _ upd_same)) (tms_same s4 (.cons ⟨t0, rfl, s3 _ _ h0⟩ pr)) ((same_new hp _) _ _ upd_same) .nil (neg_ok n) ?_ (fun a b h => nomatch h)) upd_same
    rw [List.length_cons, List.length_map, List.length_range]
    omega
  · exact ⟨_, rfl, a, ns, rfl, hS, h63, hbits, fun p T E us evs ts es H1 mo hp _ _ => q p T E us evs ts es H1 (GivOk.mk mo.same mo.hT mo.tms mo.hE mo.eds ⟨mo.ok.1, mo.ok.2.1⟩ (by have := mo.few; omega) mo.lt) hp⟩
end

end K64
namespace K64
open PySem L2 Sw
section
variable {P : Program} {w : World} {K : PySem.W.Frag} {mg : Str → Option Value} {base : Heap}
structure ExcsB (K : PySem.W.Frag) (mg : Str → Option Value) (c_NoTree c_NoRule c_NoRow c_Full c_Apart c_TooBig c_TooWide c_SameError : Addr) : Prop where
  e_NoTree : mg "NoTree" = some (.ref c_NoTree)
  e_NoRule : mg "NoRule" = some (.ref c_NoRule)
  e_NoRow : mg "NoRow" = some (.ref c_NoRow)
  e_Full : mg "Full" = some (.ref c_Full)
  e_Apart : mg "Apart" = some (.ref c_Apart)
  e_TooWide : mg "TooWide" = some (.ref c_TooWide)
  e_SameError : mg "SameError" = some (.ref c_SameError)
  b_ValueError : mg "ValueError" = none
  zTooBig : ExcI K c_TooBig
  i_ValueError : PySem.W.kitOne K (.ref c_TooBig) (.type "ValueError") = some true
  i_SameError : PySem.W.kitOne K (.ref c_TooBig) (.ref c_SameError) = some true
  i_NoTree : PySem.W.kitOne K (.ref c_TooBig) (.ref c_NoTree) = some false
  i_NoRule : PySem.W.kitOne K (.ref c_TooBig) (.ref c_NoRule) = some false
  i_NoRow : PySem.W.kitOne K (.ref c_TooBig) (.ref c_NoRow) = some false
  i_Full : PySem.W.kitOne K (.ref c_TooBig) (.ref c_Full) = some false
  i_Apart : PySem.W.kitOne K (.ref c_TooBig) (.ref c_Apart) = some false
  i_TooWide : PySem.W.kitOne K (.ref c_TooBig) (.ref c_TooWide) = some false
  m_TooBig : PySem.W.exmOne K (.ref c_TooBig) (.ref c_TooBig) = some true
theorem kit_tt {K : PySem.W.Frag} : PySem.W.kitOne K (.type "tuple") (.type "tuple") = some true := by rfl
theorem ref_one {a : Addr} : ∀ u v, RelV (.ref a) u → RelV (.ref a) v → u = v := fun u v h1 h2 => (show u = Value.ref a from h1).trans (show v = Value.ref a from h2).symm
theorem ty_one {T : String} : ∀ u v, RelV (.ty T) u → RelV (.ty T) v → u = v := fun u v h1 h2 => (show u = Value.type T from h1).trans (show v = Value.type T from h2).symm
theorem vals_refs : ∀ (cs : List Addr) (us : List Value), Vals (cs.map V.ref) us → us = cs.map Value.ref
  | [], us, h => by cases h; rfl
  | c :: cs, us, h => by
    cases h with
    | cons h1 h2 => rw [vals_refs cs _ h2, show _ = Value.ref c from h1]; rfl
theorem kit_none {K : PySem.W.Frag} {t : Value} : ∀ (cs : List Addr), (∀ c ∈ cs, PySem.W.kitOne K t (.ref c) = some false) → PySem.W.kitAny K t (cs.map Value.ref) = some false
  | [], _ => rfl
  | c :: cs, h => by
    rw [List.map_cons, PySem.W.kitAny, h c List.mem_cons_self]
    exact kit_none cs fun d hd => h d (List.mem_cons_of_mem _ hd)
variable {c_NoTree c_NoRule c_NoRow c_Full c_Apart c_TooBig c_TooWide c_SameError : Addr}
theorem pairs_den {H : Hp} : ∀ {rvs : List V} {rs : List Rw}, Paired (PairAt H) rvs rs → Dens H (rs.map fun r => .tup [.int ((r.1 : Nat) : Int), .int ((r.2 : Nat) : Int)]) rvs
  | _, _, .nil => dens_nil
  | _, _, .cons h t => by
    rw [List.map_cons]
    refine dens_cons ?_ (pairs_den t)
    obtain ⟨b, rfl, hb⟩ := h
    rw [Den]
    exact ⟨b, _, rfl, hb, dens_cons (by rw [Den]; exact .inl rfl) (dens_cons (by rw [Den]; exact .inl rfl) dens_nil)⟩
theorem pairs_deep (rs : List Rw) : L2.D.deeps (rs.map fun r => .tup [.int ((r.1 : Nat) : Int), .int ((r.2 : Nat) : Int)]) ≤ 2 := deeps_of fun d hd => by
  obtain ⟨r, _, rfl⟩ := List.mem_map.mp hd
  rw [L2.D.deep, L2.D.deeps, L2.D.deeps, L2.D.deeps, L2.D.deep, L2.D.deep]
  decide
theorem dF_tup (ts : List Tm) (ls : List Nat) (rs : List Rw) {l : Nat} (h : l ∈ rs.map (·.1)) : ∃ ds, dF ts ls rs l = .tup ds := by
  have key : ∀ (n : Nat) (rs : List Rw), rs.length = n → l ∈ rs.map (·.1) → ∃ ds, dF ts ls rs l = .tup ds := by
    intro n
    induction n with
    | zero => intro rs hn hl; rw [List.length_eq_zero_iff.mp hn] at hl; cases hl
    | succ n ih =>
      intro rs hn hl
      rcases List.eq_nil_or_concat rs with e | ⟨r0, r, e⟩
      · rw [e] at hn; cases hn
      rw [List.concat_eq_append] at e
      subst e
      rw [List.length_append, List.length_singleton] at hn
      rw [dF_snoc]
      unfold stepD
      by_cases e : l = r.1
      · rw [if_pos e]
        generalize mtF ts ls r.2 = t
        cases t with
        | num n => exact ⟨_, rfl⟩
        | name n => exact ⟨_, rfl⟩
        | of x as => exact ⟨_, rfl⟩
      · rw [if_neg e]
        refine ih r0 (by omega) ?_
        rw [List.map_append] at hl
        rcases List.mem_append.mp hl with z | z
        · exact z
        · exact absurd (List.mem_singleton.mp z) e
  exact key _ rs rfl h
inductive SpLaw (K : PySem.W.Frag) (vs : List V) (H : Hp) (Q : VK) : Prop
  | mk (a : Addr) (ns : List Int) (z0 : vs = [.ref a]) (z1 : SqL K H a (ns.map V.int)) (z2 : ns.length ≤ 63) (z3 : (∀ c ∈ ns, Builtin.Int.intBits c ≤ 1048576)) (z4 : ∀ H', Q (.bl true) H') : SpLaw K vs H Q
noncomputable def spLaw (K : PySem.W.Frag) : Sp := fun vs H Q _ => SpLaw K vs H Q
inductive TrI (H : Hp) (a T E L C Hd : Addr) (ts : List Tm) (ls : List Nat) (rs : List Rw) (l : Nat) (σ : St) (H' : Hp) : Prop
  | mk : ∀ (v : V) (b : Bool), (σ = [some (.ref a), some (.ref T), some (.ref E), some (.ref L), some (.ref C), some (.ref Hd), some v, some (.bl b), none, none]) → (Same H H') → ((zF ts ls rs l).1 ≤ 500 ∧ (zF ts ls rs l).2 ≤ 60 → b = false ∧ Den H' (dF ts ls rs l) v) → (¬ ((zF ts ls rs l).1 ≤ 500 ∧ (zF ts ls rs l).2 ≤ 60) → b = true ∧ v = .non) → TrI H a T E L C Hd ts ls rs l σ H'
theorem ok_law (B : Blt mg) (oTooBig : Exc K mg "TooBig" c_TooBig) (Y : ExcsB K mg c_NoTree c_NoRule c_NoRow c_Full c_Apart c_TooBig c_TooWide c_SameError) (h_given : Has P w K mg base 5 "_law_given" ["_law_script"] (spGiven K)) (h_closed : Has P w K mg base 3 "closed" ["terms", "edges"] (spClosed K))
    (h_drawn : Has P w K mg base 3 "_law_drawn" ["_law_terms", "_law_leads", "_law_lead", "_law_script"] spDrawnC) (h_taken : HasE P w K mg base 2 "taken" ["terms", "leads", "choice"] (spTaken c_TooBig)) (h_size : Has P w K mg base 2 "_law_size" ["_law_choice", "_law_terms", "_law_leads"] spSizeL)
    (h_tree : Has P w K mg base 1 "_law_tree" ["_law_choice", "_law_terms", "_law_leads"] spTreeL) {f : Addr} {fd : FuncData} (F : Fun K "law" "law" s_law f fd) : FnOk P w K mg base CX0 6 f fd ["_law_script"] (spLaw K) := by
  have zTooBig := Y.zTooBig
  have e_NoTree := Y.e_NoTree
  have e_NoRule := Y.e_NoRule
  have e_NoRow := Y.e_NoRow
  have e_Full := Y.e_Full
  have e_Apart := Y.e_Apart
  have e_TooBig := oTooBig.glob
  have e_TooWide := Y.e_TooWide
  have e_SameError := Y.e_SameError
  have b_ValueError := Y.b_ValueError
  refine F.ok sc_law (fun vs H Q E h => ?_) (fun cdv A outer s H vs Q E hr h => ?_)
  · obtain ⟨a, ns, rfl, _⟩ := h; rfl
  obtain ⟨a, ns, rfl, hS, h63, hbits, q⟩ := h
  refine ⟨_, (pss_cons (ps_asg (pe_callH h_given hr (by omega) rfl (pa_cons (pv 0) pa_nil)) (pg_tup rfl (pgs_cons (pg_name (i := 1) sc_law.nd rfl (Or.inl rfl)) (pgs_cons (pg_name (i := 2) sc_law.nd rfl (Or.inl rfl)) pgs_nil))))
    (pss_cons (ps_if (pt_cmpR op_eq (pe_callB call_len_seq rfl B.len_ PySem.boot_len (pa_cons (pv 1) pa_nil)) pe_int (nomark _)) (pss_one (ps_ret pe_bl)) pss_nil)
    (pss_cons (ps_set (i := 3) sc_law.nd rfl (Or.inl rfl) (pe_callH h_closed hr (by omega) rfl (pa_cons (pe_callTy call_list_of rfl B.list_ boot_list_ (pa_cons (pv 1) pa_nil)) (pa_cons (pe_callTy call_list_of rfl B.list_ boot_list_ (pa_cons (pv 2) pa_nil)) pa_nil))))
    (pss_cons (ps_set (i := 4) sc_law.nd rfl (Or.inl rfl) (pe_callH h_drawn hr (by omega) rfl (pa_cons (pv 1) (pa_cons (pv 3) (pa_cons (pe_ix ix_list (pv 3) (pe_un un_neg pe_int) (fun _ _ => rfl)) (pa_cons (pe_op op_catS (pv 0) (pe_lst (pa_cons pe_int pa_nil))) pa_nil))))))
    (pss_cons (ps_set (i := 5) sc_law.nd rfl (Or.inl rfl) (pe_lst (pa_cons (pe_callTy call_list_of rfl B.list_ boot_list_ (pa_cons (pv 1) pa_nil)) (pa_cons (pe_callTy call_list_of rfl B.list_ boot_list_ (pa_cons (pv 3) pa_nil)) (pa_cons (pe_callTy call_list_of rfl B.list_ boot_list_ (pa_cons (pv 4) pa_nil)) pa_nil)))))
    (pss_cons (ps_set (i := 6) sc_law.nd rfl (Or.inl rfl) pe_non)
    (pss_cons (ps_set (i := 7) sc_law.nd rfl (Or.inl rfl) pe_bl)
    (pss_cons (ps_try (i := 8) ⟨rfl, rfl⟩ sc_law.nd rfl rfl rfl e_TooBig (pst_set (i := 6) sc_law.nd rfl (Or.inl rfl) (pet_callE h_taken hr (by omega) rfl (pa_cons (pe_ix ix_list (pv 5) pe_int (fun _ _ => rfl)) (pa_cons (pe_ix ix_list (pv 5) pe_int (fun _ _ => rfl)) (pa_cons (pe_ix ix_list (pv 5) pe_int (fun _ _ => rfl)) pa_nil))))) (fun ea => (pss_cons (ps_set (i := 7) sc_law.nd rfl (Or.inl rfl) (pe_and (pe_callB (call_isXK (K := K) rfl oTooBig zTooBig) rfl B.isinstance_ boot_isinstance_ (pa_cons (pv 8) (pa_cons (pe_glob (v := .ref c_SameError) rfl e_SameError rfl) pa_nil))) (pe_one (pe_callB (call_isXK (K := K) rfl oTooBig zTooBig) rfl B.isinstance_ boot_isinstance_ (pa_cons (pv 8) (pa_cons (pe_bltn (v := .ty "ValueError") rfl b_ValueError boot_ValueError_ rfl) pa_nil))))))
    (pss_one (ps_set (i := 7) sc_law.nd rfl (Or.inl rfl) (pe_and (pv 7) (pe_one (pe_not (pe_callB (call_isXKT (K := K) rfl oTooBig zTooBig) rfl B.isinstance_ boot_isinstance_ (pa_cons (pv 8) (pa_cons (pe_tup (pa_cons (pe_glob (v := .ref c_Apart) rfl e_Apart rfl) (pa_cons (pe_glob (v := .ref c_Full) rfl e_Full rfl) (pa_cons (pe_glob (v := .ref c_NoRow) rfl e_NoRow rfl) (pa_cons (pe_glob (v := .ref c_NoRule) rfl e_NoRule rfl) (pa_cons (pe_glob (v := .ref c_NoTree) rfl e_NoTree rfl) (pa_cons (pe_glob (v := .ref c_TooWide) rfl e_TooWide rfl) pa_nil))))))) pa_nil)))))))))))
    (pss_cons (ps_set (i := 9) sc_law.nd rfl (Or.inl rfl) (pe_callH h_size hr (by omega) rfl (pa_cons (pv 4) (pa_cons (pv 1) (pa_cons (pv 3) pa_nil)))))
    (pss_cons (ps_if (pt_cmpR (op_neD (un101 hr)) (pv 5) (pe_lst (pa_cons (pv 1) (pa_cons (pv 3) (pa_cons (pv 4) pa_nil)))) (nomark _)) (pss_one (ps_ret pe_bl)) pss_nil)
    (pss_cons (ps_if (PW.pt (pw_or (pt_cmpR op_gt (pe_ix ix_tup (pv 9) pe_int (fun _ _ => rfl)) pe_int (nomark _)) (pw_or1 (pt_cmpR op_gt (pe_ix ix_tup (pv 9) pe_int (fun _ _ => rfl)) pe_int (nomark _))))) (pss_one (ps_ret (pe_and (pv 7) (pe_one (pe_cmpR op_isN (pv 6) pe_non (nomark _)))))) pss_nil)
    (pss_one (ps_ret (pe_and (pe_not (pv 7)) (pe_and (pe_callB call_isT rfl B.isinstance_ boot_isinstance_ (pa_cons (pv 6) (pa_cons (pe_bltn (v := .ty "tuple") rfl B.tuple_ boot_tuple_ rfl) pa_nil))) (pe_one (pe_cmpR (op_eqD (un101 hr)) (pv 6) (pe_callH h_tree hr (by omega) rfl (pa_cons (pv 4) (pa_cons (pv 1) (pa_cons (pv 3) pa_nil)))) (nomark _)))))))))))))))))), ?_⟩
  try dsimp only [cxOf]
  refine ⟨_, rfl, a, ns, rfl, hS, h63, (fun c hc => Nat.le_trans (hbits c hc) (by decide)), fun p T E us evs ts es H1 go hp => ?_⟩
  obtain ⟨s1, hT1, htm1, hE1, hed1, hrs, hl64, hlt⟩ := go
  refine ⟨p, _, rfl, SqT.of hp, rfl, _, _, rfl, _, _, rfl, rfl, ?_⟩
  have hut := Paired.length htm1
  refine ⟨_, rfl, T, us, rfl, .inl (SqL.of hT1), rfl, _, rfl, iteD (fun _ => q _) (fun hne => ?_)⟩
  have hpos : 0 < ts.length := by
    rcases Nat.eq_zero_or_pos ts.length with z | z
    · exact absurd (by rw [hut, z]; rfl) hne
    · exact z
  refine ⟨_, rfl, T, us, rfl, .inl (SqL.of hT1), fun A1 hA1 => ?_⟩
  have s2 := same_new hA1 (.lst us)
  have hA := upd_same (H := H1) (a := A1) (o := .lst us)
  generalize upd H1 A1 (.lst us) = H2 at s2 hA ⊢
  refine ⟨_, rfl, E, evs, rfl, .inl (SqL.of (s2 _ _ hE1)), fun A2 hA2 => ?_⟩
  have s3 := same_new hA2 (.lst evs)
  have hA3 := upd_same (H := H2) (a := A2) (o := .lst evs)
  generalize upd H2 A2 (.lst evs) = H3 at s3 hA3 ⊢
  have s23 := s2.trans s3
  have short : ∀ (i : Nat) x as, ts[i]? = some (.of x as) → as.length ≤ 1000 := fun i x as e => Nat.le_trans (hrs.2 i x as e).1 (by decide)
  refine ⟨A1, A2, us, evs, ts, es, rfl, s3 _ _ hA, tms_same s23 htm1, SqL.of hA3, edges_keep (fun b ys => s23 _ _) hed1, hrs.1, by omega, short, hlt, fun L ls H4 s4 hL0 hL hc => ?_⟩
  dsimp only [gName]
  have g4 : Same H1 H4 := s23.trans s4
  have hT4 := g4 _ _ hT1
  have htm4 := tms_same g4 htm1
  have pi : PrG ts ls := ⟨hrs.1, hc.1, by omega, short, hc.2.1⟩
  have hll := hc.1
  have eal : atI (ls.map nV) (-1) = some (nV (ls.getD (ts.length - 1) 0)) := by
    rcases List.eq_nil_or_concat ls with e | ⟨l0, x, e⟩
    · rw [e] at hll; have : ([] : List Nat).length = 0 := rfl; omega
    rw [List.concat_eq_append] at e
    have e2 : ts.length - 1 = l0.length := by rw [e, List.length_append, List.length_singleton] at hll; omega
    rw [e2, e, List.map_append]
    have e3 : (l0 ++ [x]).getD l0.length 0 = x := by rw [List.getD_eq_getElem?_getD]; simp
    rw [e3]
    exact at_last _ _
  refine ⟨_, rfl, _, rfl, _, rfl, 1, rfl, L, _, _, _, rfl, rfl, SqL.of hL, eal, _, rfl, (show 1 ≤ sizeLine by decide), fun l5 hl5 => ?_⟩
  have s5 := same_new hl5 (.lst [.int 5])
  have hl55 := upd_same (H := H4) (a := l5) (o := .lst [.int 5])
  generalize upd H4 l5 (.lst [.int 5]) = H5 at s5 hl55 ⊢
  have g5 := g4.trans s5
  refine ⟨a, l5, _, _, rfl, rfl, (s1.trans g5).seq hS, hl55, (by rw [List.length_map]; exact Nat.le_trans (show ns.length + 1 ≤ 1000 by omega) (by decide)), fun Z hZ => ?_⟩
  have s6 := same_new hZ (.lst (ns.map V.int ++ [.int 5]))
  have hZ6 : (upd H5 Z (.lst (ns.map V.int ++ [.int 5]))) Z = some (.lst ((ns ++ [5]).map V.int)) := by rw [upd_same, List.map_append]; rfl
  generalize upd H5 Z (.lst (ns.map V.int ++ [.int 5])) = H6 at s6 hZ6 ⊢
  have g46 := s5.trans s6
  refine ⟨T, L, Z, us, ts, ls, ns ++ [5], ls.getD (ts.length - 1) 0, rfl, g46 _ _ hT4, tms_same g46 htm4, g46 _ _ hL, pi, hZ6, (by rw [List.length_append, List.length_singleton]; omega), ⟨_, by omega, rfl⟩, fun C rvs rs l' H7 s7 hC hpr ch hrl hlast => ?_⟩
  dsimp only [gName]
  have g47 := g46.trans s7
  have hT7 := g47 _ _ hT4
  have hL7 := g47 _ _ hL
  have htm7 := tms_same g47 htm4
  refine ⟨_, rfl, T, us, rfl, .inl (SqL.of hT7), fun G1 hG1 => ?_⟩
  have w1 := same_new hG1 (.lst us)
  have hG1a := upd_same (H := H7) (a := G1) (o := .lst us)
  generalize upd H7 G1 (.lst us) = H8 at w1 hG1a ⊢
  refine ⟨_, rfl, L, _, rfl, .inl (SqL.of (w1 _ _ hL7)), fun G2 hG2 => ?_⟩
  have w2 := same_new hG2 (.lst (ls.map nV))
  have hG2a := upd_same (H := H8) (a := G2) (o := .lst (ls.map nV))
  generalize upd H8 G2 (.lst (ls.map nV)) = H9 at w2 hG2a ⊢
  refine ⟨_, rfl, C, _, rfl, .inl (SqL.of ((w1.trans w2) _ _ hC)), fun G3 hG3 => ?_⟩
  have w3 := same_new hG3 (.lst rvs)
  have hG3a := upd_same (H := H9) (a := G3) (o := .lst rvs)
  generalize upd H9 G3 (.lst rvs) = Hx at w3 hG3a ⊢
  refine ⟨(show 3 ≤ sizeLine by decide), fun Hd hHd => ?_⟩
  dsimp only [gName]
  have w4 := same_new hHd (.lst [.ref G1, .ref G2, .ref G3])
  have hHd12 := upd_same (H := Hx) (a := Hd) (o := .lst [.ref G1, .ref G2, .ref G3])
  generalize upd Hx Hd (.lst [.ref G1, .ref G2, .ref G3]) = Hy at w4 hHd12 ⊢
  have wy : Same H7 Hy := w1.trans (w2.trans (w3.trans w4))
  have hG1y := (w2.trans (w3.trans w4)) _ _ hG1a
  have hG2y := (w3.trans w4) _ _ hG2a
  have hG3y := w4 _ _ hG3a
  have hTy := wy _ _ hT7
  have hLy := wy _ _ hL7
  have hCy := wy _ _ hC
  have htmy := tms_same wy htm7
  have hpry : Paired (PairAt Hy) rvs rs := Paired.mapP hpr fun _ _ z => z.keep fun b ys => wy _ _
  have hrl9 : rs.length ≤ 900 := by omega
  refine rd_set (rd_set ?_)
  refine rd_cut (TrI Hy a T E L C Hd ts ls rs l') ?_ (fun key => ?_)
  rotate_left
  · refine ⟨_, rfl, Hd, _, 0, _, rfl, rfl, SqL.of hHd12, atI_nat (j := 0) rfl, _, rfl, Hd, _, 1, _, rfl, rfl, SqL.of hHd12, atI_nat (j := 1) rfl, _, rfl, Hd, _, 2, _, rfl, rfl, SqL.of hHd12, atI_nat (j := 2) rfl, ?_⟩
    refine ⟨G1, G2, G3, us, rvs, ts, ls, rs, l', rfl, hG1y, htmy, hG2y, pi, hG3y, hpry, ch, hrl9, hlast, fun yes r H2' s2' hr2 => key _ _ (TrI.mk r false rfl s2' (fun _ => ⟨rfl, hr2⟩) (fun z => absurd yes z)), fun no H2' s2' => ⟨c_TooBig, rfl, Y.m_TooBig, fun ea hea => ?_⟩⟩
    have sx := same_new hea (XO ea c_TooBig)
    refine ⟨_, rfl, ea, _, _, true, rfl, upd_same, rfl, ref_one, Y.i_SameError, true, rfl, iteT ⟨_, rfl, ea, _, _, true, rfl, upd_same, rfl, ty_one, Y.i_ValueError, ?_⟩⟩
    dsimp only [gName]
    have kn : PySem.W.kitAny K (.ref c_TooBig) ([c_Apart, c_Full, c_NoRow, c_NoRule, c_NoTree, c_TooWide].map Value.ref) = some false := kit_none _ fun c hc => by
      simp only [List.mem_cons, List.not_mem_nil, or_false] at hc
      rcases hc with rfl | rfl | rfl | rfl | rfl | rfl
      · exact Y.i_Apart
      · exact Y.i_Full
      · exact Y.i_NoRow
      · exact Y.i_NoRule
      · exact Y.i_NoTree
      · exact Y.i_TooWide
    refine ⟨_, rfl, true, rfl, iteT ⟨_, rfl, (show 6 ≤ sizeLine by decide), fun tp htp => ?_⟩⟩
    have sy := same_new htp (.tup ([c_Apart, c_Full, c_NoRow, c_NoRule, c_NoTree, c_TooWide].map V.ref))
    have htp1 : (upd (upd H2' ea (XO ea c_TooBig)) tp (.tup ([c_Apart, c_Full, c_NoRow, c_NoRule, c_NoTree, c_TooWide].map V.ref))) tp = some (.tup ([c_Apart, c_Full, c_NoRow, c_NoRule, c_NoTree, c_TooWide].map V.ref)) := upd_same
    exact ⟨ea, tp, _, _, false, rfl, sy _ _ upd_same, htp1, vals_refs _, kn, false, rfl, key _ _ (TrI.mk .non true rfl (s2'.trans (sx.trans sy)) (fun z => absurd z no) (fun _ => ⟨rfl, rfl⟩))⟩
  rintro σ' Hz ⟨v, b, rfl, sz, hyes, hno⟩
  have hTz := sz _ _ hTy
  have hLz := sz _ _ hLy
  have hCz := sz _ _ hCy
  have htmz := tms_same sz htmy
  have hprz : Paired (PairAt Hz) rvs rs := Paired.mapP hpry fun _ _ z => z.keep fun b ys => sz _ _
  refine ⟨_, rfl, _, rfl, _, rfl, C, T, L, rvs, us, ts, ls, rs, l', rfl, hTz, htmz, hLz, pi, hCz, hprz, ch, hrl9, hlast, fun zr Ha sa hzr => ?_⟩
  dsimp only [gName]
  obtain ⟨za, rfl, hza⟩ := hzr
  refine ⟨_, rfl, _, rfl, _, rfl, _, rfl, (show 3 ≤ sizeLine by decide), fun Z2 hZ2 => ?_⟩
  have sb := same_new hZ2 (.lst [.ref T, .ref L, .ref C])
  have hZb := upd_same (H := Ha) (a := Z2) (o := .lst [.ref T, .ref L, .ref C])
  generalize upd Ha Z2 (.lst [.ref T, .ref L, .ref C]) = Hb at sb hZb ⊢
  have syb := sz.trans (sa.trans sb)
  have szb := sa.trans sb
  have d1 : ∀ {A : Addr}, Hb A = some (.lst us) → Den Hb (.lst (ts.map tmD)) (.ref A) := fun {A} e => by rw [Den]; exact ⟨A, us, rfl, e, tms_den (tms_same syb htmy)⟩
  have d3 : ∀ {A : Addr}, Hb A = some (.lst rvs) → Den Hb (.lst (rs.map fun r => .tup [.int ((r.1 : Nat) : Int), .int ((r.2 : Nat) : Int)])) (.ref A) := fun {A} e => by rw [Den]; exact ⟨A, rvs, rfl, e, pairs_den (Paired.mapP hpry fun _ _ z => z.keep fun b ys => syb _ _)⟩
  have dl : ∀ {A : Addr}, Hb A = some (.lst (ls.map nV)) → Den Hb (.lst (ls.map fun n : Nat => L2.D.int (n : Int))) (.ref A) := fun {A} e => den_leads e
  have deep : L2.D.deeps [.lst (ts.map tmD), .lst (ls.map fun n : Nat => L2.D.int (n : Int)), .lst (rs.map fun r => .tup [.int ((r.1 : Nat) : Int), .int ((r.2 : Nat) : Int)])] ≤ 150 := by
    rw [L2.D.deeps, L2.D.deeps, L2.D.deeps, L2.D.deeps, L2.D.deep, L2.D.deep, L2.D.deep, ints_deep]
    have := tms_deep ts
    have := pairs_deep rs
    omega
  refine ⟨_, _, .inr ⟨(by rw [Den]; exact ⟨Hd, _, rfl, syb _ _ hHd12, dens_cons (d1 (syb _ _ hG1y)) (dens_cons (dl (syb _ _ hG2y)) (dens_cons (d3 (syb _ _ hG3y)) dens_nil))⟩), (by rw [Den]; exact ⟨Z2, _, rfl, hZb, dens_cons (d1 (syb _ _ hTy)) (dens_cons (dl (syb _ _ hLy)) (dens_cons (d3 (syb _ _ hCy)) dens_nil))⟩)⟩, deep, _, rfl, iteDN (fun z => absurd rfl z) (fun _ => ?_)⟩
  have hzb := sb _ _ hza
  have big : ¬ ((zF ts ls rs l').1 ≤ 500 ∧ (zF ts ls rs l').2 ≤ 60) → b = true ∧ v = .non := hno
  refine ⟨_, rfl, za, _, 0, _, rfl, rfl, SqT.of hzb, atI_nat (j := 0) rfl, _, _, rfl, rfl, _, rfl, iteD (fun h1 => iteT ?_) (fun h1 => ?_)⟩
  · obtain ⟨rfl, rfl⟩ := big fun z => by omega
    refine ⟨_, rfl, true, rfl, iteT ⟨_, rfl, rfl, ?_⟩⟩
    rw [decide_eq_true rfl]
    exact q _
  refine ⟨_, rfl, za, _, 1, _, rfl, rfl, SqT.of hzb, atI_nat (j := 1) rfl, _, _, rfl, rfl, _, rfl, iteD (fun h2 => ?_) (fun h2 => ?_)⟩
  · obtain ⟨rfl, rfl⟩ := big fun z => by omega
    refine ⟨_, rfl, true, rfl, iteT ⟨_, rfl, rfl, ?_⟩⟩
    rw [decide_eq_true rfl]
    exact q _
  · have hz60 : (zF ts ls rs l').2 ≤ 60 := by omega
    obtain ⟨rfl, hd⟩ := hyes ⟨by omega, hz60⟩
    have hlm : l' ∈ rs.map (·.1) := by obtain ⟨r0, k, e⟩ := hlast; rw [e, List.map_append]; exact List.mem_append_right _ (List.mem_singleton.mpr rfl)
    have hck := ch_ok ch rs.length (Nat.le_refl _) l' (by rw [List.take_length]; exact hlm)
    rw [List.take_length] at hck
    obtain ⟨ds, hds⟩ := dF_tup ts ls rs hlm
    have hdp : L2.D.deeps ds ≤ 150 := by
      have := hck.1
      rw [hds, L2.D.deep] at this
      omega
    have hdb := den_same szb hd
    rw [hds] at hdb
    obtain ⟨fa, fvs, rfl, hfa, _⟩ := (by rw [Den] at hdb; exact hdb : ∃ a vs, v = .ref a ∧ Hb a = some (.tup vs) ∧ Dens Hb ds vs)
    refine ⟨_, rfl, false, rfl, true, rfl, iteT ⟨_, rfl, .ref fa, "tuple", .type "tuple", true, rfl, .tup hfa, kit_tt, true, rfl, iteT ?_⟩⟩
    refine ⟨_, rfl, _, rfl, _, rfl, _, rfl, C, T, L, rvs, us, ts, ls, rs, l', rfl, szb _ _ hTz, tms_same szb htmz, szb _ _ hLz, pi, szb _ _ hCz, (Paired.mapP hprz fun _ _ z => z.keep fun b ys => szb _ _), ch, hrl9, hlast, fun r Hc sc hrc => ?_⟩
    rw [hds] at hrc
    refine ⟨ds, ds, .inl ⟨den_same sc hdb, hrc⟩, hdp, ?_⟩
    rw [decide_eq_true rfl]
    exact q _
end

end K64
namespace K64
open PySem L2
theorem len_s {n : Nat} {us : List Value} (h : us.length = n + 1) : ∃ v vs, us = v :: vs ∧ vs.length = n := by cases us with | nil => cases h | cons v vs => exact ⟨v, vs, rfl, Nat.succ.inj h⟩
theorem len1_ {fd : FuncData} {ps : List Str} (h : ∀ v0 : Value, bindArgs fd ⟨[v0], []⟩ = pure (ps.zip [v0])) : ∀ us : List Value, us.length = 1 → bindArgs fd ⟨us, []⟩ = pure (ps.zip us) := fun us h0 => by obtain ⟨v0, us, rfl, h1⟩ := len_s h0; obtain rfl := List.eq_nil_of_length_eq_zero h1; exact h v0
open PySem L2 Sw
theorem len2_ {fd : FuncData} {ps : List Str} (h : ∀ v0 v1 : Value, bindArgs fd ⟨[v0, v1], []⟩ = pure (ps.zip [v0, v1])) : ∀ us : List Value, us.length = 2 → bindArgs fd ⟨us, []⟩ = pure (ps.zip us) := fun us h0 => by obtain ⟨v0, us, rfl, h1⟩ := len_s h0; obtain ⟨v1, us, rfl, h2⟩ := len_s h1; obtain rfl := List.eq_nil_of_length_eq_zero h2; exact h v0 v1
open PySem L2 Sw
theorem len3_ {fd : FuncData} {ps : List Str} (h : ∀ v0 v1 v2 : Value, bindArgs fd ⟨[v0, v1, v2], []⟩ = pure (ps.zip [v0, v1, v2])) : ∀ us : List Value, us.length = 3 → bindArgs fd ⟨us, []⟩ = pure (ps.zip us) := fun us h0 => by obtain ⟨v0, us, rfl, h1⟩ := len_s h0; obtain ⟨v1, us, rfl, h2⟩ := len_s h1; obtain ⟨v2, us, rfl, h3⟩ := len_s h2; obtain rfl := List.eq_nil_of_length_eq_zero h3; exact h v0 v1 v2
open PySem L2 Sw
theorem len4_ {fd : FuncData} {ps : List Str} (h : ∀ v0 v1 v2 v3 : Value, bindArgs fd ⟨[v0, v1, v2, v3], []⟩ = pure (ps.zip [v0, v1, v2, v3])) : ∀ us : List Value, us.length = 4 → bindArgs fd ⟨us, []⟩ = pure (ps.zip us) := fun us h0 => by obtain ⟨v0, us, rfl, h1⟩ := len_s h0; obtain ⟨v1, us, rfl, h2⟩ := len_s h1; obtain ⟨v2, us, rfl, h3⟩ := len_s h2; obtain ⟨v3, us, rfl, h4⟩ := len_s h3; obtain rfl := List.eq_nil_of_length_eq_zero h4; exact h v0 v1 v2 v3
open PySem L2 Sw
theorem all_mk {l : PySem.W.OpenLaw} {w : World} {K : PySem.W.Frag} {h : Heap} {mg : Str → Option Value} {fa f0 f1 f2 f3 f4 f5 f6 f7 f8 f9 f10 f11 f12 f13 f14 f15 f16 f17 f18 f19 f20 f21 c_NoTree c_NoRule c_NoRow c_Full c_Apart c_TooBig c_TooWide c_SameError : Addr} {t_MOST_TOLD_PARTS t_MOST_TOLD_DEEP : Tok} (X : K.In h) (G : h.Ns mainGlobals mg) (hfa : mg "law" = some (.ref fa))
    {od0 an0 od1 an1 od2 an2 od3 an3 od4 an4 od5 an5 od6 an6 od7 an7 od8 an8 od9 an9 od10 an10 od11 an11 od12 an12 od13 an13 od14 an14 od15 an15 od16 an16 od17 an17 od18 an18 od19 an19 od20 an20 od21 an21 : Option Addr} {sl0 sl1 sl2 sl3 sl4 sl5 sl6 sl7 sl8 sl9 sl10 sl11 sl12 sl13 sl14 sl15 sl16 sl17 sl18 sl19 sl20 sl21 : Array (Option Value)} {oc0 kV0 dc0 pm0 cd0 ct0 oc1 kV1 dc1 pm1 cd1 ct1 oc2 kV2 dc2 pm2 cd2 ct2 oc3 kV3 dc3 pm3 cd3 ct3 oc4 kV4 dc4 pm4 cd4 ct4 oc5 kV5 dc5 pm5 cd5 ct5 oc6 kV6 dc6 pm6 cd6 ct6 oc7 kV7 dc7 pm7 cd7 ct7 oc8 kV8 dc8 pm8 cd8 ct8 oc9 kV9 dc9 pm9 cd9 ct9 oc10 kV10 dc10 pm10 cd10 ct10 oc11 kV11 dc11 pm11 cd11 ct11 oc12 kV12 dc12 pm12 cd12 ct12 oc13 kV13 dc13 pm13 cd13 ct13 oc14 kV14 dc14 pm14 cd14 ct14 oc15 kV15 dc15 pm15 cd15 ct15 oc16 kV16 dc16 pm16 cd16 ct16 oc17 kV17 dc17 pm17 cd17 ct17 oc18 kV18 dc18 pm18 cd18 ct18 oc19 kV19 dc19 pm19 cd19 ct19 oc20 kV20 dc20 pm20 cd20 ct20 oc21 kV21 dc21 pm21 cd21 ct21 : Value}
    (a0 : PySem.W.nsIn K mainGlobals "mark" = some (some (.ref f0)))
    (l0 : K.lookup f0 = some ⟨oc0, od0, .func (PySem.W.fnOf "mark" "mark" (defArgs s_mark) (defBody s_mark) (defScope s_mark) .none kV0 dc0 pm0 an0 cd0 ct0), sl0⟩)
    (c0 : PySem.W.codeIn K cd0 "mark" = true)
    (k0 : PySem.W.keepIn K (.ref f0) = true)
    (a1 : PySem.W.nsIn K mainGlobals "join_classes" = some (some (.ref f1)))
    (l1 : K.lookup f1 = some ⟨oc1, od1, .func (PySem.W.fnOf "join_classes" "join_classes" (defArgs s_join_classes) (defBody s_join_classes) (defScope s_join_classes) .none kV1 dc1 pm1 an1 cd1 ct1), sl1⟩)
    (c1 : PySem.W.codeIn K cd1 "join_classes" = true)
    (k1 : PySem.W.keepIn K (.ref f1) = true)
    (a2 : PySem.W.nsIn K mainGlobals "join_like" = some (some (.ref f2)))
    (l2 : K.lookup f2 = some ⟨oc2, od2, .func (PySem.W.fnOf "join_like" "join_like" (defArgs s_join_like) (defBody s_join_like) (defScope s_join_like) .none kV2 dc2 pm2 an2 cd2 ct2), sl2⟩)
    (c2 : PySem.W.codeIn K cd2 "join_like" = true)
    (k2 : PySem.W.keepIn K (.ref f2) = true)
    (a3 : PySem.W.nsIn K mainGlobals "closed" = some (some (.ref f3)))
    (l3 : K.lookup f3 = some ⟨oc3, od3, .func (PySem.W.fnOf "closed" "closed" (defArgs s_closed) (defBody s_closed) (defScope s_closed) .none kV3 dc3 pm3 an3 cd3 ct3), sl3⟩)
    (c3 : PySem.W.codeIn K cd3 "closed" = true)
    (k3 : PySem.W.keepIn K (.ref f3) = true)
    (a4 : PySem.W.nsIn K mainGlobals "size_above" = some (some (.ref f4)))
    (l4 : K.lookup f4 = some ⟨oc4, od4, .func (PySem.W.fnOf "size_above" "size_above" (defArgs s_size_above) (defBody s_size_above) (defScope s_size_above) .none kV4 dc4 pm4 an4 cd4 ct4), sl4⟩)
    (c4 : PySem.W.codeIn K cd4 "size_above" = true)
    (k4 : PySem.W.keepIn K (.ref f4) = true)
    (a5 : PySem.W.nsIn K mainGlobals "refuse_great" = some (some (.ref f5)))
    (l5 : K.lookup f5 = some ⟨oc5, od5, .func (PySem.W.fnOf "refuse_great" "refuse_great" (defArgs s_refuse_great) (defBody s_refuse_great) (defScope s_refuse_great) .none kV5 dc5 pm5 an5 cd5 ct5), sl5⟩)
    (c5 : PySem.W.codeIn K cd5 "refuse_great" = true)
    (k5 : PySem.W.keepIn K (.ref f5) = true)
    (a6 : PySem.W.nsIn K mainGlobals "tree_above" = some (some (.ref f6)))
    (l6 : K.lookup f6 = some ⟨oc6, od6, .func (PySem.W.fnOf "tree_above" "tree_above" (defArgs s_tree_above) (defBody s_tree_above) (defScope s_tree_above) .none kV6 dc6 pm6 an6 cd6 ct6), sl6⟩)
    (c6 : PySem.W.codeIn K cd6 "tree_above" = true)
    (k6 : PySem.W.keepIn K (.ref f6) = true)
    (a7 : PySem.W.nsIn K mainGlobals "taken" = some (some (.ref f7)))
    (l7 : K.lookup f7 = some ⟨oc7, od7, .func (PySem.W.fnOf "taken" "taken" (defArgs s_taken) (defBody s_taken) (defScope s_taken) .none kV7 dc7 pm7 an7 cd7 ct7), sl7⟩)
    (c7 : PySem.W.codeIn K cd7 "taken" = true)
    (k7 : PySem.W.keepIn K (.ref f7) = true)
    (a8 : PySem.W.nsIn K mainGlobals "_law_word" = some (some (.ref f8)))
    (l8 : K.lookup f8 = some ⟨oc8, od8, .func (PySem.W.fnOf "_law_word" "_law_word" (defArgs s_word) (defBody s_word) (defScope s_word) .none kV8 dc8 pm8 an8 cd8 ct8), sl8⟩)
    (c8 : PySem.W.codeIn K cd8 "_law_word" = true)
    (k8 : PySem.W.keepIn K (.ref f8) = true)
    (a9 : PySem.W.nsIn K mainGlobals "_law_number" = some (some (.ref f9)))
    (l9 : K.lookup f9 = some ⟨oc9, od9, .func (PySem.W.fnOf "_law_number" "_law_number" (defArgs s_number) (defBody s_number) (defScope s_number) .none kV9 dc9 pm9 an9 cd9 ct9), sl9⟩)
    (c9 : PySem.W.codeIn K cd9 "_law_number" = true)
    (k9 : PySem.W.keepIn K (.ref f9) = true)
    (a10 : PySem.W.nsIn K mainGlobals "_law_knot" = some (some (.ref f10)))
    (l10 : K.lookup f10 = some ⟨oc10, od10, .func (PySem.W.fnOf "_law_knot" "_law_knot" (defArgs s_knot) (defBody s_knot) (defScope s_knot) .none kV10 dc10 pm10 an10 cd10 ct10), sl10⟩)
    (c10 : PySem.W.codeIn K cd10 "_law_knot" = true)
    (k10 : PySem.W.keepIn K (.ref f10) = true)
    (a11 : PySem.W.nsIn K mainGlobals "_law_term" = some (some (.ref f11)))
    (l11 : K.lookup f11 = some ⟨oc11, od11, .func (PySem.W.fnOf "_law_term" "_law_term" (defArgs s_term) (defBody s_term) (defScope s_term) .none kV11 dc11 pm11 an11 cd11 ct11), sl11⟩)
    (c11 : PySem.W.codeIn K cd11 "_law_term" = true)
    (k11 : PySem.W.keepIn K (.ref f11) = true)
    (a12 : PySem.W.nsIn K mainGlobals "_law_made" = some (some (.ref f12)))
    (l12 : K.lookup f12 = some ⟨oc12, od12, .func (PySem.W.fnOf "_law_made" "_law_made" (defArgs s_made) (defBody s_made) (defScope s_made) .none kV12 dc12 pm12 an12 cd12 ct12), sl12⟩)
    (c12 : PySem.W.codeIn K cd12 "_law_made" = true)
    (k12 : PySem.W.keepIn K (.ref f12) = true)
    (a13 : PySem.W.nsIn K mainGlobals "_law_arms" = some (some (.ref f13)))
    (l13 : K.lookup f13 = some ⟨oc13, od13, .func (PySem.W.fnOf "_law_arms" "_law_arms" (defArgs s_arms) (defBody s_arms) (defScope s_arms) .none kV13 dc13 pm13 an13 cd13 ct13), sl13⟩)
    (c13 : PySem.W.codeIn K cd13 "_law_arms" = true)
    (k13 : PySem.W.keepIn K (.ref f13) = true)
    (a14 : PySem.W.nsIn K mainGlobals "_law_picks" = some (some (.ref f14)))
    (l14 : K.lookup f14 = some ⟨oc14, od14, .func (PySem.W.fnOf "_law_picks" "_law_picks" (defArgs s_picks) (defBody s_picks) (defScope s_picks) .none kV14 dc14 pm14 an14 cd14 ct14), sl14⟩)
    (c14 : PySem.W.codeIn K cd14 "_law_picks" = true)
    (k14 : PySem.W.keepIn K (.ref f14) = true)
    (a15 : PySem.W.nsIn K mainGlobals "_law_rows" = some (some (.ref f15)))
    (l15 : K.lookup f15 = some ⟨oc15, od15, .func (PySem.W.fnOf "_law_rows" "_law_rows" (defArgs s_rows) (defBody s_rows) (defScope s_rows) .none kV15 dc15 pm15 an15 cd15 ct15), sl15⟩)
    (c15 : PySem.W.codeIn K cd15 "_law_rows" = true)
    (k15 : PySem.W.keepIn K (.ref f15) = true)
    (a16 : PySem.W.nsIn K mainGlobals "_law_drawn" = some (some (.ref f16)))
    (l16 : K.lookup f16 = some ⟨oc16, od16, .func (PySem.W.fnOf "_law_drawn" "_law_drawn" (defArgs s_drawn) (defBody s_drawn) (defScope s_drawn) .none kV16 dc16 pm16 an16 cd16 ct16), sl16⟩)
    (c16 : PySem.W.codeIn K cd16 "_law_drawn" = true)
    (k16 : PySem.W.keepIn K (.ref f16) = true)
    (a17 : PySem.W.nsIn K mainGlobals "_law_sized" = some (some (.ref f17)))
    (l17 : K.lookup f17 = some ⟨oc17, od17, .func (PySem.W.fnOf "_law_sized" "_law_sized" (defArgs s_sized) (defBody s_sized) (defScope s_sized) .none kV17 dc17 pm17 an17 cd17 ct17), sl17⟩)
    (c17 : PySem.W.codeIn K cd17 "_law_sized" = true)
    (k17 : PySem.W.keepIn K (.ref f17) = true)
    (a18 : PySem.W.nsIn K mainGlobals "_law_given" = some (some (.ref f18)))
    (l18 : K.lookup f18 = some ⟨oc18, od18, .func (PySem.W.fnOf "_law_given" "_law_given" (defArgs s_given) (defBody s_given) (defScope s_given) .none kV18 dc18 pm18 an18 cd18 ct18), sl18⟩)
    (c18 : PySem.W.codeIn K cd18 "_law_given" = true)
    (k18 : PySem.W.keepIn K (.ref f18) = true)
    (a19 : PySem.W.nsIn K mainGlobals "_law_size" = some (some (.ref f19)))
    (l19 : K.lookup f19 = some ⟨oc19, od19, .func (PySem.W.fnOf "_law_size" "_law_size" (defArgs s_size) (defBody s_size) (defScope s_size) .none kV19 dc19 pm19 an19 cd19 ct19), sl19⟩)
    (c19 : PySem.W.codeIn K cd19 "_law_size" = true)
    (k19 : PySem.W.keepIn K (.ref f19) = true)
    (a20 : PySem.W.nsIn K mainGlobals "_law_tree" = some (some (.ref f20)))
    (l20 : K.lookup f20 = some ⟨oc20, od20, .func (PySem.W.fnOf "_law_tree" "_law_tree" (defArgs s_tree) (defBody s_tree) (defScope s_tree) .none kV20 dc20 pm20 an20 cd20 ct20), sl20⟩)
    (c20 : PySem.W.codeIn K cd20 "_law_tree" = true)
    (k20 : PySem.W.keepIn K (.ref f20) = true)
    (a21 : PySem.W.nsIn K mainGlobals "law" = some (some (.ref f21)))
    (l21 : K.lookup f21 = some ⟨oc21, od21, .func (PySem.W.fnOf "law" "law" (defArgs s_law) (defBody s_law) (defScope s_law) .none kV21 dc21 pm21 an21 cd21 ct21), sl21⟩)
    (c21 : PySem.W.codeIn K cd21 "law" = true)
    (k21 : PySem.W.keepIn K (.ref f21) = true)
    (g_MOST_TOLD_PARTS : PySem.W.nsIn K mainGlobals "MOST_TOLD_PARTS" = some (some (.int 500 t_MOST_TOLD_PARTS)))
    (g_MOST_TOLD_DEEP : PySem.W.nsIn K mainGlobals "MOST_TOLD_DEEP" = some (some (.int 60 t_MOST_TOLD_DEEP)))
    (x_NoTree : PySem.W.nsIn K mainGlobals "NoTree" = some (some (.ref c_NoTree)))
    (x_NoRule : PySem.W.nsIn K mainGlobals "NoRule" = some (some (.ref c_NoRule)))
    (x_NoRow : PySem.W.nsIn K mainGlobals "NoRow" = some (some (.ref c_NoRow)))
    (x_Full : PySem.W.nsIn K mainGlobals "Full" = some (some (.ref c_Full)))
    (x_Apart : PySem.W.nsIn K mainGlobals "Apart" = some (some (.ref c_Apart)))
    (x_TooBig : PySem.W.nsIn K mainGlobals "TooBig" = some (some (.ref c_TooBig)))
    (x_TooWide : PySem.W.nsIn K mainGlobals "TooWide" = some (some (.ref c_TooWide)))
    (x_SameError : PySem.W.nsIn K mainGlobals "SameError" = some (some (.ref c_SameError)))
    (xEx : PySem.W.excIn K c_TooBig [.type "ValueError", .type "Exception", .type "BaseException", .type "object"] "ValueError.__new__" = true)
    (xCl : PySem.W.findIn K (.ref c_TooBig) "__class__" = some (some (.builtin "object.__class__")))
    (xGa : PySem.W.findIn K (.ref c_TooBig) "__getattribute__" = some (some (.builtin "BaseException.__getattribute__")))
    (xGn : PySem.W.findIn K (.ref c_TooBig) "__getattr__" = some none)
    (iVE : PySem.W.nsIn K mainGlobals "ValueError" = some none)
    (i_TooBig : PySem.W.kitOne K (.ref c_TooBig) (.ref c_TooBig) = some true)
    (i_ValueError : PySem.W.kitOne K (.ref c_TooBig) (.type "ValueError") = some true)
    (i_NoTree : PySem.W.kitOne K (.ref c_TooBig) (.ref c_NoTree) = some false)
    (i_NoRule : PySem.W.kitOne K (.ref c_TooBig) (.ref c_NoRule) = some false)
    (i_NoRow : PySem.W.kitOne K (.ref c_TooBig) (.ref c_NoRow) = some false)
    (i_Full : PySem.W.kitOne K (.ref c_TooBig) (.ref c_Full) = some false)
    (i_Apart : PySem.W.kitOne K (.ref c_TooBig) (.ref c_Apart) = some false)
    (i_TooWide : PySem.W.kitOne K (.ref c_TooBig) (.ref c_TooWide) = some false)
    (i_SameError : PySem.W.kitOne K (.ref c_TooBig) (.ref c_SameError) = some true)
    (mSE : PySem.W.exmOne K (.ref c_TooBig) (.ref c_TooBig) = some true)
    (z0 : PySem.W.nsIn K mainGlobals "len" = some none)
    (z1 : PySem.W.nsIn K mainGlobals "min" = some none)
    (z2 : PySem.W.nsIn K mainGlobals "max" = some none)
    (z3 : PySem.W.nsIn K mainGlobals "sum" = some none)
    (z4 : PySem.W.nsIn K mainGlobals "range" = some none)
    (z5 : PySem.W.nsIn K mainGlobals "enumerate" = some none)
    (z6 : PySem.W.nsIn K mainGlobals "isinstance" = some none)
    (z7 : PySem.W.nsIn K mainGlobals "tuple" = some none)
    (z8 : PySem.W.nsIn K mainGlobals "int" = some none)
    (z9 : PySem.W.nsIn K mainGlobals "bool" = some none)
    (z10 : PySem.W.nsIn K mainGlobals "str" = some none)
    (z11 : PySem.W.nsIn K mainGlobals "list" = some none)
    (z12 : PySem.W.nsIn K mainGlobals "dict" = some none)
    (z13 : PySem.W.nsIn K mainGlobals "all" = some none)
    (z14 : PySem.W.nsIn K mainGlobals "reversed" = some none) :
    ∃ fd : FuncData, (∀ (s : Shared) (v : Value), BindsTo s fd ⟨[v], []⟩ [("_law_script", v)]) ∧ ∀ base : Heap, K.In base → base.Ns mainGlobals mg → FnOk l.prog w K mg base CX0 6 fa fd ["_law_script"] (spLaw K) := by
  have e := hfa.symm.trans (PySem.W.mg_of X G a21)
  cases e
  have B : Blt mg := ⟨PySem.W.mg_none_of X G z0, PySem.W.mg_none_of X G z1, PySem.W.mg_none_of X G z2, PySem.W.mg_none_of X G z3, PySem.W.mg_none_of X G z4, PySem.W.mg_none_of X G z5, PySem.W.mg_none_of X G z6, PySem.W.mg_none_of X G z7, PySem.W.mg_none_of X G z8, PySem.W.mg_none_of X G z9, PySem.W.mg_none_of X G z10, PySem.W.mg_none_of X G z11⟩
  have b_dict := PySem.W.mg_none_of X G z12
  have b_all := PySem.W.mg_none_of X G z13
  have b_reversed := PySem.W.mg_none_of X G z14
  have oTooBig : Exc K mg "TooBig" c_TooBig := ⟨PySem.W.mg_of X G x_TooBig, xEx⟩
  have Z : TopB K mg c_TooBig := ⟨⟨_, PySem.W.mg_of X G g_MOST_TOLD_PARTS⟩, ⟨_, PySem.W.mg_of X G g_MOST_TOLD_DEEP⟩, oTooBig⟩
  have Y : ExcsB K mg c_NoTree c_NoRule c_NoRow c_Full c_Apart c_TooBig c_TooWide c_SameError := { e_NoTree := PySem.W.mg_of X G x_NoTree, e_NoRule := PySem.W.mg_of X G x_NoRule, e_NoRow := PySem.W.mg_of X G x_NoRow, e_Full := PySem.W.mg_of X G x_Full, e_Apart := PySem.W.mg_of X G x_Apart, e_TooWide := PySem.W.mg_of X G x_TooWide, e_SameError := PySem.W.mg_of X G x_SameError, b_ValueError := PySem.W.mg_none_of X G iVE, zTooBig := ⟨xCl, xGa, xGn⟩, i_ValueError := i_ValueError, i_NoTree := i_NoTree, i_NoRule := i_NoRule, i_NoRow := i_NoRow, i_Full := i_Full, i_Apart := i_Apart, i_TooWide := i_TooWide, i_SameError := i_SameError, m_TooBig := mSE }
  have F_mark := fun_mk (st := s_mark) l0 c0 k0
  have D_mark : Def K mg "mark" s_mark ["term", "leads"] := ⟨_, _, F_mark, PySem.W.mg_of X G a0, F_mark.binds fun _ _ _ _ _ _ us hl => len2_ (fun _ _ => rfl) us hl⟩
  have F_join_classes := fun_mk (st := s_join_classes) l1 c1 k1
  have D_join_classes : Def K mg "join_classes" s_join_classes ["leads", "a", "b"] := ⟨_, _, F_join_classes, PySem.W.mg_of X G a1, F_join_classes.binds fun _ _ _ _ _ _ us hl => len3_ (fun _ _ _ => rfl) us hl⟩
  have F_join_like := fun_mk (st := s_join_like) l2 c2 k2
  have D_join_like : Def K mg "join_like" s_join_like ["terms", "leads"] := ⟨_, _, F_join_like, PySem.W.mg_of X G a2, F_join_like.binds fun _ _ _ _ _ _ us hl => len2_ (fun _ _ => rfl) us hl⟩
  have F_closed := fun_mk (st := s_closed) l3 c3 k3
  have D_closed : Def K mg "closed" s_closed ["terms", "edges"] := ⟨_, _, F_closed, PySem.W.mg_of X G a3, F_closed.binds fun _ _ _ _ _ _ us hl => len2_ (fun _ _ => rfl) us hl⟩
  have F_size_above := fun_mk (st := s_size_above) l4 c4 k4
  have D_size_above : Def K mg "size_above" s_size_above ["term", "sizes"] := ⟨_, _, F_size_above, PySem.W.mg_of X G a4, F_size_above.binds fun _ _ _ _ _ _ us hl => len2_ (fun _ _ => rfl) us hl⟩
  have F_refuse_great := fun_mk (st := s_refuse_great) l5 c5 k5
  have D_refuse_great : Def K mg "refuse_great" s_refuse_great ["size"] := ⟨_, _, F_refuse_great, PySem.W.mg_of X G a5, F_refuse_great.binds fun _ _ _ _ _ _ us hl => len1_ (fun _ => rfl) us hl⟩
  have F_tree_above := fun_mk (st := s_tree_above) l6 c6 k6
  have D_tree_above : Def K mg "tree_above" s_tree_above ["term", "trees"] := ⟨_, _, F_tree_above, PySem.W.mg_of X G a6, F_tree_above.binds fun _ _ _ _ _ _ us hl => len2_ (fun _ _ => rfl) us hl⟩
  have F_taken := fun_mk (st := s_taken) l7 c7 k7
  have D_taken : Def K mg "taken" s_taken ["terms", "leads", "choice"] := ⟨_, _, F_taken, PySem.W.mg_of X G a7, F_taken.binds fun _ _ _ _ _ _ us hl => len3_ (fun _ _ _ => rfl) us hl⟩
  have F_word := fun_mk (st := s_word) l8 c8 k8
  have D_word : Def K mg "_law_word" s_word ["_law_cell", "_law_head"] := ⟨_, _, F_word, PySem.W.mg_of X G a8, F_word.binds fun _ _ _ _ _ _ us hl => len2_ (fun _ _ => rfl) us hl⟩
  have F_number := fun_mk (st := s_number) l9 c9 k9
  have D_number : Def K mg "_law_number" s_number ["_law_cell"] := ⟨_, _, F_number, PySem.W.mg_of X G a9, F_number.binds fun _ _ _ _ _ _ us hl => len1_ (fun _ => rfl) us hl⟩
  have F_knot := fun_mk (st := s_knot) l10 c10 k10
  have D_knot : Def K mg "_law_knot" s_knot ["_law_cell", "_law_many", "_law_head"] := ⟨_, _, F_knot, PySem.W.mg_of X G a10, F_knot.binds fun _ _ _ _ _ _ us hl => len3_ (fun _ _ _ => rfl) us hl⟩
  have F_term := fun_mk (st := s_term) l11 c11 k11
  have D_term : Def K mg "_law_term" s_term ["_law_cell", "_law_many", "_law_head"] := ⟨_, _, F_term, PySem.W.mg_of X G a11, F_term.binds fun _ _ _ _ _ _ us hl => len3_ (fun _ _ _ => rfl) us hl⟩
  have F_made := fun_mk (st := s_made) l12 c12 k12
  have D_made : Def K mg "_law_made" s_made ["_law_script"] := ⟨_, _, F_made, PySem.W.mg_of X G a12, F_made.binds fun _ _ _ _ _ _ us hl => len1_ (fun _ => rfl) us hl⟩
  have F_arms := fun_mk (st := s_arms) l13 c13 k13
  have D_arms : Def K mg "_law_arms" s_arms ["_law_term_here"] := ⟨_, _, F_arms, PySem.W.mg_of X G a13, F_arms.binds fun _ _ _ _ _ _ us hl => len1_ (fun _ => rfl) us hl⟩
  have F_picks := fun_mk (st := s_picks) l14 c14 k14
  have D_picks : Def K mg "_law_picks" s_picks ["_law_terms", "_law_leads", "_law_script"] := ⟨_, _, F_picks, PySem.W.mg_of X G a14, F_picks.binds fun _ _ _ _ _ _ us hl => len3_ (fun _ _ _ => rfl) us hl⟩
  have F_rows := fun_mk (st := s_rows) l15 c15 k15
  have D_rows : Def K mg "_law_rows" s_rows ["_law_terms", "_law_leads", "_law_picks_here", "_law_lead"] := ⟨_, _, F_rows, PySem.W.mg_of X G a15, F_rows.binds fun _ _ _ _ _ _ us hl => len4_ (fun _ _ _ _ => rfl) us hl⟩
  have F_drawn := fun_mk (st := s_drawn) l16 c16 k16
  have D_drawn : Def K mg "_law_drawn" s_drawn ["_law_terms", "_law_leads", "_law_lead", "_law_script"] := ⟨_, _, F_drawn, PySem.W.mg_of X G a16, F_drawn.binds fun _ _ _ _ _ _ us hl => len4_ (fun _ _ _ _ => rfl) us hl⟩
  have F_sized := fun_mk (st := s_sized) l17 c17 k17
  have D_sized : Def K mg "_law_sized" s_sized ["_law_many"] := ⟨_, _, F_sized, PySem.W.mg_of X G a17, F_sized.binds fun _ _ _ _ _ _ us hl => len1_ (fun _ => rfl) us hl⟩
  have F_given := fun_mk (st := s_given) l18 c18 k18
  have D_given : Def K mg "_law_given" s_given ["_law_script"] := ⟨_, _, F_given, PySem.W.mg_of X G a18, F_given.binds fun _ _ _ _ _ _ us hl => len1_ (fun _ => rfl) us hl⟩
  have F_size := fun_mk (st := s_size) l19 c19 k19
  have D_size : Def K mg "_law_size" s_size ["_law_choice", "_law_terms", "_law_leads"] := ⟨_, _, F_size, PySem.W.mg_of X G a19, F_size.binds fun _ _ _ _ _ _ us hl => len3_ (fun _ _ _ => rfl) us hl⟩
  have F_tree := fun_mk (st := s_tree) l20 c20 k20
  have D_tree : Def K mg "_law_tree" s_tree ["_law_choice", "_law_terms", "_law_leads"] := ⟨_, _, F_tree, PySem.W.mg_of X G a20, F_tree.binds fun _ _ _ _ _ _ us hl => len3_ (fun _ _ _ => rfl) us hl⟩
  have F_law := fun_mk (st := s_law) l21 c21 k21
  refine ⟨PySem.W.fnOf "law" "law" (defArgs s_law) (defBody s_law) (defScope s_law) .none kV21 dc21 pm21 an21 cd21 ct21, fun s v => .of_eq rfl, fun base _ _ => ?_⟩
  have h_mark := ok_mark (P := l.prog) (w := w) (base := base) B D_mark
  have h_join_classes := ok_join_classes (P := l.prog) (w := w) (base := base) B D_join_classes
  have h_join_like := ok_join_like B h_mark h_join_classes D_join_like
  have h_closed := ok_closed B h_join_classes h_join_like D_closed
  have h_size_above := ok_sizeD (P := l.prog) (w := w) (base := base) B D_size_above
  have h_refuse_great := ok_refuse_great (P := l.prog) (w := w) (base := base) B Z D_refuse_great
  have h_tree_above := ok_treeD (P := l.prog) (w := w) (base := base) B D_tree_above
  have h_taken := ok_taken h_mark h_size_above h_refuse_great h_tree_above D_taken
  have h_word := ok_word2 (P := l.prog) (w := w) (base := base) D_word
  have h_number := ok_number (P := l.prog) (w := w) (base := base) D_number
  have h_knot := ok_knot B h_word D_knot
  have h_term := ok_termM B h_word h_number h_knot D_term
  have h_made := ok_made B h_term D_made
  have h_arms := ok_armsL (P := l.prog) (w := w) (base := base) B D_arms
  have h_picks := ok_picks (P := l.prog) (w := w) (base := base) B D_picks
  have h_rows := ok_rows B b_all b_reversed h_arms D_rows
  have h_drawn := ok_drawnC B b_dict h_picks h_rows D_drawn
  have h_sized := ok_sized (P := l.prog) (w := w) (base := base) B b_reversed D_sized
  have h_given := ok_given B h_sized h_made D_given
  have h_size := ok_sizeL B h_arms D_size
  have h_tree := ok_treeL (P := l.prog) (w := w) (base := base) B D_tree
  exact ok_law B oTooBig Y h_given h_closed h_drawn h_taken h_size h_tree F_law
theorem walk {l : PySem.W.OpenLaw} {q : Program} {loose : List Str} {XP : (Str → Option Value) → Heap → Prop} {YP : World → Heap → Prop} {d : DefRec} {K : Params → PySem.W.Frag} (hn : l.most = some 63) (hdf : d.params.defaults = [])
    (hY : ∀ (w : World) (h : Heap), YP w h → (K w.params).In h)
    (F : ∀ (w : World) (mg : Str → Option Value) (fa : Addr) (h : Heap), (K w.params).In h → h.Ns mainGlobals mg → mg d.name = some (.ref fa) →
      ∃ fd : FuncData, (∀ (s : Shared) (u : Value), BindsTo s fd ⟨[u], []⟩ [("_law_script", u)]) ∧ ∀ base : Heap, (K w.params).In base → base.Ns mainGlobals mg → FnOk l.prog w (K w.params) mg base CX0 6 fa fd ["_law_script"] (spLaw (K w.params))) :
    PySem.W.WalkO q loose XP YP l.row.toRowW d [] (fun f vs => PySem.call f vs) :=
  L2.walk_ofB (n := 63) (k := 6) (x := "_law_script") (CX := fun _ => CX0) (sp := fun w => spLaw (K w.params)) hn (by decide) hdf ⟨rfl, by decide, by decide⟩ hY F (fun _ _ a ns hl hb hS => ⟨a, ns, rfl, hS, hl, hb, fun _ => rfl⟩) fun _ _ _ _ _ z => z
end K64
open PySem PySem.W PyProof.Rows
set_option maxRecDepth 100000 in
set_option maxHeartbeats 0 in
theorem PySem.Challenge.cw_samewise_k64_taken_holds : PySem.Challenge.rw_samewise_k64_taken.Holds := by
  w_on; o_law; k_head; (case hw => w_witness2)
  k_fill
  refine K64.walk (l := PySem.Challenge.rw_samewise_k64_taken) rfl rfl (fun w h Y => PySem.W.kIn_of Y) ?F
  case F =>
    intro w mg fa h KX G hmg
    refine' K64.all_mk KX G hmg ?a0 ?l0 ?c0 ?k0 ?a1 ?l1 ?c1 ?k1 ?a2 ?l2 ?c2 ?k2 ?a3 ?l3 ?c3 ?k3 ?a4 ?l4 ?c4 ?k4 ?a5 ?l5 ?c5 ?k5 ?a6 ?l6 ?c6 ?k6 ?a7 ?l7 ?c7 ?k7 ?a8 ?l8 ?c8 ?k8 ?a9 ?l9 ?c9 ?k9 ?a10 ?l10 ?c10 ?k10 ?a11 ?l11 ?c11 ?k11 ?a12 ?l12 ?c12 ?k12 ?a13 ?l13 ?c13 ?k13 ?a14 ?l14 ?c14 ?k14 ?a15 ?l15 ?c15 ?k15 ?a16 ?l16 ?c16 ?k16 ?a17 ?l17 ?c17 ?k17 ?a18 ?l18 ?c18 ?k18 ?a19 ?l19 ?c19 ?k19 ?a20 ?l20 ?c20 ?k20 ?a21 ?l21 ?c21 ?k21 ?g_MOST_TOLD_PARTS ?g_MOST_TOLD_DEEP ?x_NoTree ?x_NoRule ?x_NoRow ?x_Full ?x_Apart ?x_TooBig ?x_TooWide ?x_SameError ?xEx ?xCl ?xGa ?xGn ?iVE ?i_TooBig ?i_ValueError ?i_NoTree ?i_NoRule ?i_NoRow ?i_Full ?i_Apart ?i_TooWide ?i_SameError ?mSE ?z0 ?z1 ?z2 ?z3 ?z4 ?z5 ?z6 ?z7 ?z8 ?z9 ?z10 ?z11 ?z12 ?z13 ?z14
    (case a0 => k_is)
    (case l0 => k_is)
    (case c0 => k_is)
    (case k0 => k_is)
    (case a1 => k_is)
    (case l1 => k_is)
    (case c1 => k_is)
    (case k1 => k_is)
    (case a2 => k_is)
    (case l2 => k_is)
    (case c2 => k_is)
    (case k2 => k_is)
    (case a3 => k_is)
    (case l3 => k_is)
    (case c3 => k_is)
    (case k3 => k_is)
    (case a4 => k_is)
    (case l4 => k_is)
    (case c4 => k_is)
    (case k4 => k_is)
    (case a5 => k_is)
    (case l5 => k_is)
    (case c5 => k_is)
    (case k5 => k_is)
    (case a6 => k_is)
    (case l6 => k_is)
    (case c6 => k_is)
    (case k6 => k_is)
    (case a7 => k_is)
    (case l7 => k_is)
    (case c7 => k_is)
    (case k7 => k_is)
    (case a8 => k_is)
    (case l8 => k_is)
    (case c8 => k_is)
    (case k8 => k_is)
    (case a9 => k_is)
    (case l9 => k_is)
    (case c9 => k_is)
    (case k9 => k_is)
    (case a10 => k_is)
    (case l10 => k_is)
    (case c10 => k_is)
    (case k10 => k_is)
    (case a11 => k_is)
    (case l11 => k_is)
    (case c11 => k_is)
    (case k11 => k_is)
    (case a12 => k_is)
    (case l12 => k_is)
    (case c12 => k_is)
    (case k12 => k_is)
    (case a13 => k_is)
    (case l13 => k_is)
    (case c13 => k_is)
    (case k13 => k_is)
    (case a14 => k_is)
    (case l14 => k_is)
    (case c14 => k_is)
    (case k14 => k_is)
    (case a15 => k_is)
    (case l15 => k_is)
    (case c15 => k_is)
    (case k15 => k_is)
    (case a16 => k_is)
    (case l16 => k_is)
    (case c16 => k_is)
    (case k16 => k_is)
    (case a17 => k_is)
    (case l17 => k_is)
    (case c17 => k_is)
    (case k17 => k_is)
    (case a18 => k_is)
    (case l18 => k_is)
    (case c18 => k_is)
    (case k18 => k_is)
    (case a19 => k_is)
    (case l19 => k_is)
    (case c19 => k_is)
    (case k19 => k_is)
    (case a20 => k_is)
    (case l20 => k_is)
    (case c20 => k_is)
    (case k20 => k_is)
    (case a21 => k_is)
    (case l21 => k_is)
    (case c21 => k_is)
    (case k21 => k_is)
    (case g_MOST_TOLD_PARTS => k_is)
    (case g_MOST_TOLD_DEEP => k_is)
    (case x_NoTree => k_is)
    (case x_NoRule => k_is)
    (case x_NoRow => k_is)
    (case x_Full => k_is)
    (case x_Apart => k_is)
    (case x_TooBig => k_is)
    (case x_TooWide => k_is)
    (case x_SameError => k_is)
    (case xEx => k_exc)
    (case xCl => k_is)
    (case xGa => k_is)
    (case xGn => k_is)
    (case iVE => k_is)
    (case i_TooBig => kit_is)
    (case i_ValueError => kit_is)
    (case i_NoTree => kit_is)
    (case i_NoRule => kit_is)
    (case i_NoRow => kit_is)
    (case i_Full => kit_is)
    (case i_Apart => kit_is)
    (case i_TooWide => kit_is)
    (case i_SameError => kit_is)
    (case mSE => kts_exm)
    (case z0 => k_is)
    (case z1 => k_is)
    (case z2 => k_is)
    (case z3 => k_is)
    (case z4 => k_is)
    (case z5 => k_is)
    (case z6 => k_is)
    (case z7 => k_is)
    (case z8 => k_is)
    (case z9 => k_is)
    (case z10 => k_is)
    (case z11 => k_is)
    (case z12 => k_is)
    (case z13 => k_is)
    (case z14 => k_is)
#print axioms PySem.Challenge.cw_samewise_k64_taken_holds
