import PyProof.Rows.All
import Wide.All
import OpenK.AllK
import Wide.FinOn
import Lean
import PyProof.EqAt
import PyProof.EqKinds
import PyProof.TupleCall
import KE.KTryMore
import KE.KIntText
import KE.RegKTryMore
import PySem.Challenge.RW_samewise_k44_matches_walked
set_option Elab.async false
set_option linter.all false
set_option maxRecDepth 100000
set_option maxHeartbeats 4000000
namespace L2
open PySem PySem.Spec PyProof.Rows

noncomputable abbrev Key := Sum Int Str
noncomputable def keyIs : Key → Value → Bool
  | .inl k, v => Value.isInt k v
  | .inr x, v => Value.isStrOf x v
noncomputable def keyH (w : World) : Key → Int
  | .inl k => hashInt k
  | .inr x => hashStr w x
theorem keyIs_shape : ∀ {k : Key} {v : Value}, keyIs k v = true → (∃ i t, k = Sum.inl i ∧ v = Value.int i t) ∨ (∃ x t, k = Sum.inr x ∧ v = Value.str x t)
  | .inl i, v, h => by
    obtain ⟨t, e⟩ := Value.isInt_shape (k := i) (v := v) h
    exact .inl ⟨i, t, rfl, e⟩
  | .inr x, v, h => by
    obtain ⟨t, e⟩ := Value.isStrOf_shape (x := x) (v := v) h
    exact .inr ⟨x, t, rfl, e⟩
theorem keyIs_int (i : Int) (t : Tok) : keyIs (.inl i) (.int i t) = true := by simp [keyIs, Value.isInt]
theorem keyIs_str (x : Str) (t : Tok) : keyIs (.inr x) (.str x t) = true := by simp [keyIs, Value.isStrOf]
theorem key_ll (a b : Int) : decide ((Sum.inl a : Key) = Sum.inl b) = (a == b) := by
  by_cases e : a = b
  · subst e; simp
  · have h : ¬ (Sum.inl a : Key) = Sum.inl b := fun q => e (Sum.inl.inj q)
    rw [decide_eq_false h]
    exact (beq_eq_false_iff_ne.mpr e).symm
theorem key_rr (a b : Str) : decide ((Sum.inr a : Key) = Sum.inr b) = decide (a = b) := by
  by_cases e : a = b
  · subst e; simp
  · have h : ¬ (Sum.inr a : Key) = Sum.inr b := fun q => e (Sum.inr.inj q)
    rw [decide_eq_false h, decide_eq_false e]
theorem key_lr (a : Int) (b : Str) : decide ((Sum.inl a : Key) = Sum.inr b) = false := decide_eq_false (fun q => nomatch q)
theorem key_rl (a : Str) (b : Int) : decide ((Sum.inr a : Key) = Sum.inl b) = false := decide_eq_false (fun q => nomatch q)

noncomputable def mixKind (prog : Program) (w : World) : PySem.KeyKind prog w Key where
  is := keyIs
  hash := keyH w
  inj := fun v a b ha hb => by
    rcases keyIs_shape ha with ⟨i, t, rfl, rfl⟩ | ⟨x, t, rfl, rfl⟩
    · rcases keyIs_shape hb with ⟨j, u, rfl, e⟩ | ⟨y, u, rfl, e⟩
      · injection e with e1 _; rw [e1]
      · exact nomatch e
    · rcases keyIs_shape hb with ⟨j, u, rfl, e⟩ | ⟨y, u, rfl, e⟩
      · exact nomatch e
      · injection e with e1 _; rw [e1]
  byValue := fun k v h => by
    rcases keyIs_shape h with ⟨i, t, rfl, rfl⟩ | ⟨x, t, rfl, rfl⟩ <;> rfl
  pyHash := fun hv h => by
    rcases keyIs_shape hv with ⟨i, t, rfl, rfl⟩ | ⟨x, t, rfl, rfl⟩
    · exact wpAny_pyHash_int h
    · exact wpAny_pyHash_str h
  eqBool := fun hu hv h => by
    rcases keyIs_shape hu with ⟨i, t, rfl, rfl⟩ | ⟨x, t, rfl, rfl⟩
    · rcases keyIs_shape hv with ⟨j, u, rfl, rfl⟩ | ⟨y, u, rfl, rfl⟩
      · rw [key_ll] at h; exact wpAny_eqBool_int h
      · rw [key_lr] at h; exact SeqAt.EqAt.int_str i t y u _ _ _ _ h
    · rcases keyIs_shape hv with ⟨j, u, rfl, rfl⟩ | ⟨y, u, rfl, rfl⟩
      · rw [key_rl] at h; exact SeqAt.EqAt.str_int x t j u _ _ _ _ h
      · rw [key_rr] at h; exact wpAny_eqBool_str h
  «strs» := fun k x t v h => by
    rcases keyIs_shape h with ⟨i, u, rfl, e⟩ | ⟨y, u, rfl, e⟩
    · exact nomatch e
    · injection e with e1 _
      subst e1
      cases v <;> rfl

theorem mixKind_int (prog : Program) (w : World) (i : Int) (t : Tok) : (mixKind prog w).is (.inl i) (.int i t) = true := keyIs_int i t
theorem mixKind_str (prog : Program) (w : World) (x : Str) (t : Tok) : (mixKind prog w).is (.inr x) (.str x t) = true := keyIs_str x t
end L2

namespace L2
open PySem PySem.Spec PyProof.Rows

inductive V where
  | non | bl (b : Bool) | int (i : Int) | str (x : Str) | byt (b : Array UInt8) | flt (b : UInt64) | ref (a : Addr) | ty (n : String)
  deriving DecidableEq

noncomputable def RelV : V → Value → Prop
  | .non, u => u = Value.none
  | .bl b, u => u = Value.bool b
  | .int i, u => ∃ t, u = Value.int i t
  | .str x, u => ∃ t, u = Value.str x t
  | .byt b, u => ∃ t, u = Value.bytes b t
  | .flt b, u => ∃ t, u = Value.float b t
  | .ref a, u => u = Value.ref a
  | .ty n, u => u = Value.type n

noncomputable abbrev Vals : List V → List Value → Prop := Paired RelV
theorem Vals.length {xs : List V} {us : List Value} (r : Vals xs us) : xs.length = us.length := Paired.length r
theorem Vals.get : ∀ {xs : List V} {us : List Value} {i : Nat} {x : V}, Vals xs us → xs[i]? = some x → ∃ u, us[i]? = some u ∧ RelV x u
  | _, _, _, _, .nil, e => by simp at e
  | _, _, 0, _, .cons r _, e => by simp at e; subst e; exact ⟨_, rfl, r⟩
  | _, _, i + 1, x, .cons _ t, e => by
    obtain ⟨u, h1, h2⟩ := Vals.get (i := i) (x := x) t (by simpa using e)
    exact ⟨u, by simpa using h1, h2⟩
theorem Vals.set {x : V} {u : Value} (r : RelV x u) : ∀ {xs : List V} {us : List Value} (i : Nat), Vals xs us → Vals (xs.set i x) (us.set i u)
  | _, _, _, .nil => .nil
  | _, _, 0, .cons _ t => .cons r t
  | _, _, i + 1, .cons q t => .cons q (Vals.set r i t)
theorem Vals.append : ∀ {xs ys : List V} {us ws : List Value}, Vals xs us → Vals ys ws → Vals (xs ++ ys) (us ++ ws)
  | _, _, _, _, .nil, s => s
  | _, _, _, _, .cons r t, s => .cons r (Vals.append t s)
theorem Vals.take : ∀ {xs : List V} {us : List Value} (n : Nat), Vals xs us → Vals (xs.take n) (us.take n)
  | _, _, 0, _ => .nil
  | _, _, _ + 1, .nil => .nil
  | _, _, n + 1, .cons r t => .cons r (Vals.take n t)
theorem Vals.drop : ∀ {xs : List V} {us : List Value} (n : Nat), Vals xs us → Vals (xs.drop n) (us.drop n)
  | _, _, 0, r => r
  | _, _, _ + 1, .nil => .nil
  | _, _, n + 1, .cons _ t => Vals.drop n t

noncomputable def RelO : Option V → Option Value → Prop
  | some v, some u => RelV v u
  | none, none => True
  | _, _ => False
noncomputable def KV {κ : Type} : List (κ × V) → List (κ × Value) → Prop := Paired fun (p : κ × V) (q : κ × Value) => p.1 = q.1 ∧ RelV p.2 q.2

noncomputable def kV : Key → V
  | .inl i => .int i
  | .inr x => .str x

inductive HO where
    | lst (xs : List V)
    | tup (xs : List V)
    | dK (kvs : List (Key × V)) | dT (kvs : List (List Key × V))
    | set (S : Int → Bool) (n : Nat)
    | ins (C dx : Addr) (fs : List (Str × V))
    | own (x : Addr)
    | xd (fs : List (Str × V))
    | met (f x : Addr)
    | rng (lo hi : Int)
    | frz (o : Obj) (u : HO)
    | tbl (ps : Array Value)
    | ext (φ : Heap → Prop)

noncomputable abbrev Hp := Addr → Option HO
noncomputable def upd (H : Hp) (a : Addr) (o : HO) : Hp := fun b => if b = a then some o else H b
theorem upd_same {H : Hp} {a : Addr} {o : HO} : upd H a o a = some o := by unfold upd; rw [if_pos rfl]
theorem upd_ne {H : Hp} {a b : Addr} {o : HO} (h : b ≠ a) : upd H a o b = H b := by unfold upd; rw [if_neg h]
theorem upd_upd {H : Hp} {a : Addr} {o u : HO} : upd (upd H a o) a u = upd H a u := by
  funext b; unfold upd; split <;> rfl
theorem ne_of {H : Hp} {a b : Addr} {o u : HO} (h : H a = some o) (h' : H b = some u) (d : o ≠ u) : a ≠ b := by
  intro e; subst e; rw [h] at h'; exact d (Option.some.inj h')
theorem ne_of_none {H : Hp} {a b : Addr} {o : HO} (h : H a = some o) (h' : H b = none) : a ≠ b := by
  intro e; subst e; rw [h] at h'; cases h'

noncomputable def IsTupN (h : Heap) (a : Addr) (items : Array Value) : Prop := ∃ o, h.get? a = some o ∧ o.cls = .type "tuple" ∧ ∃ n, o.data = .seq items n ∧ o.dict = none
theorem IsTupN.tup {h : Heap} {a : Addr} {items : Array Value} (x : IsTupN h a items) : IsTup h a items := let ⟨o, e, c, n, d, _⟩ := x; ⟨o, e, c, n, d⟩
theorem IsTupN.new (h : Heap) (items : Array Value) : IsTupN (h.push { cls := .type "tuple", data := .seq items }) h.objs.size items := ⟨_, Heap.get?_push_size _ rfl, rfl, _, rfl, rfl⟩
section
variable (P : Program) (w : World)
noncomputable def ObjOk (H : Hp) (h : Heap) (a : Addr) : HO → Prop
  | .lst xs => xs.length ≤ sizeLine ∧ ∃ (its : List Value) (n : Nat), Vals xs its ∧ h.get? a = some { cls := .type "list", data := .seq its.toArray n }
  | .tup xs => xs.length ≤ sizeLine ∧ ∃ its : List Value, Vals xs its ∧ IsTupN h a its.toArray
  | .dK kvs => kvs.length ≤ sizeLine ∧ (a == sysModules) = false ∧ ∃ vs, KV kvs vs ∧ h.DictOf (mixKind P w) a vs
  | .dT kvs => kvs.length ≤ sizeLine ∧ (a == sysModules) = false ∧ ∃ xs : List (List Key × Addr × Value),
      Paired (fun (p : List Key × V) (q : List Key × Addr × Value) => p.1 = q.1 ∧ H q.2.1 = some (.tup (p.1.map kV)) ∧ RelV p.2 q.2.2) kvs xs ∧
      ∃ o es ep, h.get? a = some o ∧ o.ExactDict ∧ o.data = .dict es ep ∧ es.toList = xs.map (entryOfKey (tupleKind (mixKind P w))) ∧ (xs.map (·.1)).Nodup
  | .set S n => h.SetOf (intKind P w) a S n
  | .ins C dx fs => H dx = some (.own a) ∧ fs.length ≤ 1000 ∧ dx ≠ a ∧ h.get? a = some (PySem.W.instObj C dx) ∧
      ∃ mA, h.Ns1 dx mA ∧ (∀ f, RelO (fs.lookup f) (mA f)) ∧ PySem.Within mA (fs.map (·.1))
  | .own _ => ∃ o, h.get? a = some o
  | .xd fs => ∃ mA, h.Ns1 a mA ∧ ∀ f, RelO (fs.lookup f) (mA f)
  | .rng lo hi => ∃ t u v, h.get? a = some { cls := .type "range", data := .fields #[.int lo t, .int hi u, .int 1 v] }
  | .frz o u => h.get? a = some o ∧ ObjOk H h a u
  | .tbl ps => h.get? a = some { cls := .none, data := .fields ps }
  | .met f x => h.get? a = some (PySem.W.methodObj (.ref f) (.ref x))
  | .ext φ => φ h ∧ (∃ o, h.get? a = some o) ∧ ∀ h1 h2 : Heap, φ h1 → (∀ o, h1.get? a = some o → h2.get? a = some o) → φ h2
noncomputable def HOk (H : Hp) (h : Heap) : Prop := ∀ a o, H a = some o → ObjOk P w H h a o
end

section
variable {P : Program} {w : World} {H H' : Hp} {h h' : Heap} {a : Addr} {o : HO}
theorem ObjOk.lt (x : ObjOk P w H h a o) : a < h.objs.size := by
  cases o with
  | lst xs => obtain ⟨_, _, _, _, e⟩ := x; exact Heap.lt_size e
  | tup xs => obtain ⟨_, _, _, p⟩ := x; exact p.tup.lt
  | dK kvs => obtain ⟨_, _, _, _, o, _, _, e, _⟩ := x; exact Heap.lt_size e
  | dT kvs => obtain ⟨_, _, _, _, o, _, _, e, _⟩ := x; exact Heap.lt_size e
  | set S n => obtain ⟨o, _, _, _, e, _⟩ := x; exact Heap.lt_size e
  | ins C dx fs => obtain ⟨_, _, _, e, _⟩ := x; exact Heap.lt_size e
  | own y => obtain ⟨_, e⟩ := x; exact Heap.lt_size e
  | xd fs => obtain ⟨_, ⟨_, _, _, e, _⟩, _⟩ := x; exact Heap.lt_size e
  | rng lo hi => obtain ⟨_, _, _, e⟩ := x; exact Heap.lt_size e
  | frz ob u => obtain ⟨e, _⟩ := x; exact Heap.lt_size e
  | tbl ps => exact Heap.lt_size (show h.get? a = some _ from x)
  | met f y => exact Heap.lt_size (show h.get? a = some _ from x)
  | ext φ => obtain ⟨_, ⟨_, e⟩, _⟩ := x; exact Heap.lt_size e
theorem Paired.mapP {α β : Type} {F G : α → β → Prop} : ∀ {l₁ : List α} {l₂ : List β}, Paired F l₁ l₂ → (∀ a b, F a b → G a b) → Paired G l₁ l₂
  | _, _, .nil, _ => .nil
  | _, _, .cons r t, f => .cons (f _ _ r) (Paired.mapP t f)
theorem ObjOk.stay (x : ObjOk P w H h a o) (k : ∀ b u, (b = a ∨ H b = some (.own a)) → h.get? b = some u → h'.get? b = some u)
    (ho : ∀ b, H b = some (.own a) → H' b = some (.own a)) (ht : ∀ b xs, H b = some (.tup xs) → H' b = some (.tup xs)) : ObjOk P w H' h' a o := by
  induction o with
  | lst xs => obtain ⟨z, its, n, r, e⟩ := x; exact ⟨z, its, n, r, k _ _ (.inl rfl) e⟩
  | tup xs => obtain ⟨z, its, r, ob, e, c⟩ := x; exact ⟨z, its, r, ob, k _ _ (.inl rfl) e, c⟩
  | dK kvs => obtain ⟨z, y, vs, r, ob, es, ep, e, c⟩ := x; exact ⟨z, y, vs, r, ob, es, ep, k _ _ (.inl rfl) e, c⟩
  | dT kvs =>
    obtain ⟨z, y, xs, r, ob, es, ep, e, c⟩ := x
    exact ⟨z, y, xs, Paired.mapP r fun p q z => ⟨z.1, ht _ _ z.2.1, z.2.2⟩, ob, es, ep, k _ _ (.inl rfl) e, c⟩
  | set S n => obtain ⟨ob, es, ep, t, e, c⟩ := x; exact ⟨ob, es, ep, t, k _ _ (.inl rfl) e, c⟩
  | ins C dx fs =>
    obtain ⟨d, z, ne, e, mA, ⟨od, es, ep, e2, c⟩, r⟩ := x
    exact ⟨ho _ d, z, ne, k _ _ (.inl rfl) e, mA, ⟨od, es, ep, k _ _ (.inr d) e2, c⟩, r⟩
  | own y => obtain ⟨ob, e⟩ := x; exact ⟨ob, k _ _ (.inl rfl) e⟩
  | xd fs => obtain ⟨mA, ⟨od, es, ep, e, c⟩, r⟩ := x; exact ⟨mA, ⟨od, es, ep, k _ _ (.inl rfl) e, c⟩, r⟩
  | rng lo hi => obtain ⟨t, u, v, e⟩ := x; exact ⟨t, u, v, k _ _ (.inl rfl) e⟩
  | frz ob u ih => obtain ⟨e, q⟩ := x; exact ⟨k _ _ (.inl rfl) e, ih q⟩
  | tbl ps =>
    have e : h.get? a = some { cls := .none, data := .fields ps } := x
    show h'.get? a = some { cls := .none, data := .fields ps }
    exact k a _ (.inl rfl) e
  | met f y =>
    have e : h.get? a = some (PySem.W.methodObj (.ref f) (.ref y)) := x
    show h'.get? a = some (PySem.W.methodObj (.ref f) (.ref y))
    exact k a _ (.inl rfl) e
  | ext φ => obtain ⟨p, ⟨o, e⟩, st⟩ := x; exact ⟨st _ _ p fun o q => k _ _ (.inl rfl) q, ⟨o, k _ _ (.inl rfl) e⟩, st⟩
theorem HOk.lt (x : HOk P w H h) (e : H a = some o) : a < h.objs.size := (x a o e).lt
theorem HOk.fresh (x : HOk P w H h) (e : h.objs.size ≤ a) : H a = none := by
  cases q : H a with
  | none => rfl
  | some u => exact absurd (Nat.lt_of_lt_of_le (x.lt q) e) (Nat.lt_irrefl _)
theorem HOk.kept (x : HOk P w H h) (k : ∀ b u, h.get? b = some u → h'.get? b = some u) : HOk P w H h' := fun a o e =>
  (x a o e).stay (fun b u _ q => k b u q) (fun _ q => q) fun _ _ q => q
theorem HOk.laid (x : HOk P w H h) (k : ∀ b u, h.get? b = some u → h'.get? b = some u) (hp : h.objs.size ≤ a) (new : ObjOk P w (upd H a o) h' a o) : HOk P w (upd H a o) h' := fun b u e => by
  have hn := x.fresh hp
  by_cases hb : b = a
  · subst hb; rw [upd_same] at e; cases e; exact new
  · rw [upd_ne hb] at e
    exact (x b u e).stay (fun c v _ q => k c v q) (fun c q => by rw [upd_ne (ne_of_none q hn)]; exact q) fun c xs q => by rw [upd_ne (ne_of_none q hn)]; exact q
end

noncomputable def Rd (H : Hp) (a : Addr) (u : HO) : Prop := H a = some u ∨ ∃ o, H a = some (.frz o u)
theorem Rd.ok {P : Program} {w : World} {H : Hp} {h : Heap} {a : Addr} {u : HO} (r : Rd H a u) (x : HOk P w H h) : ObjOk P w H h a u := by
  rcases r with r | ⟨o, r⟩
  · exact x a u r
  · obtain ⟨_, q⟩ := x a _ r
    exact q
noncomputable def Mut : Option HO → Prop
  | some (.lst _) => True
  | some (.dK _) => True
  | some (.dT _) => True
  | some (.set _ _) => True
  | some (.ins _ _ _) => True
  | some (.ext _) => True
  | _ => False
section
variable {P : Program} {w : World} {H : Hp} {h h' : Heap} {x e : Addr} {o' : HO}
theorem HOk.write (ok : HOk P w H h) (mu : Mut (H x)) (he : e = x ∨ H e = some (.own x)) (k : ∀ b u, b ≠ e → h.get? b = some u → h'.get? b = some u) (heo : ∃ u, h'.get? e = some u)
    (new : ObjOk P w (upd H x o') h' x o') : HOk P w (upd H x o') h' := fun b u q => by
  have nown : ∀ c y, H c = some (.own y) → c ≠ x := fun c y r z => by subst z; rw [r] at mu; exact mu
  have ntup : ∀ c xs, H c = some (.tup xs) → c ≠ x := fun c xs r z => by subst z; rw [r] at mu; exact mu
  by_cases hb : b = x
  · subst hb; rw [upd_same] at q; cases q; exact new
  · rw [upd_ne hb] at q
    by_cases hbe : b = e
    · have q' : H b = some (.own x) := by
        rcases he with z | z
        · exact absurd (hbe.trans z) hb
        · rw [hbe]; exact z
      rw [q] at q'; cases q'
      obtain ⟨v, hv⟩ := heo
      exact ⟨v, by rw [hbe]; exact hv⟩
    · refine (ok b u q).stay (fun c v hc r => k c v ?_ r) (fun c r => by rw [upd_ne (nown c b r)]; exact r) fun c xs r => by rw [upd_ne (ntup c xs r)]; exact r
      rcases hc with rfl | hc
      · exact hbe
      · rintro rfl
        rcases he with z | z
        · exact nown c b hc z
        · rw [hc] at z; cases z; exact hb rfl
end

structure Un (fs ex : List Addr) (H H' : Hp) (h h' : Heap) : Prop where
  keep : ∀ b o, h.get? b = some o → H b = none → b ∉ fs → b ∉ ex → h'.get? b = some o
  slot : ∀ b o, h.get? b = some o → H b = none → b ∈ fs → b ∉ ex → ∃ sl, h'.get? b = some { o with slots := sl }
  free : ∀ b o, h.get? b = some o → H b = none → b ∉ ex → H' b = none
  there : ∀ b o, h.get? b = some o → b ∉ ex → ∃ o', h'.get? b = some o'
  tups : ∀ b xs, H b = some (.tup xs) → H' b = some (.tup xs)
  frzs : ∀ b o u, H b = some (.frz o u) → H' b = some (.frz o u)
  tbls : ∀ b ps, H b = some (.tbl ps) → ∃ more, H' b = some (.tbl (ps ++ more))
section
variable {fs fs' ex ex' : List Addr} {H H1 H2 : Hp} {h h1 h2 h' : Heap} {a x e : Addr} {o : HO}
theorem Un.any (u : Un fs ex H H1 h h1) {b : Addr} {ob : Obj} (q : h.get? b = some ob) (n : H b = none) (hx : b ∉ ex) : ∃ sl, h1.get? b = some { ob with slots := sl } := by
  by_cases hb : b ∈ fs
  · exact u.slot b ob q n hb hx
  · exact ⟨ob.slots, u.keep b ob q n hb hx⟩
theorem Un.kept (k : ∀ b u, h.get? b = some u → h'.get? b = some u) : Un fs ex H H h h' :=
  ⟨fun b ob q _ _ _ => k b ob q, fun b ob q _ _ _ => ⟨ob.slots, k b ob q⟩, fun _ _ _ n _ => n, fun b ob q _ => ⟨ob, k b ob q⟩, fun _ _ q => q, fun _ _ _ q => q, fun _ ps q => ⟨#[], by rw [q]; simp⟩⟩
theorem Un.refl : Un fs ex H H h h := Un.kept fun _ _ q => q
theorem Un.laid (k : ∀ b u, h.get? b = some u → h'.get? b = some u) (hp : h.objs.size ≤ a) (hn : H a = none) : Un fs ex H (upd H a o) h h' where
  keep := fun b u q _ _ _ => k b u q
  slot := fun b u q _ _ _ => ⟨u.slots, k b u q⟩
  free := fun b u q n _ => by rw [upd_ne (Nat.ne_of_lt (Nat.lt_of_lt_of_le (Heap.lt_size q) hp))]; exact n
  there := fun b u q _ => ⟨u, k b u q⟩
  tups := fun b xs q => by rw [upd_ne (ne_of_none q hn)]; exact q
  frzs := fun b u xs q => by rw [upd_ne (ne_of_none q hn)]; exact q
  tbls := fun b ps q => ⟨#[], by rw [upd_ne (ne_of_none q hn), q]; simp⟩
theorem Un.write (mu : Mut (H x)) (he : e = x ∨ H e = some (.own x)) (k : ∀ b u, b ≠ e → h.get? b = some u → h'.get? b = some u) (heo : ∃ u, h'.get? e = some u) : Un fs ex H (upd H x o) h h' := by
  have hx : ∀ b, H b = none → b ≠ x := fun b n z => by subst z; rw [n] at mu; exact mu
  have hb : ∀ b, H b = none → b ≠ e := fun b n z => by
    subst z
    rcases he with r | r
    · exact hx b n r
    · rw [n] at r; cases r
  have hm : ∀ b u, H b = some u → ¬ Mut (some u) → b ≠ x := fun b u q nm z => by subst z; rw [q] at mu; exact nm mu
  refine ⟨fun b u q n _ _ => k b u (hb b n) q, fun b u q n _ _ => ⟨u.slots, k b u (hb b n) q⟩, fun b u q n _ => by rw [upd_ne (hx b n)]; exact n, fun b u q _ => ?_,
    fun b xs q => by rw [upd_ne (hm b _ q fun z => z)]; exact q, fun b u xs q => by rw [upd_ne (hm b _ q fun z => z)]; exact q, fun b ps q => ⟨#[], by rw [upd_ne (hm b _ q fun z => z), q]; simp⟩⟩
  by_cases hbe : b = e
  · subst hbe; exact heo
  · exact ⟨u, k b u hbe q⟩
end

noncomputable def trk (h : Heap) (H : Hp) : List Addr := (List.range h.objs.size).filter fun a => (H a).isSome
noncomputable def hidT (h : Heap) (H : Hp) : Heap := PySem.W.hideAll h (trk h H)
theorem hidT_size (h : Heap) (H : Hp) : (hidT h H).objs.size = h.objs.size := PySem.W.hideAll_size _ _
theorem hidT_get {h : Heap} {H : Hp} {b : Addr} {o : Obj} (e : h.get? b = some o) (n : H b = none) : (hidT h H).get? b = some o :=
  PySem.W.hideAll_get _ e fun hm => by
    have q : (H b).isSome = true := (List.mem_filter.mp hm).2
    rw [n] at q; simp at q
theorem of_hidT {h : Heap} {H : Hp} {b : Addr} {o : Obj} (e : (hidT h H).get? b = some o) : h.get? b = some o ∧ H b = none := by
  have e' : h.get? b = some o := PySem.W.of_hideAll (trk h H) e
  refine ⟨e', ?_⟩
  cases q : H b with
  | none => rfl
  | some x =>
    have hm : b ∈ trk h H := List.mem_filter.mpr ⟨List.mem_range.mpr (Heap.lt_size e'), by simp [q]⟩
    have z : (hidT h H).get? b = none := PySem.W.hideAll_none (trk h H) hm
    rw [z] at e; cases e

end L2

namespace L2
open PySem PySem.Spec PyProof.Rows

structure Mod (K : PySem.W.Frag) (mg : Str → Option Value) (base : Heap) : Prop where
  kin : K.In base
  glob : base.Ns mainGlobals mg
  blt : ∃ mb, base.Ns builtinsNs mb ∧ ∀ x : Str, x ≠ "__name__" → mb x = bootBuiltins x
  nolimit : base.NoLimit

structure Cx where
  prog : Program
  w : World
  K : PySem.W.Frag
  mg : Str → Option Value
  base : Heap
  A : Around
  N : List Str
  s₀ : Shared
  H₀ : Hp
  env : Env
  outer : List Env
  stack : List Env
  ex : List Addr
  fn : Str → Bool
  calm : Bool
  pn : List (Addr × Obj)
  xe : Value → Shared → Prop
noncomputable def frs (l : List Env) : List Addr := l.filterMap (·.frame)
noncomputable abbrev Cx.fs (X : Cx) : List Addr := frs X.outer

noncomputable def Vis (sc : Scope) (x : Str) : Prop := sc.names.lookup x = some .local ∨ sc.names.lookup x = some .cell ∨ sc.names.lookup x = some .free
noncomputable def Loc (sc : Scope) (x : Str) : Prop := sc.names.lookup x = some .local ∨ sc.names.lookup x = some .cell
noncomputable def Look (env : Env) (h : Heap) (m : Str → Option Value) (x : Str) (u : Value) : Prop :=
  (env.kindOf x = some .local ∧ m x = some u) ∨ ((env.kindOf x = some .cell ∨ env.kindOf x = some .free) ∧ ∃ c, env.cells.lookup x = some c ∧ h.IsCell c (some u))

structure Cx.Ok (X : Cx) : Prop where
  mod : Mod X.K X.mg X.base
  kind : X.env.scope.kind = .function
  glob : X.env.globals = mainGlobals
  blt : X.env.builtins = builtinsNs
  above : X.s₀.heap.objs.size ≤ X.env.locals
  inj : ∀ x y c, X.env.cells.lookup x = some c → X.env.cells.lookup y = some c → x = y
  has : ∀ x, (X.env.kindOf x = some .cell ∨ X.env.kindOf x = some .free) → ∃ c, X.env.cells.lookup x = some c
  cab : ∀ x c, X.fn x = true → X.env.cells.lookup x = some c → X.s₀.heap.objs.size ≤ c
  hd : X.calm = true → X.A.handled = none
  frames : X.A.frames = some X.stack
  stk : X.stack = X.outer ∨ (X.stack = X.env :: X.outer ∧ X.env.frame = some X.env.locals)
  exf : ∀ b ∈ X.ex, b ≠ X.env.locals ∧ ∀ x c, X.env.cells.lookup x = some c → c ≠ b
  bs : ∀ b o, X.base.get? b = some o → X.s₀.heap.get? b = some o ∧ X.H₀ b = none
  bsz : X.base.objs.size ≤ X.s₀.heap.objs.size
  noex : ∀ b o, X.base.get? b = some o → b ∉ X.ex
  exfs : ∀ b ∈ X.ex, b ∉ X.fs
  funs : X.s₀.heap.FunFrames X.base X.outer
  frf : ∀ b ∈ X.fs, X.H₀ b = none

structure Inv (X : Cx) (pins : List (Addr × Obj)) (σ : List (Option V)) (H : Hp) (s : Shared) : Prop where
  ok : X.Ok
  os : s.os = X.s₀.os
  bare : AllBare s.gens
  base : Un X.fs X.ex X.H₀ H X.s₀.heap s.heap
  loc : ∃ m, s.heap.Ns X.env.locals m ∧ ∀ (i : Nat) (x : Str) (v : V), X.N[i]? = some x → σ[i]? = some (some v) → Vis X.env.scope x → ∃ u, RelV v u ∧ Look X.env s.heap m x u
  cell : ∀ x c, X.env.cells.lookup x = some c → ∃ v, s.heap.IsCell c v
  free : H X.env.locals = none
  freeC : ∀ x c, X.env.cells.lookup x = some c → H c = none
  pin : ∀ p ∈ X.pn ++ pins, s.heap.get? p.1 = some p.2 ∧ H p.1 = none ∧ p.1 ≠ X.env.locals ∧ p.1 ∉ X.fs ∧ ∀ v, p.2.data ≠ .cell v
  hok : HOk X.prog X.w H s.heap
  len : σ.length = X.N.length

section
variable {X : Cx} {pins : List (Addr × Obj)} {σ : List (Option V)} {H H' : Hp} {s : Shared} {h' : Heap}

theorem Cx.Ok.nofr (ok : X.Ok) {b : Addr} {o : Obj} (e : X.base.get? b = some o) : b ∉ X.fs := fun hb => by
  have := (ok.funs.mem hb).1
  rw [e] at this; cases this
theorem Inv.bs (I : Inv X pins σ H s) : ∀ b o, X.base.get? b = some o → s.heap.get? b = some o ∧ H b = none := fun b o e =>
  ⟨I.base.keep b o (I.ok.bs b o e).1 (I.ok.bs b o e).2 (I.ok.nofr e) (I.ok.noex b o e), I.base.free b o (I.ok.bs b o e).1 (I.ok.bs b o e).2 (I.ok.noex b o e)⟩
theorem Inv.bk (I : Inv X pins σ H s) : ∀ b o, X.base.get? b = some o → s.heap.get? b = some o := fun b o e => (I.bs b o e).1
theorem Inv.mod (I : Inv X pins σ H s) : Mod X.K X.mg X.base := I.ok.mod
theorem Inv.kIn (I : Inv X pins σ H s) : X.K.In s.heap := I.ok.mod.kin.keeps I.bk
theorem Inv.lt (I : Inv X pins σ H s) : X.env.locals < s.heap.objs.size := let ⟨_, hn, _⟩ := I.loc; hn.lt
theorem Inv.sz (I : Inv X pins σ H s) : X.s₀.heap.objs.size ≤ s.heap.objs.size := Nat.le_trans I.ok.above (Nat.le_of_lt I.lt)
theorem Inv.nofs (I : Inv X pins σ H s) {a : Addr} (h : s.heap.objs.size ≤ a) : a ∉ X.fs := fun hb => by
  obtain ⟨_, o, ho, _⟩ := I.ok.funs.mem hb
  exact absurd (Nat.lt_of_lt_of_le (Heap.lt_size ho) (Nat.le_trans I.sz h)) (Nat.lt_irrefl _)
theorem Inv.cne (I : Inv X pins σ H s) : ∀ x c, X.env.cells.lookup x = some c → c ≠ X.env.locals := fun x c e z => by
  obtain ⟨v, o, ho, hd⟩ := I.cell x c e
  obtain ⟨m, ⟨o', es, ep, ho', hd', _⟩, _⟩ := I.loc
  rw [z, ho'] at ho; cases ho; rw [hd'] at hd; cases hd
theorem Inv.funs (I : Inv X pins σ H s) : s.heap.FunFrames X.base X.outer := by
  have all : ∀ (l : List Env), (∀ b ∈ frs l, b ∈ X.fs) → X.s₀.heap.FunFrames X.base l → s.heap.FunFrames X.base l := by
    intro l
    induction l with
    | nil => intro _ _; trivial
    | cons env r ih =>
      intro hs hl
      obtain ⟨hk, ⟨L, o, hf, hn, ho, hd⟩, hr⟩ := hl
      have hL : L ∈ X.fs := hs L (by unfold frs; rw [List.filterMap_cons, hf]; exact List.mem_cons_self)
      obtain ⟨sl, e⟩ := I.base.slot L o ho (I.ok.frf L hL) hL fun z => I.ok.exfs L z hL
      exact ⟨hk, ⟨L, _, hf, hn, e, hd⟩, ih (fun b hb => hs b (by unfold frs; rw [List.filterMap_cons, hf]; exact List.mem_cons_of_mem _ hb)) hr⟩
  exact all X.outer (fun _ hb => hb) I.ok.funs

theorem Inv.stack (I : Inv X pins σ H s) : s.heap.FunFrames X.base X.stack := by
  rcases I.ok.stk with e | ⟨e, hf⟩
  · rw [e]; exact I.funs
  · rw [e]
    obtain ⟨m, hn, _⟩ := I.loc
    refine .cons (by rw [I.ok.kind]; decide) hf hn ?_ I.funs
    exact Heap.get?_none_of_le (Nat.le_trans I.ok.bsz I.ok.above)
theorem Inv.stkSub (I : Inv X pins σ H s) : ∀ b ∈ frs X.stack, b ∈ X.env.locals :: X.fs := fun b hb => by
  rcases I.ok.stk with e | ⟨e, hf⟩
  · rw [e] at hb; exact List.mem_cons_of_mem _ hb
  · rw [e] at hb
    unfold frs at hb
    rw [List.filterMap_cons, hf] at hb
    exact hb
theorem Inv.stkFree (I : Inv X pins σ H s) : ∀ b ∈ frs X.stack, H b = none := fun b hb => by
  rcases List.mem_cons.mp (I.stkSub b hb) with e | hb
  · rw [e]; exact I.free
  · obtain ⟨_, o, ho, _⟩ := I.ok.funs.mem hb
    exact I.base.free b o ho (I.ok.frf b hb) fun z => I.ok.exfs b z hb

theorem Inv.step {g' : Array GenState} {t' : Nat} {d' : Drawn} {ch : List Addr} (I : Inv X pins σ H s)
    (hch : ∀ b ∈ ch, (b ∈ X.ex ∨ X.s₀.heap.objs.size ≤ b) ∧ b ≠ X.env.locals ∧ (∀ x c, X.env.cells.lookup x = some c → c ≠ b) ∧ ∀ p ∈ X.pn ++ pins, p.1 ≠ b)
    (keep : ∀ b o, b ≠ X.env.locals → b ∉ X.fs → b ∉ ch → s.heap.get? b = some o → H b = none → h'.get? b = some o)
    (slot : ∀ b o, b ≠ X.env.locals → b ∈ X.fs → b ∉ ch → s.heap.get? b = some o → H b = none → ∃ sl, h'.get? b = some { o with slots := sl }) (free : ∀ b o, b ∉ ch → s.heap.get? b = some o → H b = none → H' b = none)
    (there : ∀ b o, b ∉ ch → s.heap.get? b = some o → ∃ o', h'.get? b = some o')
    (tups : ∀ b xs, H b = some (.tup xs) → H' b = some (.tup xs)) (frzs : ∀ b o u, H b = some (.frz o u) → H' b = some (.frz o u)) (tbls : ∀ b ps, H b = some (.tbl ps) → ∃ more, H' b = some (.tbl (ps ++ more)))
    (ns : ∀ m, s.heap.Ns X.env.locals m → h'.Ns X.env.locals m) (hok : HOk X.prog X.w H' h') (hg : AllBare g') :
    Inv X pins σ H' { s with heap := h', gens := g', drawn := d', toks := t' } := by
  have neL : ∀ b o, X.s₀.heap.get? b = some o → b ≠ X.env.locals := fun b o e => Nat.ne_of_lt (Nat.lt_of_lt_of_le (Heap.lt_size e) I.ok.above)
  have neC : ∀ b o, X.s₀.heap.get? b = some o → b ∉ X.ex → b ∉ ch := fun b o e hx hb => by
    rcases (hch b hb).1 with z | z
    · exact hx z
    · exact absurd (Nat.lt_of_lt_of_le (Heap.lt_size e) z) (Nat.lt_irrefl _)
  have cellK : ∀ x c, X.env.cells.lookup x = some c → ∀ v, s.heap.IsCell c v → h'.IsCell c v := fun x c e v ⟨o, ho, hd⟩ => by
    have nch : c ∉ ch := fun z => (hch c z).2.2.1 x c e rfl
    by_cases hc : c ∈ X.fs
    · obtain ⟨sl, q⟩ := slot c o (I.cne x c e) hc nch ho (I.freeC x c e)
      exact ⟨_, q, hd⟩
    · exact ⟨o, keep c o (I.cne x c e) hc nch ho (I.freeC x c e), hd⟩
  refine ⟨I.ok, I.os, hg, ⟨fun b o e n hb hx => ?_, fun b o e n hb hx => ?_, fun b o e n hx => ?_, fun b o e hx => ?_, fun b xs e => tups b xs (I.base.tups b xs e), fun b o xs e => frzs b o xs (I.base.frzs b o xs e), fun b ps e => ?_⟩, ?_, fun x c e => ?_, ?_, fun x c e => ?_, fun p hp => ?_, hok, I.len⟩
  · exact keep b o (neL b o e) hb (neC b o e hx) (I.base.keep b o e n hb hx) (I.base.free b o e n hx)
  · obtain ⟨sl, e1⟩ := I.base.slot b o e n hb hx
    obtain ⟨sl', e2⟩ := slot b _ (neL b o e) hb (neC b o e hx) e1 (I.base.free b o e n hx)
    exact ⟨sl', e2⟩
  · obtain ⟨o', e1⟩ := I.base.there b o e hx
    exact free b o' (neC b o e hx) e1 (I.base.free b o e n hx)
  · obtain ⟨o', e1⟩ := I.base.there b o e hx
    exact there b o' (neC b o e hx) e1
  · obtain ⟨m1, e1⟩ := I.base.tbls b ps e
    obtain ⟨m2, e2⟩ := tbls b _ e1
    exact ⟨m1 ++ m2, by rw [e2, Array.append_assoc]⟩
  · obtain ⟨m, hn, hl⟩ := I.loc
    refine ⟨m, ns m hn, fun i x v e1 e2 e3 => ?_⟩
    obtain ⟨u, r, l⟩ := hl i x v e1 e2 e3
    refine ⟨u, r, ?_⟩
    rcases l with l | ⟨k, c, e, z⟩
    · exact .inl l
    · exact .inr ⟨k, c, e, cellK x c e _ z⟩
  · obtain ⟨v, z⟩ := I.cell x c e
    exact ⟨v, cellK x c e v z⟩
  · obtain ⟨m, ⟨o, _, _, ho, _⟩, _⟩ := I.loc
    exact free _ o (fun z => (hch _ z).2.1 rfl) ho I.free
  · obtain ⟨v, o, ho, hd⟩ := I.cell x c e
    exact free c o (fun z => (hch c z).2.2.1 x c e rfl) ho (I.freeC x c e)
  · obtain ⟨e, n, ne, nf, d⟩ := I.pin p hp
    have nch : p.1 ∉ ch := fun z => (hch p.1 z).2.2.2 p hp rfl
    exact ⟨keep p.1 p.2 ne nf nch e n, free p.1 p.2 nch e n, ne, nf, d⟩
theorem Inv.un {t' : Nat} (I : Inv X pins σ H s) (u : Un X.fs [] H H' s.heap h') (hok : HOk X.prog X.w H' h') : Inv X pins σ H' { s with heap := h', toks := t' } := by
  obtain ⟨m, ⟨o, es, ep, ho, r⟩, _⟩ := id I.loc
  obtain ⟨sl, hL⟩ := u.any ho I.free (by simp)
  exact I.step (g' := s.gens) (d' := s.drawn) (ch := []) (fun _ z => nomatch z) (fun b o _ hb _ e n => u.keep b o e n hb (by simp)) (fun b o _ hb _ e n => u.slot b o e n hb (by simp)) (fun b o _ e n => u.free b o e n (by simp)) (fun b o _ e => u.there b o e (by simp)) u.tups u.frzs u.tbls (fun m' hm => by
    obtain ⟨o', es', ep', ho', r'⟩ := hm
    rw [ho] at ho'; cases ho'
    exact ⟨_, es', ep', hL, r'⟩) hok I.bare
theorem Inv.call {g' : Array GenState} {t' : Nat} {d' : Drawn} {ch : List Addr} (I : Inv X pins σ H s) (u : Un (frs X.stack) ch H H' s.heap h') (hok : HOk X.prog X.w H' h') (hg : AllBare g')
    (hch : ∀ b ∈ ch, (b ∈ X.ex ∨ X.s₀.heap.objs.size ≤ b) ∧ b ≠ X.env.locals ∧ (∀ x c, X.env.cells.lookup x = some c → c ≠ b) ∧ ∀ p ∈ X.pn ++ pins, p.1 ≠ b) :
    Inv X pins σ H' { s with heap := h', gens := g', drawn := d', toks := t' } := by
  obtain ⟨m, ⟨o, es, ep, ho, r⟩, _⟩ := id I.loc
  obtain ⟨sl, hL⟩ := u.any ho I.free fun z => (hch _ z).2.1 rfl
  exact I.step (ch := ch) hch (fun b o hL hb hc e n => u.keep b o e n (fun z => (List.mem_cons.mp (I.stkSub b z)).elim hL hb) hc) (fun b o _ _ hc e n => u.any e n hc) (fun b o hc e n => u.free b o e n hc) (fun b o hc e => u.there b o e hc) u.tups u.frzs u.tbls (fun m' hm => by
    obtain ⟨o', es', ep', ho', r'⟩ := hm
    rw [ho] at ho'; cases ho'
    exact ⟨_, es', ep', hL, r'⟩) hok hg
theorem Inv.turned {t' : Nat} {it : Addr} (I : Inv X pins σ H s) (k : ∀ b o, b ≠ it → s.heap.get? b = some o → h'.get? b = some o) (hn : H it = none) (hL : it ≠ X.env.locals)
    (h1 : it ∈ X.ex ∨ X.s₀.heap.objs.size ≤ it) (h2 : ∀ x c, X.env.cells.lookup x = some c → c ≠ it) (h3 : ∀ p ∈ X.pn ++ pins, p.1 ≠ it) : Inv X pins σ H { s with heap := h', toks := t' } := by
  have nit : ∀ b u, H b = some u → b ≠ it := fun b u e z => by rw [z, hn] at e; cases e
  refine I.step (g' := s.gens) (d' := s.drawn) (ch := [it]) (fun b hb => ?_) (fun b o _ _ hc e _ => k b o (fun z => hc (by simp [z])) e) (fun b o _ _ hc e _ => ⟨o.slots, k b o (fun z => hc (by simp [z])) e⟩) (fun _ _ _ _ n => n)
    (fun b o hc e => ⟨o, k b o (fun z => hc (by simp [z])) e⟩) (fun _ _ e => e) (fun _ _ _ e => e) (fun b ps e => ⟨#[], by rw [e]; simp⟩) (fun m hm => ?_) (fun b u e => ?_) I.bare
  · have e : b = it := by simpa using hb
    subst e
    exact ⟨h1, hL, h2, h3⟩
  · obtain ⟨o, es, ep, ho, r⟩ := hm
    exact ⟨o, es, ep, k _ o (Ne.symm hL) ho, r⟩
  · refine (I.hok b u e).stay (fun c v hc q => k c v ?_ q) (fun _ q => q) fun _ _ q => q
    rcases hc with z | z
    · rw [z]; exact nit b u e
    · exact nit c _ z
theorem Inv.tok (I : Inv X pins σ H s) (t : Nat) : Inv X pins σ H { s with toks := t } := I.un (h' := s.heap) (t' := t) Un.refl I.hok
theorem Inv.kept {t' : Nat} (I : Inv X pins σ H s) (k : ∀ b u, s.heap.get? b = some u → h'.get? b = some u) : Inv X pins σ H { s with heap := h', toks := t' } := I.un (Un.kept k) (I.hok.kept k)
theorem Inv.laid {a : Addr} {o : HO} {t' : Nat} (I : Inv X pins σ H s) (k : ∀ b u, s.heap.get? b = some u → h'.get? b = some u) (hp : s.heap.objs.size ≤ a) (new : ObjOk X.prog X.w (upd H a o) h' a o) :
    Inv X pins σ (upd H a o) { s with heap := h', toks := t' } := I.un (Un.laid k hp (I.hok.fresh hp)) (I.hok.laid k hp new)
theorem Inv.write {x e : Addr} {o : HO} {t' : Nat} (I : Inv X pins σ H s) (mu : Mut (H x)) (he : e = x ∨ H e = some (.own x)) (k : ∀ b u, b ≠ e → s.heap.get? b = some u → h'.get? b = some u) (heo : ∃ u, h'.get? e = some u)
    (new : ObjOk X.prog X.w (upd H x o) h' x o) : Inv X pins σ (upd H x o) { s with heap := h', toks := t' } := I.un (Un.write mu he k heo) (I.hok.write mu he k heo new)
theorem Inv.pins_of {pins' : List (Addr × Obj)} (I : Inv X pins σ H s) (h : ∀ p ∈ pins', s.heap.get? p.1 = some p.2 ∧ H p.1 = none ∧ p.1 ≠ X.env.locals ∧ p.1 ∉ X.fs ∧ ∀ v, p.2.data ≠ .cell v) : Inv X pins' σ H s :=
  ⟨I.ok, I.os, I.bare, I.base, I.loc, I.cell, I.free, I.freeC, fun p hp => (List.mem_append.mp hp).elim (fun z => I.pin p (List.mem_append_left _ z)) (h p), I.hok, I.len⟩

theorem nodup_ix {N : List Str} (hN : N.Nodup) {i j : Nat} {x : Str} (a : N[i]? = some x) (b : N[j]? = some x) : i = j := by
  obtain ⟨h1, e1⟩ := List.getElem?_eq_some_iff.mp a
  obtain ⟨h2, e2⟩ := List.getElem?_eq_some_iff.mp b
  exact (List.getElem_inj hN).mp (e1.trans e2.symm)

theorem store_ok2 {M : Model} {A : Around} {E : Value → Shared → Prop} {i : Nat} {x : Str} {v : V} {u : Value} {Q : Unit → Shared → Prop} (I : Inv X pins σ H s) (hN : X.N.Nodup) (hi : X.N[i]? = some x) (hx : Loc X.env.scope x) (r : RelV v u)
    (h : ∀ s', Inv X pins (σ.set i (some v)) H s' → (∃ a, Heap.SameBut a s.heap s'.heap ∧ (a = X.env.locals ∨ X.env.cells.lookup x = some a)) → Q () s') (hf : X.fn x = true ∨ X.env.scope.names.lookup x = some .local := by first | exact .inl rfl | exact .inr rfl | assumption) : wpAny M A (storeName X.env x u) Q E s := by
  obtain ⟨m, hn, hl⟩ := id I.loc
  have hcls : (X.env.scope.kind == .class || (X.env.scope.kind == .module && X.env.locals != X.env.globals)) = false := by rw [I.ok.kind]; rfl
  have hiσ : i < σ.length := by rw [I.len]; exact (List.getElem?_eq_some_iff.mp hi).1
  have cne := I.cne
  have tracked : ∀ {a : Addr} {h' : Heap}, (∃ o, s.heap.get? a = some o ∧ H a = none) → Heap.SameBut a s.heap h' → HOk X.prog X.w H h' := fun {a h'} ha hs b ob e => by
    obtain ⟨_, _, hfree⟩ := ha
    refine (I.hok b ob e).stay (fun c w' hc q => (hs.2 c ?_).trans q) (fun _ q => q) fun _ _ q => q
    rintro rfl
    rcases hc with rfl | hc
    · rw [hfree] at e; cases e
    · rw [hfree] at hc; cases hc
  rcases hx with hk | hk
  · refine wpAny_storeName_local hk hn (fun h' hn' hs => ?_) hcls
    obtain ⟨oL, _, _, hoL, _⟩ := id hn
    refine h _ ⟨I.ok, I.os, I.bare, ⟨fun b o e n hb hx => ?_, fun b o e n hb hx => ?_, I.base.free, fun b o e hx => ?_, I.base.tups, I.base.frzs, I.base.tbls⟩, ⟨_, hn', fun j y v' e1 e2 e3 => ?_⟩, fun y c e => ?_, I.free, I.freeC, fun p hp => ?_, tracked ⟨oL, hoL, I.free⟩ hs, by simpa using I.len⟩ ⟨_, hs, .inl rfl⟩
    · exact (hs.2 b (Nat.ne_of_lt (Nat.lt_of_lt_of_le (Heap.lt_size e) I.ok.above))).trans (I.base.keep b o e n hb hx)
    · obtain ⟨sl, e1⟩ := I.base.slot b o e n hb hx
      exact ⟨sl, (hs.2 b (Nat.ne_of_lt (Nat.lt_of_lt_of_le (Heap.lt_size e) I.ok.above))).trans e1⟩
    · obtain ⟨o', e1⟩ := I.base.there b o e hx
      exact ⟨o', (hs.2 b (Nat.ne_of_lt (Nat.lt_of_lt_of_le (Heap.lt_size e) I.ok.above))).trans e1⟩
    · by_cases hj : j = i
      · subst hj
        rw [hi] at e1; cases e1
        rw [List.getElem?_set_self hiσ] at e2
        cases e2
        exact ⟨u, r, .inl ⟨hk, by simp⟩⟩
      · rw [List.getElem?_set_ne (Ne.symm hj)] at e2
        obtain ⟨u', r', q⟩ := hl j y v' e1 e2 e3
        refine ⟨u', r', ?_⟩
        rcases q with ⟨k, e⟩ | ⟨k, c, e, z⟩
        · refine .inl ⟨k, ?_⟩
          have : y ≠ x := fun e => hj (nodup_ix hN e1 (e ▸ hi))
          simp [this, e]
        · exact .inr ⟨k, c, e, z.sameBut hs (cne y c e)⟩
    · obtain ⟨w', z⟩ := I.cell y c e
      exact ⟨w', z.sameBut hs (cne y c e)⟩
    · obtain ⟨e, n, ne, nf, d⟩ := I.pin p hp
      exact ⟨(hs.2 p.1 ne).trans e, n, ne, nf, d⟩
  · have hfn : X.fn x = true := by
      rcases hf with z | z
      · exact z
      · rw [z] at hk; cases hk
    obtain ⟨c, hc⟩ := I.ok.has x (.inl hk)
    obtain ⟨w', z⟩ := I.cell x c hc
    refine wpAny_storeName_cell I.ok.kind hk hc z (fun h' hc' hs => ?_)
    obtain ⟨oc, hoc, hocd⟩ := id z
    refine h { s with heap := h' } ⟨I.ok, I.os, I.bare, ⟨fun b o e n hb hx => ?_, fun b o e n hb hx => ?_, I.base.free, fun b o e hx => ?_, I.base.tups, I.base.frzs, I.base.tbls⟩, ⟨m, hn.sameBut hs (Ne.symm (cne x c hc)), fun j y v' e1 e2 e3 => ?_⟩, fun y c' e => ?_, I.free, I.freeC, fun p hp => ?_, tracked ⟨oc, hoc, I.freeC x c hc⟩ hs, by simpa using I.len⟩ ⟨c, hs, .inr hc⟩
    · exact (hs.2 b (Nat.ne_of_lt (Nat.lt_of_lt_of_le (Heap.lt_size e) (I.ok.cab x c hfn hc)))).trans (I.base.keep b o e n hb hx)
    · obtain ⟨sl, e1⟩ := I.base.slot b o e n hb hx
      exact ⟨sl, (hs.2 b (Nat.ne_of_lt (Nat.lt_of_lt_of_le (Heap.lt_size e) (I.ok.cab x c hfn hc)))).trans e1⟩
    · obtain ⟨o', e1⟩ := I.base.there b o e hx
      exact ⟨o', (hs.2 b (Nat.ne_of_lt (Nat.lt_of_lt_of_le (Heap.lt_size e) (I.ok.cab x c hfn hc)))).trans e1⟩
    · by_cases hj : j = i
      · subst hj
        rw [hi] at e1; cases e1
        rw [List.getElem?_set_self hiσ] at e2
        cases e2
        exact ⟨u, r, .inr ⟨.inl hk, c, hc, hc'⟩⟩
      · rw [List.getElem?_set_ne (Ne.symm hj)] at e2
        obtain ⟨u', r', q⟩ := hl j y v' e1 e2 e3
        refine ⟨u', r', ?_⟩
        rcases q with q | ⟨k, c', e, z'⟩
        · exact .inl q
        · refine .inr ⟨k, c', e, z'.sameBut hs ?_⟩
          rintro rfl
          exact hj (nodup_ix hN e1 (I.ok.inj _ _ _ e hc ▸ hi))
    · by_cases hcc : c' = c
      · subst hcc; exact ⟨_, hc'⟩
      · obtain ⟨w2, z2⟩ := I.cell y c' e
        exact ⟨w2, z2.sameBut hs hcc⟩
    · obtain ⟨e, n, ne, nf, d⟩ := I.pin p hp
      refine ⟨(hs.2 p.1 ?_).trans e, n, ne, nf, d⟩
      intro q
      rw [q, hoc] at e
      have q' : oc = p.2 := Option.some.inj e
      exact d w' (by rw [← q']; exact hocd)
theorem store_ok {M : Model} {A : Around} {E : Value → Shared → Prop} {i : Nat} {x : Str} {v : V} {u : Value} {Q : Unit → Shared → Prop} (I : Inv X pins σ H s) (hN : X.N.Nodup) (hi : X.N[i]? = some x) (hx : Loc X.env.scope x) (r : RelV v u)
    (h : ∀ s', Inv X pins (σ.set i (some v)) H s' → Q () s') (hf : X.fn x = true ∨ X.env.scope.names.lookup x = some .local := by first | exact .inl rfl | exact .inr rfl | assumption) : wpAny M A (storeName X.env x u) Q E s :=
  store_ok2 I hN hi hx r (fun s' I' _ => h s' I') hf
theorem Inv.call' {s' : Shared} {ch : List Addr} (I : Inv X pins σ H s) (ho : s'.os = s.os) (u : Un (frs X.stack) ch H H' s.heap s'.heap) (hok : HOk X.prog X.w H' s'.heap) (hg : AllBare s'.gens)
    (hch : ∀ b ∈ ch, (b ∈ X.ex ∨ X.s₀.heap.objs.size ≤ b) ∧ b ≠ X.env.locals ∧ (∀ x c, X.env.cells.lookup x = some c → c ≠ b) ∧ ∀ p ∈ X.pn ++ pins, p.1 ≠ b) : Inv X pins σ H' s' := by
  obtain ⟨h', g', d', t', o'⟩ := s'
  have e : o' = s.os := ho
  subst e
  exact I.call (g' := g') (t' := t') (d' := d') u hok hg hch
end

noncomputable abbrev XK := Value → Option Addr → Hp → Prop
noncomputable abbrev St := List (Option V)
noncomputable abbrev VK := V → Hp → Prop
noncomputable abbrev TE := St → Hp → VK → Prop
noncomputable abbrev TT := St → Hp → (Bool → Hp → Prop) → Prop
noncomputable abbrev TA := St → Hp → (List V → Hp → Prop) → Prop
structure Ends where
  nx : St → Hp → Prop
  rt : VK
  bk : St → Hp → Prop := fun _ _ => False
  ct : St → Hp → Prop := fun _ _ => False
noncomputable abbrev TS := Ends → St → Hp → Prop

noncomputable def EP (X : Cx) (pins : List (Addr × Obj)) (σ : St) (Q : VK) (u : Value) (s' : Shared) : Prop := ∃ v H', Inv X pins σ H' s' ∧ RelV v u ∧ Q v H'
noncomputable def TP (X : Cx) (pins : List (Addr × Obj)) (σ : St) (Q : Bool → Hp → Prop) (b : Bool) (s' : Shared) : Prop := ∃ H', Inv X pins σ H' s' ∧ Q b H'
noncomputable def AP (X : Cx) (pins : List (Addr × Obj)) (σ : St) (Q : List V → Hp → Prop) (us : List Value) (s' : Shared) : Prop := ∃ vs H', Inv X pins σ H' s' ∧ Vals vs us ∧ Q vs H'
noncomputable def SP (X : Cx) (pins : List (Addr × Obj)) (D : Ends) (f : Flow) (s' : Shared) : Prop :=
  match f with
  | .next => ∃ σ' H', Inv X pins σ' H' s' ∧ D.nx σ' H'
  | .brk => ∃ σ' H', Inv X pins σ' H' s' ∧ D.bk σ' H'
  | .cont => ∃ σ' H', Inv X pins σ' H' s' ∧ D.ct σ' H'
  | .ret u => ∃ v σ' H', Inv X pins σ' H' s' ∧ RelV v u ∧ D.rt v H'

noncomputable def PE (X : Cx) (e : Expr) (t : TE) : Prop :=
  ∀ (pins : List (Addr × Obj)) (s : Shared) (σ : St) (H : Hp) (Q : VK), Inv X pins σ H s → t σ H Q → wpAny (model X.prog X.w) X.A (eval e X.env) (EP X pins σ Q) X.xe s
noncomputable def PT (X : Cx) (e : Expr) (t : TT) : Prop :=
  ∀ (pins : List (Addr × Obj)) (s : Shared) (σ : St) (H : Hp) (Q : Bool → Hp → Prop), Inv X pins σ H s → t σ H Q → wpAny (model X.prog X.w) X.A (isTrue e X.env (eval e X.env)) (TP X pins σ Q) X.xe s
noncomputable def PW (X : Cx) (e : Expr) (t : TT) : Prop :=
  ∀ (whole : Sem Value) (pins : List (Addr × Obj)) (s : Shared) (σ : St) (H : Hp) (Q : Bool → Hp → Prop), Inv X pins σ H s → t σ H Q → wpAny (model X.prog X.w) X.A (isTrue e X.env whole) (TP X pins σ Q) X.xe s
theorem PW.pt {X : Cx} {e : Expr} {t : TT} (h : PW X e t) : PT X e t := h _
noncomputable def PA (X : Cx) (es : List Expr) (t : TA) : Prop :=
  ∀ (pos : Pos) (pins : List (Addr × Obj)) (s : Shared) (σ : St) (H : Hp) (Q : List V → Hp → Prop), Inv X pins σ H s → t σ H Q → wpAny (model X.prog X.w) X.A (spliced (backTo pos (starEach es X.env))) (AP X pins σ Q) X.xe s
noncomputable def PS (X : Cx) (st : Stmt) (t : TS) : Prop :=
  ∀ (pins : List (Addr × Obj)) (s : Shared) (σ : St) (H : Hp) (D : Ends), Inv X pins σ H s → t D σ H → wpAny (model X.prog X.w) X.A (exec st X.env) (SP X pins D) X.xe s
noncomputable def PSs (X : Cx) (st : List Stmt) (t : TS) : Prop :=
  ∀ (pins : List (Addr × Obj)) (s : Shared) (σ : St) (H : Hp) (D : Ends), Inv X pins σ H s → t D σ H → wpAny (model X.prog X.w) X.A (execs st X.env) (SP X pins D) X.xe s
theorem thn {α : Type} {t : Sem α} {Q Q' : α → Shared → Prop} {M : Model} {A : Around} {E : Value → Shared → Prop} {s : Shared} (h : wpAny M A t Q E s) (hQ : ∀ a s, Q a s → Q' a s) : wpAny M A t Q' E s := wpAny_mono h hQ fun _ _ x => x
end L2

namespace L2
open PySem PySem.Spec PyProof.Rows
section
variable {X : Cx}


inductive TVar (i : Nat) (σ : St) (H : Hp) (Q : VK) : Prop
  | mk (v : V) (e : σ[i]? = some (some v)) (q : Q v H) : TVar i σ H Q
noncomputable def tVar (i : Nat) : TE := fun σ H Q => TVar i σ H Q
noncomputable def tC (v : V) : TE := fun _ H Q => Q v H
theorem pe_var {i : Nat} {x : Str} {pos : Pos} (hN : X.N[i]? = some x) (hv : Vis X.env.scope x) (hd : (x == ("__debug__" : Str)) = false := by decide) (hcd : (x == ("__classdict__" : Str)) = false := by decide) : PE X (.Name x pos) (tVar i) := by
  intro pins s σ H Q I h
  obtain ⟨v, e, h⟩ := h
  obtain ⟨m, hn, hl⟩ := I.loc
  obtain ⟨u, r, l⟩ := hl i x v hN e hv
  have fin : EP X pins σ Q u s := ⟨v, H, I, r, h⟩
  rcases l with ⟨hk, hm⟩ | ⟨hk, c, hc, hcell⟩
  · exact wpAny_Name (wpAny_loadName_local I.ok.kind hk hn hm fin) hd
  · rcases hk with hk | hk
    · exact wpAny_Name (wpAny_loadName_cell I.ok.kind hk hc hcell fin) hd
    · exact wpAny_Name (wpAny_loadName_free I.ok.kind hk hc hcell fin hcd) hd
theorem pe_int {i j pos} : PE X (.Constant (.int i) j pos) (tC (.int i)) := fun _ _ _ H _ I h => wpAny_Constant_int ⟨.int i, H, I.tok _, ⟨_, rfl⟩, h⟩
theorem pe_bl {b j pos} : PE X (.Constant (.bool b) j pos) (tC (.bl b)) := fun _ _ _ H _ I h => Constant_bool ⟨.bl b, H, I, rfl, h⟩
theorem pe_non {j pos} : PE X (.Constant .none j pos) (tC .non) := fun _ _ _ H _ I h => Constant_none ⟨.non, H, I, rfl, h⟩
theorem pe_str {x j pos} : PE X (.Constant (.str x) j pos) (tC (.str x)) := fun _ _ _ H _ I h => Calls.Constant_str ⟨.str x, H, I.tok _, ⟨_, rfl⟩, h⟩

noncomputable def Gl (X : Cx) (x : Str) : Prop := X.env.kindOf x = some .globalImplicit
theorem ld_glob {E : Value → Shared → Prop} {pins : List (Addr × Obj)} {s : Shared} {σ : St} {H : Hp} {x : Str} {u : Value} {pos : Pos} {Q : Value → Shared → Prop} (I : Inv X pins σ H s) (hg : Gl X x) (hm : X.mg x = some u) (h : Q u s)
    (hd : (x == ("__debug__" : Str)) = false := by decide) : wpAny (model X.prog X.w) X.A (eval (.Name x pos) X.env) Q E s :=
  Calls.Name_function_global I.ok.kind hg (Calls.loadGlobal_global (by rw [I.ok.glob]; exact I.mod.glob.keeps I.bk) hm h) hd
theorem ld_blt {E : Value → Shared → Prop} {pins : List (Addr × Obj)} {s : Shared} {σ : St} {H : Hp} {x : Str} {u : Value} {pos : Pos} {Q : Value → Shared → Prop} (I : Inv X pins σ H s) (hg : Gl X x) (hm : X.mg x = none) (hv : bootBuiltins x = some u) (h : Q u s)
    (hn : x ≠ "__name__" := by decide) (hd : (x == ("__debug__" : Str)) = false := by decide) : wpAny (model X.prog X.w) X.A (eval (.Name x pos) X.env) Q E s := by
  obtain ⟨mb, h1, h2⟩ := I.mod.blt
  exact Calls.Name_function_global I.ok.kind hg (Calls.loadGlobal_builtin (by rw [I.ok.glob]; exact I.mod.glob.keeps I.bk) hm (by rw [I.ok.blt]; exact h1.keeps I.bk) ((h2 x hn).trans hv) h) hd
theorem pe_bltn {x : Str} {v : V} {u : Value} {pos : Pos} (hg : Gl X x) (hm : X.mg x = none) (hv : bootBuiltins x = some u) (r : RelV v u) (hn : x ≠ "__name__" := by decide) (hd : (x == ("__debug__" : Str)) = false := by decide) : PE X (.Name x pos) (tC v) :=
  fun _ _ _ H _ I h => ld_blt I hg hm hv ⟨v, H, I, r, h⟩ hn hd

variable {a b : Expr} {ta tb : TE} {pos : Pos}

noncomputable def PC (X : Cx) (op : CmpOp) (a b : Expr) (t : TE) : Prop :=
  ∀ (pins : List (Addr × Obj)) (s : Shared) (σ : St) (H : Hp) (Q : VK), Inv X pins σ H s → t σ H Q →
    wpAny (model X.prog X.w) X.A (eval a X.env) (fun v s₁ => wpAny (model X.prog X.w) X.A (eval b X.env) (fun u s₂ => wpAny (model X.prog X.w) X.A (compareOp op v u) (EP X pins σ Q) X.xe s₂) X.xe s₁) X.xe s
inductive J_tB (Q : Bool → Hp → Prop) (x : V) (H1 : Hp) : Prop
  | mk : ∀ c, (x = .bl c) → (Q c H1) → J_tB Q x H1
noncomputable def tB (t : TE) : TT := fun σ H Q => t σ H fun x H1 => J_tB Q x H1
theorem pt_cmp {op : CmpOp} {t : TE} (h : PC X op a b t) (h1 : behindInMarks op b = false := by first | exact nobehind _ (by decide) (by decide) | rfl) : PT X (.Compare a [op] [b] pos) (tB t) := by
  intro pins s σ H Q I hw
  refine wpAny_isTrue_Compare1 (thn (h pins s σ H _ I hw) fun v s1 h1 => thn h1 fun u s2 h2 => thn h2 fun c s3 ⟨x, H1, I1, r1, q1⟩ => ?_) h1
  obtain ⟨d, rfl, q⟩ := q1
  cases r1
  exact wpAny_truthy_bool ⟨H1, I1, q⟩
theorem pt_val {e : Expr} {t : TE} (h : PE X e t) (he : ∀ whole, isTrue e X.env whole = (do let v ← whole; standAt e.pos; holding [v] (truthy v)) := by intro _; rfl) : PT X e (tB t) := by
  intro pins s σ H Q I hw
  refine isTrue_plain (thn (h pins s σ H _ I hw) fun v s1 ⟨x, H1, I1, r1, q1⟩ => ?_) (he _)
  obtain ⟨d, rfl, q⟩ := q1
  cases r1
  exact wpAny_truthy_bool ⟨H1, I1, q⟩

variable {tA tB' : TT} {rest : List Expr}
noncomputable def tAnd (t u : TT) : TT := fun σ H Q => t σ H fun c H1 => if c = true then u σ H1 Q else Q false H1
noncomputable def tOr (t u : TT) : TT := fun σ H Q => t σ H fun c H1 => if c = true then Q true H1 else u σ H1 Q
noncomputable def tNot (t : TT) : TT := fun σ H Q => t σ H fun c H1 => Q (!c) H1
theorem pw_and1 (ha : PT X a tA) : PW X (.BoolOp .And [a] pos) tA := by
  intro wh pins s σ H Q I h
  refine isTrue_and (thn (ha pins s σ H Q I h) fun c s1 e => ?_)
  cases c with
  | true => exact isTrue_and_nil e
  | false => exact e
theorem pw_or1 (ha : PT X a tA) : PW X (.BoolOp .Or [a] pos) tA := by
  intro wh pins s σ H Q I h
  refine isTrue_or (thn (ha pins s σ H Q I h) fun c s1 e => ?_)
  cases c with
  | false => exact isTrue_or_nil e
  | true => exact e
theorem pw_and (ha : PT X a tA) (hb : PW X (.BoolOp .And (b :: rest) pos) tB') : PW X (.BoolOp .And (a :: b :: rest) pos) (tAnd tA tB') := by
  intro wh pins s σ H Q I h
  refine isTrue_and (thn (ha pins s σ H _ I h) fun c s1 ⟨H1, I1, q1⟩ => ?_)
  cases c with
  | true => exact hb wh pins s1 σ H1 Q I1 q1
  | false => exact ⟨H1, I1, q1⟩
theorem pw_or (ha : PT X a tA) (hb : PW X (.BoolOp .Or (b :: rest) pos) tB') : PW X (.BoolOp .Or (a :: b :: rest) pos) (tOr tA tB') := by
  intro wh pins s σ H Q I h
  refine isTrue_or (thn (ha pins s σ H _ I h) fun c s1 ⟨H1, I1, q1⟩ => ?_)
  cases c with
  | true => exact ⟨H1, I1, q1⟩
  | false => exact hb wh pins s1 σ H1 Q I1 q1
theorem pt_not (ha : PT X a tA) : PT X (.UnaryOp .Not a pos) (tNot tA) := by
  intro pins s σ H Q I h
  exact isTrue_not (ha pins s σ H (fun c H1 => Q (!c) H1) I h)
noncomputable def tIf (t : TT) (ta tb : TE) : TE := fun σ H Q => t σ H fun c H1 => if c = true then ta σ H1 Q else tb σ H1 Q
theorem pe_ifExp {c : Expr} (hc : PT X c tA) (ha : PE X a ta) (hb : PE X b tb) : PE X (.IfExp c a b pos) (tIf tA ta tb) := by
  intro pins s σ H Q I h
  refine wpAny_IfExp (thn (hc pins s σ H _ I h) fun d s1 ⟨H1, I1, q1⟩ => ?_)
  cases d with
  | true => exact ha pins s1 σ H1 Q I1 q1
  | false => exact hb pins s1 σ H1 Q I1 q1
end
end L2

namespace L2
open PySem PySem.Spec PyProof.Rows

noncomputable def SqL (K : PySem.W.Frag) (H : Hp) (a : Addr) (xs : List V) : Prop :=
  Rd H a (.lst xs) ∨
    ∃ (o : Obj) (its : Array Value) (n : Nat), K.lookup a = some o ∧ o.cls = .type "list" ∧ o.dict = none ∧ o.data = .seq its n ∧ its.size ≤ sizeLine ∧ Vals xs its.toList
noncomputable def SqT (K : PySem.W.Frag) (H : Hp) (a : Addr) (xs : List V) : Prop :=
  Rd H a (.tup xs) ∨
    ∃ (o : Obj) (its : Array Value) (n : Nat), K.lookup a = some o ∧ o.cls = .type "tuple" ∧ o.data = .seq its n ∧ its.size ≤ sizeLine ∧ Vals xs its.toList
noncomputable def absV : Value → Option V
  | .none => some .non
  | .bool b => some (.bl b)
  | .int i _ => some (.int i)
  | .str x _ => some (.str x)
  | .bytes b _ => some (.byt b)
  | .float b _ => some (.flt b)
  | .ref a => some (.ref a)
  | .type n => some (.ty n)
  | _ => none
theorem RelV.abs {x : V} {u : Value} (r : RelV x u) : absV u = some x := by
  cases x with
  | non => cases r; rfl
  | bl _ => cases r; rfl
  | int _ => obtain ⟨t, rfl⟩ := r; rfl
  | str _ => obtain ⟨t, rfl⟩ := r; rfl
  | byt _ => obtain ⟨t, rfl⟩ := r; rfl
  | flt _ => obtain ⟨t, rfl⟩ := r; rfl
  | ref _ => cases r; rfl
  | ty _ => cases r; rfl
theorem RelV.inj {x y : V} {u : Value} (r : RelV x u) (q : RelV y u) : x = y := Option.some.inj (r.abs.symm.trans q.abs)
theorem Vals.inj : ∀ {xs ys : List V} {us : List Value}, Vals xs us → Vals ys us → xs = ys
  | _, _, _, .nil, .nil => rfl
  | _, _, _, .cons r t, .cons r' t' => by rw [r.inj r', Vals.inj t t']
section
variable {X : Cx} {pins : List (Addr × Obj)} {σ : St} {H : Hp} {s : Shared} {a : Addr} {xs ys : List V}
theorem SqL.of {K : PySem.W.Frag} (h : H a = some (.lst xs)) : SqL K H a xs := .inl (.inl h)
theorem SqT.of {K : PySem.W.Frag} (h : H a = some (.tup xs)) : SqT K H a xs := .inl (.inl h)
theorem Inv.list (I : Inv X pins σ H s) (h : SqL X.K H a xs) : ∃ its : List Value, Vals xs its ∧ PlainL s.heap a its.toArray ∧ xs.length ≤ sizeLine := by
  rcases h with h | ⟨o, its, n, hk, hc, hd, hs, hz, r⟩
  · obtain ⟨z, its, n, r, e⟩ := h.ok I.hok
    exact ⟨its, r, ⟨_, n, e, rfl, rfl, rfl⟩, z⟩
  · refine ⟨its.toList, r, ⟨o, n, I.kIn a o hk, hc, hd, by simpa using hs⟩, ?_⟩
    have e := r.length
    simp only [Array.length_toList] at e
    omega
theorem Inv.tuple (I : Inv X pins σ H s) (h : SqT X.K H a xs) : ∃ its : List Value, Vals xs its ∧ IsTup s.heap a its.toArray ∧ xs.length ≤ sizeLine := by
  rcases h with h | ⟨o, its, n, hk, hc, hs, hz, r⟩
  · obtain ⟨z, its, r, p⟩ := h.ok I.hok
    exact ⟨its, r, p.tup, z⟩
  · refine ⟨its.toList, r, ⟨o, I.kIn a o hk, hc, n, by simpa using hs⟩, ?_⟩
    have e := r.length
    simp only [Array.length_toList] at e
    omega
theorem Inv.list_inj (I : Inv X pins σ H s) (h : SqL X.K H a xs) (h' : SqL X.K H a ys) : xs = ys := by
  obtain ⟨its, r, ⟨o, n, e, _, _, d⟩, _⟩ := I.list h
  obtain ⟨its', r', ⟨o', n', e', _, _, d'⟩, _⟩ := I.list h'
  rw [e] at e'; cases e'
  rw [d] at d'
  injection d' with d1 _
  have : its = its' := by simpa using congrArg Array.toList d1
  subst this
  exact r.inj r'
theorem Inv.tuple_inj (I : Inv X pins σ H s) (h : SqT X.K H a xs) (h' : SqT X.K H a ys) : xs = ys := by
  obtain ⟨its, r, ⟨o, e, _, n, d⟩, _⟩ := I.tuple h
  obtain ⟨its', r', ⟨o', e', _, n', d'⟩, _⟩ := I.tuple h'
  rw [e] at e'; cases e'
  rw [d] at d'
  injection d' with d1 _
  have : its = its' := by simpa using congrArg Array.toList d1
  subst this
  exact r.inj r'
end

noncomputable abbrev Cx.wish (X : Cx) (E : Value → Shared → Prop) : Cx := { X with xe := E }
noncomputable abbrev Cx.nox (X : Cx) : Cx := X.wish fun _ _ => False
theorem Cx.Ok.wish {X : Cx} (ok : X.Ok) (E : Value → Shared → Prop) : (X.wish E).Ok :=
  ⟨ok.mod, ok.kind, ok.glob, ok.blt, ok.above, ok.inj, ok.has, ok.cab, ok.hd, ok.frames, ok.stk, ok.exf, ok.bs, ok.bsz, ok.noex, ok.exfs, ok.funs, ok.frf⟩
theorem Cx.Ok.unwish {X : Cx} {E : Value → Shared → Prop} (ok : (X.wish E).Ok) : X.Ok :=
  ⟨ok.mod, ok.kind, ok.glob, ok.blt, ok.above, ok.inj, ok.has, ok.cab, ok.hd, ok.frames, ok.stk, ok.exf, ok.bs, ok.bsz, ok.noex, ok.exfs, ok.funs, ok.frf⟩
section
variable {X : Cx} {pins : List (Addr × Obj)} {σ : St} {H : Hp} {s : Shared} {E : Value → Shared → Prop}
theorem Inv.wish (I : Inv X pins σ H s) (E : Value → Shared → Prop) : Inv (X.wish E) pins σ H s := ⟨I.ok.wish E, I.os, I.bare, I.base, I.loc, I.cell, I.free, I.freeC, I.pin, I.hok, I.len⟩
theorem Inv.unwish (I : Inv (X.wish E) pins σ H s) : Inv X pins σ H s := ⟨I.ok.unwish, I.os, I.bare, I.base, I.loc, I.cell, I.free, I.freeC, I.pin, I.hok, I.len⟩
theorem SP.unwish {D : Ends} {f : Flow} {s' : Shared} (h : SP (X.wish E) pins D f s') : SP X pins D f s' := by
  cases f with
  | next => obtain ⟨σ', H', I, q⟩ := h; exact ⟨σ', H', I.unwish, q⟩
  | brk => obtain ⟨σ', H', I, q⟩ := h; exact ⟨σ', H', I.unwish, q⟩
  | cont => obtain ⟨σ', H', I, q⟩ := h; exact ⟨σ', H', I.unwish, q⟩
  | ret u => obtain ⟨v, σ', H', I, r, q⟩ := h; exact ⟨v, σ', H', I.unwish, r, q⟩
theorem PSs.nox {st : List Stmt} {t : TS} (h : PSs X.nox st t) : PSs X st t := fun pins s σ H D I hw =>
  wpAny_mono (h pins s σ H D (I.wish _) hw) (fun _ _ q => q.unwish) fun _ _ z => False.elim z
end

section
variable {X : Cx} {st : Stmt} {rest : List Stmt} {t u : TS} {e : Expr} {te : TE} {pos : Pos}
noncomputable def tNext : TS := fun D σ H => D.nx σ H
noncomputable def tSeq (t u : TS) : TS := fun D σ H => t { D with nx := u D } σ H
theorem pss_nil : PSs X [] tNext := fun _ _ σ H _ I h => wpAny_execs_nil ⟨σ, H, I, h⟩
theorem pss_cons (h1 : PS X st t) (h2 : PSs X rest u) : PSs X (st :: rest) (tSeq t u) := by
  intro pins s σ H D I h
  refine wpAny_execs_cons (thn (h1 pins s σ H { D with nx := u D } I h) fun f s1 q => ?_)
  cases f with
  | next =>
    obtain ⟨σ', H', I', q⟩ := q
    exact h2 pins s1 σ' H' D I' q
  | ret v => exact q
  | brk => exact q
  | cont => exact q
theorem pss_one (h1 : PS X st t) : PSs X [st] t := by
  intro pins s σ H D I h
  refine wpAny_execs_cons (thn (h1 pins s σ H D I h) fun f s1 q => ?_)
  cases f with
  | next => exact wpAny_execs_nil q
  | ret v => exact q
  | brk => exact q
  | cont => exact q
theorem ps_pass : PS X (.Pass pos) tNext := fun _ _ σ H _ I h => wpAny_Pass ⟨σ, H, I, h⟩
theorem Inv.quiet {pins : List (Addr × Obj)} {σ : St} {H : Hp} {s : Shared} (I : Inv X pins σ H s) : interactive X.env = false := by simp [interactive, I.ok.kind]
noncomputable def tDrop (te : TE) : TS := fun D σ H => te σ H fun _ H1 => D.nx σ H1
theorem ps_expr (he : PE X e te) (hs : swapsWith e none pos.line X.env = pure false := by rfl) : PS X (.Expr e pos) (tDrop te) := by
  intro pins s σ H D I h
  exact wpAny_Expr_any (thn (he pins s σ H _ I h) fun v s1 ⟨x, H1, I1, r1, q1⟩ => ⟨σ, H1, I1, q1⟩) I.quiet hs
noncomputable def tRet (te : TE) : TS := fun D σ H => te σ H D.rt
theorem ps_ret (he : PE X e te) : PS X (.Return (some e) pos) (tRet te) := by
  intro pins s σ H D I h
  exact wpAny_Return_some (thn (he pins s σ H _ I h) fun v s1 ⟨x, H1, I1, r1, q1⟩ => ⟨x, σ, H1, I1, r1, q1⟩)
noncomputable def tIfS (c : TT) (t u : TS) : TS := fun D σ H => c σ H fun b H1 => if b = true then t D σ H1 else u D σ H1
theorem ps_if {c : Expr} {a b : List Stmt} {tc : TT} (hc : PT X c tc) (ha : PSs X a t) (hb : PSs X b u) : PS X (.If c a b pos) (tIfS tc t u) := by
  intro pins s σ H D I h
  refine wpAny_If (thn (hc pins s σ H _ I h) fun d s1 ⟨H1, I1, q1⟩ => ?_)
  cases d with
  | true => exact ha pins s1 σ H1 D I1 q1
  | false => exact hb pins s1 σ H1 D I1 q1
end

noncomputable abbrev TG := V → St → Hp → (St → Hp → Prop) → Prop
noncomputable abbrev TGs := List V → St → Hp → (St → Hp → Prop) → Prop
noncomputable def PG (X : Cx) (target : Expr) (t : TG) : Prop :=
  ∀ (pins : List (Addr × Obj)) (s : Shared) (σ : St) (H : Hp) (v : V) (u : Value) (Q : St → Hp → Prop), Inv X pins σ H s → RelV v u → t v σ H Q →
    wpAny (model X.prog X.w) X.A (assign target X.env u) (fun _ s' => ∃ σ' H', Inv X pins σ' H' s' ∧ Q σ' H') X.xe s
noncomputable def PGs (X : Cx) (ts : List Expr) (t : TGs) : Prop :=
  ∀ (pins : List (Addr × Obj)) (s : Shared) (σ : St) (H : Hp) (vs : List V) (us : List Value) (Q : St → Hp → Prop), Inv X pins σ H s → Vals vs us → t vs σ H Q →
    wpAny (model X.prog X.w) X.A (assignInOrder ((assignEach ts X.env).map (·.2)) us) (fun _ s' => ∃ σ' H', Inv X pins σ' H' s' ∧ Q σ' H') X.xe s
noncomputable abbrev TSet := V → V → V → Hp → (Hp → Prop) → Prop
noncomputable def PSet (X : Cx) (t : TSet) : Prop :=
  ∀ (pins : List (Addr × Obj)) (s : Shared) (σ : St) (H : Hp) (o i v : V) (ov iv u : Value) (Q : Hp → Prop), Inv X pins σ H s → RelV o ov → RelV i iv → RelV v u → t o i v H Q →
    wpAny (model X.prog X.w) X.A (setItem ov iv u) (fun _ s' => ∃ H', Inv X pins σ H' s' ∧ Q H') X.xe s
section
variable {X : Cx} {pos : Pos}
noncomputable def gName (i : Nat) : TG := fun v σ H Q => Q (σ.set i (some v)) H
theorem pg_name {i : Nat} {x : Str} (hN : X.N.Nodup) (hi : X.N[i]? = some x) (hx : Loc X.env.scope x) (hf : X.fn x = true ∨ X.env.scope.names.lookup x = some .local := by first | exact .inl rfl | exact .inr rfl | assumption) : PG X (.Name x pos) (gName i) := by
  intro pins s σ H v u Q I r h
  exact wpAny_assign_Name (store_ok I hN hi hx r (fun s' I' => ⟨_, H, I', h⟩) hf)
noncomputable def gNil : TGs := fun vs σ H Q => vs = [] ∧ Q σ H
inductive J_gCons (t : TG) (u : TGs) (vs : List V) (σ : St) (H : Hp) (Q : St → Hp → Prop) : Prop
  | mk : ∀ v r, (vs = v :: r) → (t v σ H fun σ' H' => u r σ' H' Q) → J_gCons t u vs σ H Q
noncomputable def gCons (t : TG) (u : TGs) : TGs := fun vs σ H Q => J_gCons t u vs σ H Q
theorem pgs_nil : PGs X [] gNil := by
  intro pins s σ H vs us Q I r h
  obtain ⟨e, h⟩ := h
  subst e
  cases r
  exact assignInOrder_nil ⟨σ, H, I, h⟩
theorem pgs_cons {e : Expr} {es : List Expr} {t : TG} {u : TGs} (h1 : PG X e t) (h2 : PGs X es u)
    (hs : (assignEach (e :: es) X.env).map (·.2) = assign e X.env :: (assignEach es X.env).map (·.2) := by rfl) : PGs X (e :: es) (gCons t u) := by
  intro pins s σ H vs us Q I r h
  obtain ⟨v, vr, e1, h⟩ := h
  subst e1
  cases r with
  | cons r rr =>
    rw [hs]
    refine assignInOrder_cons (thn (h1 pins s σ H _ _ _ I r h) fun _ s1 ⟨σ1, H1, I1, q1⟩ => ?_)
    exact h2 pins s1 σ1 H1 _ _ Q I1 rr q1
inductive J_gTup (K : PySem.W.Frag) (n : Nat) (t : TGs) (v : V) (σ : St) (H : Hp) (Q : St → Hp → Prop) : Prop
  | mk : ∀ a xs, (v = .ref a) → (SqT K H a xs) → (xs.length = n) → (t xs σ H Q) → J_gTup K n t v σ H Q
noncomputable def gTup (K : PySem.W.Frag) (n : Nat) (t : TGs) : TG := fun v σ H Q => J_gTup K n t v σ H Q
theorem pg_tup {es : List Expr} {k : Nat} {t : TGs} {n : Nat} (hc : X.calm = true) (h : PGs X es t)
    (hn : (assignEach es X.env).length = n := by rfl) (hst : (assignEach es X.env).findIdx? (·.1) = none := by rfl) : PG X (.Tuple es k pos) (gTup X.K n t) := by
  intro pins s σ H v u Q I r hw
  obtain ⟨a, xs, e1, hq, hl, hw⟩ := hw
  subst e1
  cases r
  obtain ⟨its, rv, ht, hz⟩ := I.tuple hq
  refine assign_Tuple_tuple (I.ok.hd hc) ht (by simp [hn, ← hl, rv.length]) hst fun h' hx => ?_
  have I1 : Inv X pins σ H { s with heap := h' } := I.kept (t' := s.toks) fun b o e => hx b o (Nat.ne_of_lt (Heap.lt_size e)) e
  exact h pins _ σ H xs _ Q I1 (by simpa using rv) hw
noncomputable def gSub (to ti : TE) (t : TSet) : TG := fun v σ H Q => to σ H fun o H1 => ti σ H1 fun i H2 => t o i v H2 fun H3 => Q σ H3
theorem pg_sub {o i : Expr} {to ti : TE} {t : TSet} (ho : PE X o to) (hi : PE X i ti) (hs : PSet X t)
    (ha : ∀ v, assign (.Subscript o i pos) X.env v = (do
      let ov ← holding [v] (eval o X.env)
      let iv ← holding [v, ov] (eval i X.env)
      standAt pos
      holding [v, ov, iv] (setItem ov iv v)
      release [v, ov, iv] []) := by intro _; rfl) : PG X (.Subscript o i pos) (gSub to ti t) := by
  intro pins s σ H v u Q I r h
  rw [ha]
  refine wpAny_bind (wpAny_holding (thn (ho pins s σ H _ I h) fun ov s1 ⟨x, H1, I1, r1, q1⟩ => ?_))
  refine wpAny_bind (wpAny_holding (thn (hi pins s1 σ H1 _ I1 q1) fun iv s2 ⟨y, H2, I2, r2, q2⟩ => ?_))
  refine wpAny_bind (wpAny_standAt (wpAny_bind (wpAny_holding (thn (hs pins s2 σ H2 x y v ov iv u _ I2 r1 r2 r q2) fun _ s3 ⟨H3, I3, q3⟩ => ?_))))
  exact wpAny_release ⟨σ, H3, I3, q3⟩
noncomputable def tAsg (te : TE) (g : TG) : TS := fun D σ H => te σ H fun x H1 => g x σ H1 D.nx
theorem ps_asg {tg e : Expr} {te : TE} {g : TG} (he : PE X e te) (hg : PG X tg g) (hs : swapsWithSole [tg] e pos.line X.env = pure false := by rfl) (hw : swappedStores [tg] e X.env = pure none := by rfl)
    (h1 : (assignEach [tg] X.env).map (·.2) = [assign tg X.env] := by rfl) : PS X (.Assign [tg] e pos) (tAsg te g) := by
  intro pins s σ H D I h
  refine wpAny_Assign_stores (thn (he pins s σ H _ I h) fun v s1 ⟨x, H1, I1, r1, q1⟩ => ?_) hs hw
  rw [h1]
  exact thn (hg pins s1 σ H1 x v _ I1 r1 q1) fun _ s2 q => q
theorem ps_set {i : Nat} {x : Str} {e : Expr} {te : TE} {pos' : Pos} (hN : X.N.Nodup) (hi : X.N[i]? = some x) (hx : Loc X.env.scope x) (he : PE X e te) (hs : swapsWith e (some (.Name x pos')) pos.line X.env = pure false := by rfl) (hf : X.fn x = true ∨ X.env.scope.names.lookup x = some .local := by first | exact .inl rfl | exact .inr rfl | assumption) :
    PS X (.Assign [.Name x pos'] e pos) (tAsg te (gName i)) := by
  intro pins s σ H D I h
  refine wpAny_Assign_Name (thn (he pins s σ H _ I h) fun v s1 ⟨y, H1, I1, r1, q1⟩ => ?_) hs
  exact store_ok I1 hN hi hx r1 (fun s2 I2 => ⟨_, H1, I2, q1⟩) hf
end

section
variable {X : Cx} {pos : Pos}
noncomputable def tWhile (c : TT) (tb : TS) : TS := fun D σ H => ∃ W : Nat → St → Hp → Prop, (∃ m, W m σ H) ∧ ∀ m σ H, W m σ H →
  c σ H fun b H1 => if b = true then ∃ N : St → Hp → Prop, (∀ σ' H', N σ' H' → ∃ m', m' < m ∧ W m' σ' H') ∧ tb { D with nx := N, ct := N, bk := D.nx } σ H1 else D.nx σ H1
theorem ps_while {c : Expr} {body : List Stmt} {tc : TT} {tb : TS} (hp : PassesOwn (model X.prog X.w) X.A X.env X.xe) (hc : PT X c tc) (hb : PSs X body tb) : PS X (.While c body [] pos) (tWhile tc tb) := by
  intro pins s σ H D I h
  obtain ⟨W, ⟨m0, w0⟩, turn⟩ := h
  refine wpAny_While (codeAny_whileLoop (fun n s' => ∃ σ' H', Inv X pins σ' H' s' ∧ W n σ' H') ?_ m0 ⟨σ, H, I, w0⟩)
  rintro n s1 ⟨σ1, H1, I1, w1⟩
  refine wpAny_passesOwn hp (thn (hc pins s1 σ1 H1 _ I1 (turn n σ1 H1 w1)) fun b s2 ⟨H2, I2, q2⟩ => ?_)
  cases b with
  | true =>
    obtain ⟨N, hN, q2⟩ := q2
    rw [if_pos rfl]
    refine wpAny_passesOwn hp (thn (hb pins s2 σ1 H2 _ I2 q2) fun f s3 q3 => ?_)
    cases f with
    | next =>
      obtain ⟨σ3, H3, I3, n3⟩ := q3
      obtain ⟨m', hm, w3⟩ := hN σ3 H3 n3
      exact ⟨m', hm, σ3, H3, I3, w3⟩
    | cont =>
      obtain ⟨σ3, H3, I3, n3⟩ := q3
      obtain ⟨m', hm, w3⟩ := hN σ3 H3 n3
      exact ⟨m', hm, σ3, H3, I3, w3⟩
    | brk => exact q3
    | ret v => exact q3
  | false =>
    rw [if_neg Bool.false_ne_true]
    exact wpAny_execs_nil ⟨σ1, H2, I2, q2⟩
end

structure It where
  go : Nat → Hp → Prop
  yld : Nat → Hp → V → Hp → Prop
  stop : Nat → Hp → Prop
noncomputable def FpOk (X : Cx) (pins : List (Addr × Obj)) (H : Hp) (b : Addr) : Prop :=
  H b = none ∧ b ≠ X.env.locals ∧ b ∉ X.fs ∧ (b ∈ X.ex ∨ X.s₀.heap.objs.size ≤ b) ∧ (∀ x c, X.env.cells.lookup x = some c → c ≠ b) ∧ ∀ p ∈ X.pn ++ pins, p.1 ≠ b
theorem Inv.fpOk {X : Cx} {pins : List (Addr × Obj)} {σ : St} {H H' : Hp} {s : Shared} {b : Addr} (I : Inv X pins σ H s) (hb : s.heap.objs.size ≤ b) (hn : H' b = none) : FpOk X pins H' b := by
  refine ⟨hn, Nat.ne_of_gt (Nat.lt_of_lt_of_le I.lt hb), I.nofs hb, .inr (Nat.le_trans I.sz hb), fun x c e z => ?_, fun p hp z => ?_⟩
  · obtain ⟨v, q⟩ := I.cell x c e
    exact absurd (Nat.lt_of_lt_of_le q.lt (by rw [z]; exact hb)) (Nat.lt_irrefl _)
  · exact absurd (Nat.lt_of_lt_of_le (Heap.lt_size (I.pin p hp).1) (by rw [z]; exact hb)) (Nat.lt_irrefl _)
structure Turn (P : Program) (w : World) (K : PySem.W.Frag) (tg : Expr) (J : It) (fp : List Addr) (it : Addr) (tn : Nat → Heap → Prop) : Prop where
  mem : it ∈ fp
  obj : ∀ i h, tn i h → ∀ b ∈ fp, ∃ o, h.get? b = some o ∧ ∀ v, o.data ≠ .cell v
  keep : ∀ i h h', tn i h → (∀ b ∈ fp, ∀ o, h.get? b = some o → h'.get? b = some o) → tn i h'
  item : ∀ (X : Cx), X.prog = P → X.w = w → X.K = K → X.calm = true → ∀ (i : Nat) (pins : List (Addr × Obj)) (s : Shared) (σ : St) (H : Hp) (E : Value → Shared → Prop), Inv X pins σ H s → (∀ b ∈ fp, FpOk X pins H b) → tn i s.heap → J.go i H →
    wpAny (model P w) X.A (pyNext (.ref it)) (fun r s1 => ∃ u, r = some u ∧
      wpAny (model P w) X.A (letOwnedTupleGo tg (.ref it) u) (fun _ s2 => ∃ x H', Inv X pins σ H' s2 ∧ RelV x u ∧ J.yld i H x H' ∧ tn (i + 1) s2.heap ∧ ∀ b ∈ fp, H' b = none) E s1) E s
  done : ∀ (X : Cx), X.prog = P → X.w = w → X.K = K → X.calm = true → ∀ (i : Nat) (pins : List (Addr × Obj)) (s : Shared) (σ : St) (H : Hp) (E : Value → Shared → Prop), Inv X pins σ H s → (∀ b ∈ fp, FpOk X pins H b) → tn i s.heap → J.stop i H →
    wpAny (model P w) X.A (pyNext (.ref it)) (fun r s1 => r = none ∧ Inv X pins σ H s1) E s
  self : ∀ (A : Around) (i : Nat) (s : Shared) (Q : Value → Shared → Prop) (E : Value → Shared → Prop), tn i s.heap → Q (.ref it) s → wpAny (model P w) A (pyIter (.ref it)) Q E s
noncomputable abbrev TI := St → Hp → (It → Hp → Prop) → Prop
noncomputable def PIE (X : Cx) (pins : List (Addr × Obj)) (σ : St) (tg : Expr) (R : It → Hp → Prop) (itv : Value) (s2 : Shared) : Prop :=
  ∃ (it : Addr) (fp : List Addr) (tn : Nat → Heap → Prop) (J : It) (H' : Hp), itv = .ref it ∧ Inv X pins σ H' s2 ∧ Turn X.prog X.w X.K tg J fp it tn ∧ tn 0 s2.heap ∧ (∀ b ∈ fp, FpOk X pins H' b) ∧ R J H'
noncomputable def PI (X : Cx) (tg iter : Expr) (wi : TI) : Prop :=
  ∀ (pins : List (Addr × Obj)) (s : Shared) (σ : St) (H : Hp) (R : It → Hp → Prop), Inv X pins σ H s → wi σ H R →
    wpAny (model X.prog X.w) X.A (eval iter X.env) (fun v s1 => wpAny (model X.prog X.w) X.A (pyIter v) (PIE X pins σ tg R) X.xe s1) X.xe s

theorem go_of {M : Model} {A : Around} {E : Value → Shared → Prop} {s : Shared} {tg : Expr} {it : Addr} {u : Value} {o : Obj} {n : String} {vs : Array Value} {Q : Unit → Shared → Prop} (ho : s.heap.get? it = some o) (hc : o.cls = .type n) (hd : o.data = .fields vs)
    (hn : ["enumerate", "zip", "dict_itemiterator", "dict_reverseitemiterator", "odict_iterator", "itertools.zip_longest", "itertools.pairwise"].contains n = false) (hQ : Q () s) : wpAny M A (letOwnedTupleGo tg (.ref it) u) Q E s := by
  unfold letOwnedTupleGo
  cases tg <;> first
    | exact wpAny_pure hQ
    | (cases u <;> first
        | exact wpAny_pure hQ
        | (refine wpAny_bind (wpAny_load ho ?_)
           rw [hc, hd]
           show wpAny M A (if (["enumerate", "zip", "dict_itemiterator", "dict_reverseitemiterator", "odict_iterator", "itertools.zip_longest", "itertools.pairwise"].contains n && vs[0]? == some (rawInt _)) = true then _ else _) Q E s
           rw [if_neg (by intro h; rw [hn, Bool.false_and] at h; cases h)]
           exact wpAny_pure hQ))

noncomputable def Itl (K : PySem.W.Frag) (a : Addr) : It :=
  ⟨fun i H => ∃ xs x, SqL K H a xs ∧ xs[i]? = some x, fun i H x H' => H' = H ∧ ∀ xs, SqL K H a xs → xs[i]? = some x, fun i H => ∃ xs, SqL K H a xs ∧ xs.length ≤ i⟩
noncomputable def Itt (K : PySem.W.Frag) (a : Addr) : It :=
  ⟨fun i H => ∃ xs x, SqT K H a xs ∧ xs[i]? = some x, fun i H x H' => H' = H ∧ ∀ xs, SqT K H a xs → xs[i]? = some x, fun i H => ∃ xs, SqT K H a xs ∧ xs.length ≤ i⟩
noncomputable def Itr (lo : Int) (n : Nat) : It := ⟨fun i _ => i < n, fun i H x H' => H' = H ∧ x = .int (lo + i), fun i _ => n ≤ i⟩
theorem turn_list {P : Program} {w : World} {K : PySem.W.Frag} {tg : Expr} (a it : Addr) : Turn P w K tg (Itl K a) [it] it (fun i h => h.IsListIter it a i) where
  mem := by simp
  obj := fun i h st b hb => by
    have e : b = it := by simpa using hb
    subst e
    obtain ⟨o, e, c, d⟩ := st
    exact ⟨o, e, fun v z => by rw [d] at z; cases z⟩
  keep := fun i h h' st k => st.at fun o e => k it (by simp) o e
  item := by
    intro X hP hw hK hc i pins s σ H E I hf st hg
    subst hP hw hK
    obtain ⟨xs, x, hq, hx⟩ := hg
    obtain ⟨its, rv, p, hz⟩ := I.list hq
    obtain ⟨u, hu, ru⟩ := rv.get hx
    obtain ⟨f0, f1, f2, f3, f4, f5⟩ := hf it (by simp)
    refine wpAny_pyNext_list_item st p.isList (x := u) (by simpa using hu) fun h' st' sb => ?_
    have I1 : Inv X pins σ H { s with heap := h' } := I.turned (t' := s.toks) (fun b o hb e => (sb.2 b hb).trans e) f0 f1 f3 f4 f5
    obtain ⟨o, e, c, d⟩ := id st'
    exact ⟨u, rfl, go_of (s := { s with heap := h' }) e c d (by decide) ⟨x, H, I1, ru, ⟨rfl, fun ys hy => by rw [I.list_inj hy hq]; exact hx⟩, st', fun b hb => (hf b hb).1⟩⟩
  done := by
    intro X hP hw hK hc i pins s σ H E I hf st hg
    subst hP hw hK
    obtain ⟨xs, hq, hx⟩ := hg
    obtain ⟨its, rv, p, hz⟩ := I.list hq
    obtain ⟨f0, f1, f2, f3, f4, f5⟩ := hf it (by simp)
    have hl := rv.length
    exact wpAny_pyNext_list_end (I.ok.hd hc) st p.isList (by simp; omega) fun h' eb => ⟨rfl, I.turned (t' := s.toks) (fun b o hb e => eb b o hb e) f0 f1 f3 f4 f5⟩
  self := fun _ _ _ _ _ st h => wpAny_pyIter_listiter st h
theorem turn_tuple {P : Program} {w : World} {K : PySem.W.Frag} {tg : Expr} (a it : Addr) : Turn P w K tg (Itt K a) [it] it (fun i h => h.IsTupleIter it a i) where
  mem := by simp
  obj := fun i h st b hb => by
    have e : b = it := by simpa using hb
    subst e
    obtain ⟨o, e, c, d⟩ := st
    exact ⟨o, e, fun v z => by rw [d] at z; cases z⟩
  keep := fun i h h' st k => st.at fun o e => k it (by simp) o e
  item := by
    intro X hP hw hK hc i pins s σ H E I hf st hg
    subst hP hw hK
    obtain ⟨xs, x, hq, hx⟩ := hg
    obtain ⟨its, rv, p, hz⟩ := I.tuple hq
    obtain ⟨u, hu, ru⟩ := rv.get hx
    obtain ⟨f0, f1, f2, f3, f4, f5⟩ := hf it (by simp)
    refine wpAny_pyNext_tuple_item st (show s.heap.IsTuple a its.toArray from p) (x := u) (by simpa using hu) fun h' st' sb => ?_
    have I1 : Inv X pins σ H { s with heap := h' } := I.turned (t' := s.toks) (fun b o hb e => (sb.2 b hb).trans e) f0 f1 f3 f4 f5
    obtain ⟨o, e, c, d⟩ := id st'
    exact ⟨u, rfl, go_of (s := { s with heap := h' }) e c d (by decide) ⟨x, H, I1, ru, ⟨rfl, fun ys hy => by rw [I.tuple_inj hy hq]; exact hx⟩, st', fun b hb => (hf b hb).1⟩⟩
  done := by
    intro X hP hw hK hc i pins s σ H E I hf st hg
    subst hP hw hK
    obtain ⟨xs, hq, hx⟩ := hg
    obtain ⟨its, rv, p, hz⟩ := I.tuple hq
    obtain ⟨f0, f1, f2, f3, f4, f5⟩ := hf it (by simp)
    have hl := rv.length
    exact wpAny_pyNext_tuple_end (I.ok.hd hc) st (show s.heap.IsTuple a its.toArray from p) (by simp; omega) fun h' eb => ⟨rfl, I.turned (t' := s.toks) (fun b o hb e => eb b o hb e) f0 f1 f3 f4 f5⟩
  self := fun _ _ _ _ _ st h => wpAny_pyIter_tupleiter st h
theorem turn_range {P : Program} {w : World} {K : PySem.W.Frag} {tg : Expr} (it : Addr) (lo : Int) (n : Nat) : Turn P w K tg (Itr lo n) [it] it (fun i h => IsRangeIter h it (lo + (i : Nat) * 1) ((n : Int) - (i : Nat)) 1) where
  mem := by simp
  obj := fun i h st b hb => by
    have e : b = it := by simpa using hb
    subst e
    exact ⟨_, st, fun v z => by
      have z' : Data.fields _ = Data.cell v := z
      cases z'⟩
  keep := fun i h h' st k => k it (by simp) _ st
  item := by
    intro X hP hw hK hc i pins s σ H E I hf st hg
    subst hP hw hK
    obtain ⟨f0, f1, f2, f3, f4, f5⟩ := hf it (by simp)
    have W := Walks.range (prog := X.prog) (w := X.w) (I.ok.hd hc) it lo 1 n
    refine W.item i s _ _ hg st fun v h' tk hv st' kk => ?_
    obtain ⟨t, rfl⟩ := hv
    have I1 : Inv X pins σ H { s with heap := h', toks := tk } := I.turned (fun b o hb e => kk b o (by simpa using hb) e) f0 f1 f3 f4 f5
    refine ⟨_, rfl, go_of (s := { s with heap := h', toks := tk }) (n := "range_iterator") st' rfl rfl (by decide) ⟨.int (lo + i), H, I1, ⟨t, ?_⟩, ⟨rfl, rfl⟩, st', fun b hb => (hf b hb).1⟩⟩
    rw [Int.mul_one]
  done := by
    intro X hP hw hK hc i pins s σ H E I hf st hg
    subst hP hw hK
    obtain ⟨f0, f1, f2, f3, f4, f5⟩ := hf it (by simp)
    exact wpAny_pyNext_range_end (I.ok.hd hc) st (by have : n ≤ i := hg; omega) fun h' eb => ⟨rfl, I.turned (t' := s.toks) (fun b o hb e => eb b o hb e) f0 f1 f3 f4 f5⟩
  self := fun _ _ _ _ _ st h => wpAny_pyIter_rangeiter st h
end L2

namespace L2
open PySem PySem.Spec PyProof.Rows
section
variable {X : Cx} {tg : Expr}
inductive J_iList (K : PySem.W.Frag) (R : It → Hp → Prop) (x : V) (H1 : Hp) : Prop
  | mk : ∀ a, (x = .ref a) → ((∃ xs, SqL K H1 a xs)) → (R (Itl K a) H1) → J_iList K R x H1
noncomputable def iList (K : PySem.W.Frag) (tl : TE) : TI := fun σ H R => tl σ H fun x H1 => J_iList K R x H1
inductive J_iTup (K : PySem.W.Frag) (R : It → Hp → Prop) (x : V) (H1 : Hp) : Prop
  | mk : ∀ a, (x = .ref a) → ((∃ xs, SqT K H1 a xs)) → (R (Itt K a) H1) → J_iTup K R x H1
noncomputable def iTup (K : PySem.W.Frag) (tl : TE) : TI := fun σ H R => tl σ H fun x H1 => J_iTup K R x H1
theorem pi_list {l : Expr} {tl : TE} (hl : PE X l tl) : PI X tg l (iList X.K tl) := by
  intro pins s σ H R I h
  refine thn (hl pins s σ H _ I h) fun v s1 ⟨x, H1, I1, r1, q1⟩ => ?_
  obtain ⟨a, e, ⟨xs, hq⟩, q⟩ := q1
  subst e
  cases r1
  obtain ⟨its, rv, p, hz⟩ := I1.list hq
  refine wpAny_pyIter_list p.isList ?_
  refine ⟨s1.heap.objs.size, [s1.heap.objs.size], _, _, H1, rfl, I1.kept (t' := s1.toks) fun b o e => Heap.get?_push_of_some _ e, turn_list a _, ⟨_, Heap.get?_push_size _ rfl, rfl, rfl⟩, fun b hb => ?_, q⟩
  have e : b = s1.heap.objs.size := by simpa using hb
  subst e
  exact I1.fpOk (Nat.le_refl _) (I1.hok.fresh (Nat.le_refl _))
theorem pi_tup {l : Expr} {tl : TE} (hl : PE X l tl) : PI X tg l (iTup X.K tl) := by
  intro pins s σ H R I h
  refine thn (hl pins s σ H _ I h) fun v s1 ⟨x, H1, I1, r1, q1⟩ => ?_
  obtain ⟨a, e, ⟨xs, hq⟩, q⟩ := q1
  subst e
  cases r1
  obtain ⟨its, rv, p, hz⟩ := I1.tuple hq
  refine wpAny_pyIter_tuple (show s1.heap.IsTuple a its.toArray from p) ?_
  refine ⟨s1.heap.objs.size, [s1.heap.objs.size], _, _, H1, rfl, I1.kept (t' := s1.toks) fun b o e => Heap.get?_push_of_some _ e, turn_tuple a _, ⟨_, Heap.get?_push_size _ rfl, rfl, rfl⟩, fun b hb => ?_, q⟩
  have e : b = s1.heap.objs.size := by simpa using hb
  subst e
  exact I1.fpOk (Nat.le_refl _) (I1.hok.fresh (Nat.le_refl _))
theorem range_it {pins : List (Addr × Obj)} {σ : St} {H : Hp} {s : Shared} {R : It → Hp → Prop} {E : Value → Shared → Prop} {lo hi : Int} {t u v : Tok} {tk : Nat} (I : Inv X pins σ H s) (h1 : -(2 ^ 62) ≤ lo) (h2 : lo < 2 ^ 62) (h3 : -(2 ^ 62) ≤ hi) (h4 : hi < 2 ^ 62)
    (q : R (Itr lo (hi - lo).toNat) H) : wpAny (model X.prog X.w) X.A (pyIter (.ref s.heap.objs.size)) (PIE X pins σ tg R) E { s with heap := s.heap.push { cls := .type "range", data := .fields #[.int lo t, .int hi u, .int 1 v] }, toks := tk } := by
  refine wpAny_pyIter_range (IsRange.new ..) (small_one h1 h2 h3 h4) ?_
  have I1 : Inv X pins σ H { s with heap := s.heap.push { cls := .type "range", data := .fields #[.int lo t, .int hi u, .int 1 v] }, toks := tk } := I.kept fun b o e => Heap.get?_push_of_some _ e
  refine ⟨(s.heap.push { cls := .type "range", data := .fields #[.int lo t, .int hi u, .int 1 v] }).objs.size, [(s.heap.push { cls := .type "range", data := .fields #[.int lo t, .int hi u, .int 1 v] }).objs.size], _, _, H, rfl,
    I1.kept (t' := tk) fun b o e => Heap.get?_push_of_some _ e, turn_range _ lo (hi - lo).toNat, ?_, fun b hb => ?_, q⟩
  · have e1 : lo + ((0 : Nat) : Int) * 1 = lo := by simp
    have e2 : (((hi - lo).toNat : Nat) : Int) - ((0 : Nat) : Int) = Builtin.Range.rangeSize lo hi 1 := by rw [rangeSize_one]; split <;> omega
    show IsRangeIter _ _ (lo + ((0 : Nat) : Int) * 1) ((((hi - lo).toNat : Nat) : Int) - ((0 : Nat) : Int)) 1
    rw [e1, e2]
    exact Heap.get?_push_size _ rfl
  · have e : b = (s.heap.push { cls := .type "range", data := .fields #[.int lo t, .int hi u, .int 1 v] }).objs.size := by simpa using hb
    subst e
    exact I1.fpOk (Nat.le_refl _) (I1.hok.fresh (Nat.le_refl _))
inductive J_iRng1 (R : It → Hp → Prop) (vs : List V) (H1 : Hp) : Prop
  | mk : ∀ (j : Int), (vs = [.int j]) → (-(2 ^ 62) ≤ j) → (j < 2 ^ 62) → (R (Itr 0 j.toNat) H1) → J_iRng1 R vs H1
noncomputable def iRng1 (ta : TA) : TI := fun σ H R => ta σ H fun vs H1 => J_iRng1 R vs H1
inductive J_iRng2 (R : It → Hp → Prop) (vs : List V) (H1 : Hp) : Prop
  | mk : ∀ (i j : Int), (vs = [.int i, .int j]) → ((-(2 ^ 62) ≤ i ∧ i < 2 ^ 62 ∧ -(2 ^ 62) ≤ j ∧ j < 2 ^ 62)) → (R (Itr i (j - i).toNat) H1) → J_iRng2 R vs H1
noncomputable def iRng2 (ta : TA) : TI := fun σ H R => ta σ H fun vs H1 => J_iRng2 R vs H1
theorem pi_range1 {a : Expr} {ta : TA} {p pos : Pos} (hg : Gl X "range") (hm : X.mg "range" = none) (ha : PA X [a] ta) (hs : starEach [a] X.env = [(false, eval a X.env)] := by rfl) : PI X tg (.Call (.Name "range" p) [a] [] pos) (iRng1 ta) := by
  intro pins s σ H R I h
  refine Call_ (ld_blt I hg hm boot_range (PyProof.Rows.callWith_type1 (thn (ha pos pins s σ H _ I h) fun us s1 ⟨vs, H1, I1, r1, q1⟩ => ?_) hs rfl))
  obtain ⟨j, e, q1, q2, q⟩ := q1
  subst e
  cases r1 with
  | cons r rr =>
    cases rr
    obtain ⟨t, rfl⟩ := r
    exact call_range_1 (range_it I1 (by omega) (by omega) q1 q2 (by simpa using q))
theorem pi_range2 {a b : Expr} {ta : TA} {p pos : Pos} (hg : Gl X "range") (hm : X.mg "range" = none) (ha : PA X [a, b] ta) (hs : starEach [a, b] X.env = [(false, eval a X.env), (false, eval b X.env)] := by rfl) (hs2 : starEach [b] X.env = [(false, eval b X.env)] := by rfl) :
    PI X tg (.Call (.Name "range" p) [a, b] [] pos) (iRng2 ta) := by
  intro pins s σ H R I h
  refine Call_ (ld_blt I hg hm boot_range (PyProof.Rows.callWith_type1 (thn (ha pos pins s σ H _ I h) fun us s1 ⟨vs, H1, I1, r1, q1⟩ => ?_) (by rw [hs, hs2]) (by rw [hs2]; rfl)))
  obtain ⟨i, j, e, ⟨q1, q2, q3, q4⟩, q⟩ := q1
  subst e
  cases r1 with
  | cons r rr =>
    cases rr with
    | cons r' rr =>
      cases rr
      obtain ⟨t, rfl⟩ := r
      obtain ⟨t', rfl⟩ := r'
      exact call_range_2 (range_it I1 q1 q2 q3 q4 q)

noncomputable def tFor (wi : TI) (g : TG) (tb : TS) : TS := fun D σ H => wi σ H fun J H1 => ∃ W : Nat → Nat → St → Hp → Prop, (∃ m, W 0 m σ H1) ∧ ∀ i m σ H, W i m σ H →
  (J.stop i H ∧ D.nx σ H) ∨ (J.go i H ∧ ∃ N : St → Hp → Prop, (∀ σ' H', N σ' H' → ∃ m', m' < m ∧ W (i + 1) m' σ' H') ∧ ∀ x H', J.yld i H x H' → g x σ H' fun σ2 H2 => tb { D with nx := N, ct := N, bk := D.nx } σ2 H2)
noncomputable def pinsAt (fp : List Addr) (h : Heap) : List (Addr × Obj) := fp.filterMap fun b => (h.get? b).map fun o => (b, o)
theorem mem_pinsAt {fp : List Addr} {h : Heap} {b : Addr} {o : Obj} (hb : b ∈ fp) (e : h.get? b = some o) : (b, o) ∈ pinsAt fp h := List.mem_filterMap.mpr ⟨b, hb, by rw [e]; rfl⟩
theorem of_pinsAt {fp : List Addr} {h : Heap} {p : Addr × Obj} (hp : p ∈ pinsAt fp h) : p.1 ∈ fp ∧ h.get? p.1 = some p.2 := by
  obtain ⟨b, hb, e⟩ := List.mem_filterMap.mp hp
  cases q : h.get? b with
  | none => rw [q] at e; cases e
  | some o =>
    rw [q] at e
    have e' : (b, o) = p := Option.some.inj e
    subst e'
    exact ⟨hb, q⟩
theorem Inv.pinned {pins : List (Addr × Obj)} {σ : St} {H : Hp} {s : Shared} {fp : List Addr} (I : Inv X pins σ H s) (hf : ∀ b ∈ fp, FpOk X pins H b) (ho : ∀ b ∈ fp, ∃ o, s.heap.get? b = some o ∧ ∀ v, o.data ≠ .cell v) : Inv X (pins ++ pinsAt fp s.heap) σ H s :=
  I.pins_of fun p hp => (List.mem_append.mp hp).elim (fun z => I.pin p (List.mem_append_right _ z)) fun z => by
    obtain ⟨hb, e⟩ := of_pinsAt z
    obtain ⟨f0, f1, f2, _⟩ := hf p.1 hb
    obtain ⟨o, e', d⟩ := ho p.1 hb
    rw [e] at e'; cases e'
    exact ⟨e, f0, f1, f2, d⟩
theorem Inv.unpinned {pins pl : List (Addr × Obj)} {σ : St} {H : Hp} {s : Shared} (I : Inv X (pins ++ pl) σ H s) : Inv X pins σ H s := I.pins_of fun p hp => I.pin p (List.mem_append_right _ (List.mem_append_left _ hp))
theorem ps_for {iter : Expr} {body : List Stmt} {wi : TI} {g : TG} {tb : TS} {pos : Pos} (hp : PassesOwn (model X.prog X.w) X.A X.env X.xe) (hc : X.calm = true) (hi : PI X tg iter wi) (hg : PG X tg g) (hb : PSs X body tb)
    (hs : ∀ x, foldedSetIterable iter X.env x = pure x := by intro _; rfl) : PS X (.For tg iter body [] pos) (tFor wi g tb) := by
  intro pins s σ H D I h
  refine wpAny_For (thn (hi pins s σ H _ I h) fun v s1 h1 => thn h1 fun itv s2 h2 => ?_) hs
  obtain ⟨it, fp, tn, J, H2, e, I2, T, st2, f2, W, ⟨m0, w0⟩, turn⟩ := h2
  subst e
  -- what stays true of the iterator's objects through the loop
  have stat : ∀ {H' : Hp}, (∀ b ∈ fp, H' b = none) → ∀ b ∈ fp, FpOk X pins H' b := fun hn b hb => ⟨hn b hb, (f2 b hb).2⟩
  refine codeAny_forLoop_any (fun n s' => ∃ i σ' H', Inv X pins σ' H' s' ∧ tn i s'.heap ∧ (∀ b ∈ fp, H' b = none) ∧ W i n σ' H') ?_ m0 ⟨0, σ, H2, I2, st2, fun b hb => (f2 b hb).1, w0⟩
  rintro n s3 ⟨i, σ3, H3, I3, st3, fr3, w3⟩
  rcases turn i n σ3 H3 w3 with ⟨stop, qn⟩ | ⟨go, N, hN, step⟩
  · refine wpAny_passesOwn hp (thn (T.done X rfl rfl rfl hc i pins s3 σ3 H3 X.xe I3 (stat fr3) st3 stop) fun r s4 ⟨hr, I4⟩ => ?_)
    subst hr
    exact wpAny_execs_nil ⟨σ3, H3, I4, qn⟩
  · refine wpAny_passesOwn hp (thn (T.item X rfl rfl rfl hc i pins s3 σ3 H3 X.xe I3 (stat fr3) st3 go) fun r s4 ⟨u, hr, h4⟩ => ?_)
    subst hr
    refine wpAny_passesOwn hp (thn h4 fun _ s5 ⟨x, H5, I5, r5, y5, st5, fr5⟩ => ?_)
    have I5' := I5.pinned (stat fr5) (T.obj _ _ st5)
    refine wpAny_passesOwn hp (thn (hg _ s5 σ3 H5 x u _ I5' r5 (step x H5 y5)) fun _ s6 ⟨σ6, H6, I6, q6⟩ => ?_)
    refine wpAny_passesOwn hp (thn (hb _ s6 σ6 H6 _ I6 q6) fun f s7 q7 => ?_)
    have again : ∀ {σ7 : St} {H7 : Hp}, Inv X (pins ++ pinsAt fp s5.heap) σ7 H7 s7 → N σ7 H7 → ∃ m, m < n ∧ ∃ i σ' H', Inv X pins σ' H' s7 ∧ tn i s7.heap ∧ (∀ b ∈ fp, H' b = none) ∧ W i m σ' H' := fun {σ7 H7} I7 n7 => by
      obtain ⟨m', hm, w7⟩ := hN σ7 H7 n7
      refine ⟨m', hm, i + 1, σ7, H7, I7.unpinned, T.keep _ _ _ st5 fun b hb o e => (I7.pin (b, o) (List.mem_append_right _ (List.mem_append_right _ (mem_pinsAt hb e)))).1, fun b hb => ?_, w7⟩
      obtain ⟨o, e, d⟩ := T.obj _ _ st5 b hb
      exact (I7.pin (b, o) (List.mem_append_right _ (List.mem_append_right _ (mem_pinsAt hb e)))).2.1
    cases f with
    | next => obtain ⟨σ7, H7, I7, n7⟩ := q7; exact again I7 n7
    | cont => obtain ⟨σ7, H7, I7, n7⟩ := q7; exact again I7 n7
    | brk => obtain ⟨σ7, H7, I7, q7⟩ := q7; exact ⟨σ7, H7, I7.unpinned, q7⟩
    | ret v => obtain ⟨x7, σ7, H7, I7, r7, q7⟩ := q7; exact ⟨x7, σ7, H7, I7.unpinned, r7, q7⟩
end

theorem for_list {K : PySem.W.Frag} {a : Addr} {xs : List V} {g : TG} {tb : TS} {D : Ends} {σ : St} {H : Hp} (Pv : Nat → St → Hp → Prop) (h0 : Pv 0 σ H) (hl : ∀ i σ H, i ≤ xs.length → Pv i σ H → SqL K H a xs)
    (hs : ∀ i x σ H, xs[i]? = some x → Pv i σ H → g x σ H fun σ2 H2 => tb { D with nx := Pv (i + 1), ct := Pv (i + 1), bk := D.nx } σ2 H2) (hd : ∀ σ H, Pv xs.length σ H → D.nx σ H) :
    ∃ W : Nat → Nat → St → Hp → Prop, (∃ m, W 0 m σ H) ∧ ∀ i m σ H, W i m σ H →
      ((Itl K a).stop i H ∧ D.nx σ H) ∨ ((Itl K a).go i H ∧ ∃ N : St → Hp → Prop, (∀ σ' H', N σ' H' → ∃ m', m' < m ∧ W (i + 1) m' σ' H') ∧ ∀ x H', (Itl K a).yld i H x H' → g x σ H' fun σ2 H2 => tb { D with nx := N, ct := N, bk := D.nx } σ2 H2) := by
  refine ⟨fun i m σ H => m = xs.length - i ∧ i ≤ xs.length ∧ Pv i σ H, ⟨xs.length, by simp, Nat.zero_le _, h0⟩, ?_⟩
  rintro i m σ H ⟨rfl, hi, p⟩
  have q := hl i σ H hi p
  by_cases hlt : i < xs.length
  · refine .inr ⟨⟨xs, xs[i], q, by simp [hlt]⟩, Pv (i + 1), fun σ' H' p' => ⟨xs.length - (i + 1), by omega, rfl, hlt, p'⟩, fun x H' y => ?_⟩
    obtain ⟨e, y⟩ := y
    subst e
    exact hs i x σ _ (y xs q) p
  · have e : i = xs.length := by omega
    subst e
    exact .inl ⟨⟨xs, q, Nat.le_refl _⟩, hd σ H p⟩
theorem for_tup {K : PySem.W.Frag} {a : Addr} {xs : List V} {g : TG} {tb : TS} {D : Ends} {σ : St} {H : Hp} (Pv : Nat → St → Hp → Prop) (h0 : Pv 0 σ H) (hl : ∀ i σ H, i ≤ xs.length → Pv i σ H → SqT K H a xs)
    (hs : ∀ i x σ H, xs[i]? = some x → Pv i σ H → g x σ H fun σ2 H2 => tb { D with nx := Pv (i + 1), ct := Pv (i + 1), bk := D.nx } σ2 H2) (hd : ∀ σ H, Pv xs.length σ H → D.nx σ H) :
    ∃ W : Nat → Nat → St → Hp → Prop, (∃ m, W 0 m σ H) ∧ ∀ i m σ H, W i m σ H →
      ((Itt K a).stop i H ∧ D.nx σ H) ∨ ((Itt K a).go i H ∧ ∃ N : St → Hp → Prop, (∀ σ' H', N σ' H' → ∃ m', m' < m ∧ W (i + 1) m' σ' H') ∧ ∀ x H', (Itt K a).yld i H x H' → g x σ H' fun σ2 H2 => tb { D with nx := N, ct := N, bk := D.nx } σ2 H2) := by
  refine ⟨fun i m σ H => m = xs.length - i ∧ i ≤ xs.length ∧ Pv i σ H, ⟨xs.length, by simp, Nat.zero_le _, h0⟩, ?_⟩
  rintro i m σ H ⟨rfl, hi, p⟩
  have q := hl i σ H hi p
  by_cases hlt : i < xs.length
  · refine .inr ⟨⟨xs, xs[i], q, by simp [hlt]⟩, Pv (i + 1), fun σ' H' p' => ⟨xs.length - (i + 1), by omega, rfl, hlt, p'⟩, fun x H' y => ?_⟩
    obtain ⟨e, y⟩ := y
    subst e
    exact hs i x σ _ (y xs q) p
  · have e : i = xs.length := by omega
    subst e
    exact .inl ⟨⟨xs, q, Nat.le_refl _⟩, hd σ H p⟩
theorem for_range {lo : Int} {n : Nat} {g : TG} {tb : TS} {D : Ends} {σ : St} {H : Hp} (Pv : Nat → St → Hp → Prop) (h0 : Pv 0 σ H)
    (hs : ∀ i σ H, i < n → Pv i σ H → g (.int (lo + i)) σ H fun σ2 H2 => tb { D with nx := Pv (i + 1), ct := Pv (i + 1), bk := D.nx } σ2 H2) (hd : ∀ σ H, Pv n σ H → D.nx σ H) :
    ∃ W : Nat → Nat → St → Hp → Prop, (∃ m, W 0 m σ H) ∧ ∀ i m σ H, W i m σ H →
      ((Itr lo n).stop i H ∧ D.nx σ H) ∨ ((Itr lo n).go i H ∧ ∃ N : St → Hp → Prop, (∀ σ' H', N σ' H' → ∃ m', m' < m ∧ W (i + 1) m' σ' H') ∧ ∀ x H', (Itr lo n).yld i H x H' → g x σ H' fun σ2 H2 => tb { D with nx := N, ct := N, bk := D.nx } σ2 H2) := by
  refine ⟨fun i m σ H => m = n - i ∧ i ≤ n ∧ Pv i σ H, ⟨n, by simp, Nat.zero_le _, h0⟩, ?_⟩
  rintro i m σ H ⟨rfl, hi, p⟩
  by_cases hlt : i < n
  · refine .inr ⟨hlt, Pv (i + 1), fun σ' H' p' => ⟨n - (i + 1), by omega, rfl, hlt, p'⟩, fun x H' y => ?_⟩
    obtain ⟨e, y⟩ := y
    subst e y
    exact hs i σ _ hlt p
  · have e : i = n := by omega
    subst e
    exact .inl ⟨Nat.le_refl _, hd σ H p⟩
end L2

namespace L2
open PySem PySem.Spec PyProof.Rows

noncomputable abbrev R2 := V → V → Hp → VK → Prop
noncomputable def OpR (X : Cx) (f : Value → Value → Sem Value) (r : R2) : Prop :=
  ∀ (pins : List (Addr × Obj)) (s : Shared) (σ : St) (H : Hp) (x y : V) (v u : Value) (Q : VK), Inv X pins σ H s → RelV x v → RelV y u → r x y H Q →
    wpAny (model X.prog X.w) X.A (f v u) (EP X pins σ Q) X.xe s
noncomputable def UnR (X : Cx) (f : Value → Sem Value) (r : V → Hp → VK → Prop) : Prop :=
  ∀ (pins : List (Addr × Obj)) (s : Shared) (σ : St) (H : Hp) (x : V) (v : Value) (Q : VK), Inv X pins σ H s → RelV x v → r x H Q →
    wpAny (model X.prog X.w) X.A (f v) (EP X pins σ Q) X.xe s
noncomputable def CallR (X : Cx) (f : Value) (r : List V → Hp → VK → Prop) : Prop :=
  ∀ (pins : List (Addr × Obj)) (s : Shared) (σ : St) (H : Hp) (xs : List V) (us : List Value) (Q : VK), Inv X pins σ H s → Vals xs us → r xs H Q →
    wpAny (model X.prog X.w) X.A (call f us) (EP X pins σ Q) X.xe s

noncomputable def tOp (r : R2) (ta tb : TE) : TE := fun σ H Q => ta σ H fun x H1 => tb σ H1 fun y H2 => r x y H2 Q
noncomputable def tUn (r : V → Hp → VK → Prop) (ta : TE) : TE := fun σ H Q => ta σ H fun x H1 => r x H1 Q
inductive RI (C : Int → Int → Prop) (g : Int → Int → V) (x y : V) (H : Hp) (Q : VK) : Prop
  | mk (i j : Int) (hx : x = .int i) (hy : y = .int j) (hc : C i j) (q : Q (g i j) H) : RI C g x y H Q
noncomputable def rI (C : Int → Int → Prop) (g : Int → Int → V) : R2 := fun x y H Q => RI C g x y H Q
inductive RI0 (g : Int → Int → V) (x y : V) (H : Hp) (Q : VK) : Prop
  | mk (i j : Int) (hx : x = .int i) (hy : y = .int j) (q : Q (g i j) H) : RI0 g x y H Q
noncomputable def rI0 (g : Int → Int → V) : R2 := fun x y H Q => RI0 g x y H Q
inductive RU (g : Int → V) (x : V) (H : Hp) (Q : VK) : Prop
  | mk (i : Int) (hx : x = .int i) (q : Q (g i) H) : RU g x H Q
noncomputable def rU (g : Int → V) : V → Hp → VK → Prop := fun x H Q => RU g x H Q

section
variable {X : Cx} {a b c : Expr} {ta tb tc : TE} {pos : Pos}

theorem binT (ha : PE X a ta) (hb : PE X b tb) {pins : List (Addr × Obj)} {s : Shared} {σ : St} {H : Hp} {R : V → V → Hp → Prop} (I : Inv X pins σ H s)
    (h : ta σ H fun x H1 => tb σ H1 fun y H2 => R x y H2) {Q : Value → Shared → Prop} {f : Value → Value → Sem Value}
    (hf : ∀ v u s2 x y H2, Inv X pins σ H2 s2 → RelV x v → RelV y u → R x y H2 → wpAny (model X.prog X.w) X.A (f v u) Q X.xe s2) :
    wpAny (model X.prog X.w) X.A (eval a X.env) (fun v s₁ => wpAny (model X.prog X.w) X.A (eval b X.env) (fun u s₂ => wpAny (model X.prog X.w) X.A (f v u) Q X.xe s₂) X.xe s₁) X.xe s := by
  refine thn (ha pins s σ H _ I h) fun v s1 ⟨x, H1, I1, r1, q1⟩ => ?_
  refine thn (hb pins s1 σ H1 _ I1 q1) fun u s2 ⟨y, H2, I2, r2, q2⟩ => ?_
  exact hf v u s2 x y H2 I2 r1 r2 q2

theorem pe_op {op : Operator} {r : R2} (ho : OpR X (binaryOp op) r) (ha : PE X a ta) (hb : PE X b tb) : PE X (.BinOp a op b pos) (tOp r ta tb) := by
  intro pins s σ H Q I h
  exact wpAny_BinOp (binT ha hb I h fun v u s2 x y H2 I2 rx ry q => ho pins s2 σ H2 x y v u Q I2 rx ry q)
theorem pe_un {op : UnaryOp} {r : V → Hp → VK → Prop} (ho : UnR X (unaryOp op) r) (ha : PE X a ta) : PE X (.UnaryOp op a pos) (tUn r ta) := by
  intro pins s σ H Q I h
  exact UnaryOp_ (thn (ha pins s σ H _ I h) fun v s1 ⟨x, H1, I1, r1, q1⟩ => ho pins s1 σ H1 x v Q I1 r1 q1)

theorem opI {f : Value → Value → Sem Value} {C : Int → Int → Prop} {g : Int → Int → Int}
    (rule : ∀ (i j : Int) (t u : Tok) (s : Shared) (Q : Value → Shared → Prop) (E : Value → Shared → Prop), C i j → Q (.int (g i j) s.toks) { s with toks := s.toks + 1 } → wpAny (model X.prog X.w) X.A (f (.int i t) (.int j u)) Q E s) :
    OpR X f (rI C fun i j => .int (g i j)) := by
  intro pins s σ H x y v u Q I rx ry h
  obtain ⟨i, j, rfl, rfl, hc, q⟩ := h
  obtain ⟨t, rfl⟩ := rx
  obtain ⟨t', rfl⟩ := ry
  exact rule i j t t' s _ _ hc ⟨.int (g i j), H, I.tok _, ⟨_, rfl⟩, q⟩
theorem opI0 {f : Value → Value → Sem Value} {g : Int → Int → Int}
    (rule : ∀ (i j : Int) (t u : Tok) (s : Shared) (Q : Value → Shared → Prop) (E : Value → Shared → Prop), Q (.int (g i j) s.toks) { s with toks := s.toks + 1 } → wpAny (model X.prog X.w) X.A (f (.int i t) (.int j u)) Q E s) :
    OpR X f (rI0 fun i j => .int (g i j)) := by
  intro pins s σ H x y v u Q I rx ry h
  obtain ⟨i, j, rfl, rfl, q⟩ := h
  obtain ⟨t, rfl⟩ := rx
  obtain ⟨t', rfl⟩ := ry
  exact rule i j t t' s _ _ ⟨.int (g i j), H, I.tok _, ⟨_, rfl⟩, q⟩
theorem opB0 {f : Value → Value → Sem Value} {g : Int → Int → Bool}
    (rule : ∀ (i j : Int) (t u : Tok) (s : Shared) (Q : Value → Shared → Prop) (E : Value → Shared → Prop), Q (.bool (g i j)) s → wpAny (model X.prog X.w) X.A (f (.int i t) (.int j u)) Q E s) :
    OpR X f (rI0 fun i j => .bl (g i j)) := by
  intro pins s σ H x y v u Q I rx ry h
  obtain ⟨i, j, rfl, rfl, q⟩ := h
  obtain ⟨t, rfl⟩ := rx
  obtain ⟨t', rfl⟩ := ry
  exact rule i j t t' s _ _ ⟨.bl (g i j), H, I, rfl, q⟩

noncomputable def CDiv (i j : Int) : Prop := 0 < j ∧ j < 1073741824
noncomputable def CPow (i j : Int) : Prop := 0 ≤ j ∧ j ≤ 1000000 ∧ i.natAbs < 2 ^ 64
noncomputable def CMul (i j : Int) : Prop := (-(2 ^ 64) < i ∧ i < 2 ^ 64) ∨ (-(2 ^ 64) < j ∧ j < 2 ^ 64)
theorem CMul.ok {i j : Int} (h : CMul i j) : IntMulOk i j := by
  rcases h with ⟨h1, h2⟩ | ⟨h1, h2⟩
  · exact .of_left (intBits_le_64 h1 h2)
  · exact .of_right (intBits_le_64 h1 h2)

theorem op_add : OpR X (binaryOp .Add) (rI0 fun i j => .int (i + j)) := opI0 fun _ _ _ _ _ _ _ q => add_int q
theorem op_sub : OpR X (binaryOp .Sub) (rI0 fun i j => .int (i - j)) := opI0 fun _ _ _ _ _ _ _ q => sub_int q
theorem op_mul : OpR X (binaryOp .Mult) (rI CMul fun i j => .int (i * j)) := opI fun _ _ _ _ _ _ _ hc q => mul_int q hc.ok
theorem op_fdiv : OpR X (binaryOp .FloorDiv) (rI CDiv fun i j => .int (i / j)) := opI fun i j _ _ _ _ _ hc q => by
  have h1 : (0 : Int) < j := hc.1
  have h2 : j < 1073741824 := hc.2
  exact floordiv_int (by omega) (by rw [Int.fdiv_eq_ediv_of_nonneg i (by omega)]; exact q) (.inl (PyProof.noPylong_small (by omega)))
theorem op_mod : OpR X (binaryOp .Mod) (rI (fun _ j => 0 < j) fun i j => .int (i % j)) := opI fun i j _ _ _ _ _ hc q => by
  have h1 : (0 : Int) < j := hc
  exact mod_int' (by omega) (by rw [Int.fmod_eq_emod_of_nonneg i (by omega)]; exact q)
theorem op_pow : OpR X (binaryOp .Pow) (rI CPow fun i j => .int (i ^ j.toNat)) := opI fun _ _ _ _ _ _ _ hc q => pow_int_small hc.1 hc.2.1 hc.2.2 q


theorem unI {f : Value → Sem Value} {g : Int → Int}
    (rule : ∀ (i : Int) (t : Tok) (s : Shared) (Q : Value → Shared → Prop) (E : Value → Shared → Prop), Q (.int (g i) s.toks) { s with toks := s.toks + 1 } → wpAny (model X.prog X.w) X.A (f (.int i t)) Q E s) :
    UnR X f (rU fun i => .int (g i)) := by
  intro pins s σ H x v Q I rx h
  obtain ⟨i, rfl, q⟩ := h
  obtain ⟨t, rfl⟩ := rx
  exact rule i t s _ _ ⟨.int (g i), H, I.tok _, ⟨_, rfl⟩, q⟩
theorem un_neg : UnR X (unaryOp .USub) (rU fun i => .int (-i)) := unI fun _ _ _ _ _ q => neg_int q

end

noncomputable def scal : V → V → Bool
  | .non, .non => true | .non, .int _ => true | .int _, .non => true | .non, .bl _ => true | .bl _, .non => true | .non, .str _ => true | .str _, .non => true
  | .int _, .int _ => true | .bl _, .bl _ => true | .str _, .str _ => true | .byt _, .byt _ => true
  | .int _, .str _ => true | .str _, .int _ => true | .bl _, .str _ => true | .str _, .bl _ => true
  | _, _ => false
noncomputable def rEq : R2 := fun x y H Q => scal x y = true ∧ Q (.bl (decide (x = y))) H
noncomputable def rNe : R2 := fun x y H Q => scal x y = true ∧ Q (.bl (!decide (x = y))) H

theorem dec_int {i j : Int} : decide (V.int i = V.int j) = (i == j) := by
  rw [Bool.eq_iff_iff]
  simp
theorem dec_bl {i j : Bool} : decide (V.bl i = V.bl j) = (i == j) := by
  rw [Bool.eq_iff_iff]
  simp
theorem dec_str {i j : Str} : decide (V.str i = V.str j) = (i == j) := by
  rw [Bool.eq_iff_iff]
  simp
theorem dec_byt {i j : Array UInt8} : decide (V.byt i = V.byt j) = (i.toList == j.toList) := by
  rw [Bool.eq_iff_iff]
  cases i
  cases j
  simp

section
variable {X : Cx} {a b c : Expr} {ta tb tc : TE} {pos : Pos}
theorem fin_bl {pins : List (Addr × Obj)} {σ : St} {H : Hp} {s : Shared} {Q : VK} {k k' : Bool} (I : Inv X pins σ H s) (q : Q (.bl k) H) (e : k = k') : EP X pins σ Q (.bool k') s := by
  subst e
  exact ⟨.bl k, H, I, rfl, q⟩
theorem op_eq : OpR X (compareOp .Eq) rEq := by
  intro pins s σ H x y v u Q I rx ry h
  obtain ⟨hs, q⟩ := h
  cases x with
  | non =>
    cases rx
    cases y with
    | non => cases ry; exact PySem.EqNone.eq_none_none (fin_bl I q (by simp))
    | bl j => cases ry; exact PySem.EqNone.eq_none_bool (fin_bl I q (by simp))
    | int j => obtain ⟨t', rfl⟩ := ry; exact PySem.EqNone.eq_none_int (fin_bl I q (by simp))
    | str j => obtain ⟨t', rfl⟩ := ry; exact PySem.EqNone.eq_none_str (fin_bl I q (by simp))
    | _ => exact absurd (show false = true from hs) Bool.false_ne_true
  | bl i =>
    cases rx
    cases y with
    | non => cases ry; exact PySem.EqNone.eq_bool_none (fin_bl I q (by simp))
    | bl j => cases ry; exact eq_bool (fin_bl I q dec_bl)
    | str j => obtain ⟨t', rfl⟩ := ry; exact PySem.EqMixed.eq_bool_str (fin_bl I q (by simp))
    | _ => exact absurd (show false = true from hs) Bool.false_ne_true
  | int i =>
    obtain ⟨t, rfl⟩ := rx
    cases y with
    | non => cases ry; exact PySem.EqNone.eq_int_none (fin_bl I q (by simp))
    | int j => obtain ⟨t', rfl⟩ := ry; exact eq_int (fin_bl I q dec_int)
    | str j => obtain ⟨t', rfl⟩ := ry; exact PySem.EqMixed.eq_int_str (fin_bl I q (by simp))
    | _ => exact absurd (show false = true from hs) Bool.false_ne_true
  | str i =>
    obtain ⟨t, rfl⟩ := rx
    cases y with
    | non => cases ry; exact PySem.EqNone.eq_str_none (fin_bl I q (by simp))
    | bl j => cases ry; exact PySem.EqMixed.eq_str_bool (fin_bl I q (by simp))
    | int j => obtain ⟨t', rfl⟩ := ry; exact PySem.EqMixed.eq_str_int (fin_bl I q (by simp))
    | str j => obtain ⟨t', rfl⟩ := ry; exact eq_str (fin_bl I q dec_str)
    | _ => exact absurd (show false = true from hs) Bool.false_ne_true
  | byt i =>
    obtain ⟨t, rfl⟩ := rx
    cases y with
    | byt j => obtain ⟨t', rfl⟩ := ry; exact PySem.W.eq_bytes (fin_bl I q dec_byt)
    | _ => exact absurd (show false = true from hs) Bool.false_ne_true
  | _ => cases y <;> exact absurd (show false = true from hs) Bool.false_ne_true
theorem op_ne : OpR X (compareOp .NotEq) rNe := by
  intro pins s σ H x y v u Q I rx ry h
  obtain ⟨hs, q⟩ := h
  cases x with
  | non =>
    cases rx
    cases y with
    | non => cases ry; exact PySem.EqNone.ne_none_none (fin_bl I q (by simp))
    | bl j => cases ry; exact PySem.EqNone.ne_none_bool (fin_bl I q (by simp))
    | int j => obtain ⟨t', rfl⟩ := ry; exact PySem.EqNone.ne_none_int (fin_bl I q (by simp))
    | str j => obtain ⟨t', rfl⟩ := ry; exact PySem.EqNone.ne_none_str (fin_bl I q (by simp))
    | _ => exact absurd (show false = true from hs) Bool.false_ne_true
  | bl i =>
    cases rx
    cases y with
    | non => cases ry; exact PySem.EqNone.ne_bool_none (fin_bl I q (by simp))
    | bl j => cases ry; exact ne_bool (fin_bl I q (congrArg not dec_bl))
    | str j => obtain ⟨t', rfl⟩ := ry; exact PySem.EqMixed.ne_bool_str (fin_bl I q (by simp))
    | _ => exact absurd (show false = true from hs) Bool.false_ne_true
  | int i =>
    obtain ⟨t, rfl⟩ := rx
    cases y with
    | non => cases ry; exact PySem.EqNone.ne_int_none (fin_bl I q (by simp))
    | int j => obtain ⟨t', rfl⟩ := ry; exact ne_int (fin_bl I q (congrArg not dec_int))
    | str j => obtain ⟨t', rfl⟩ := ry; exact PySem.EqMixed.ne_int_str (fin_bl I q (by simp))
    | _ => exact absurd (show false = true from hs) Bool.false_ne_true
  | str i =>
    obtain ⟨t, rfl⟩ := rx
    cases y with
    | non => cases ry; exact PySem.EqNone.ne_str_none (fin_bl I q (by simp))
    | bl j => cases ry; exact PySem.EqMixed.ne_str_bool (fin_bl I q (by simp))
    | int j => obtain ⟨t', rfl⟩ := ry; exact PySem.EqMixed.ne_str_int (fin_bl I q (by simp))
    | str j => obtain ⟨t', rfl⟩ := ry; exact ne_str (fin_bl I q (congrArg not dec_str))
    | _ => exact absurd (show false = true from hs) Bool.false_ne_true
  | byt i =>
    obtain ⟨t, rfl⟩ := rx
    cases y with
    | byt j => obtain ⟨t', rfl⟩ := ry; exact PySem.W.ne_bytes (fin_bl I q (congrArg not dec_byt))
    | _ => exact absurd (show false = true from hs) Bool.false_ne_true
  | _ => cases y <;> exact absurd (show false = true from hs) Bool.false_ne_true

theorem op_lt : OpR X (compareOp .Lt) (rI0 fun i j => .bl (decide (i < j))) := opB0 fun _ _ _ _ _ _ _ q => lt_int q
theorem op_le : OpR X (compareOp .LtE) (rI0 fun i j => .bl (decide (i ≤ j))) := opB0 fun _ _ _ _ _ _ _ q => le_int q
theorem op_gt : OpR X (compareOp .Gt) (rI0 fun i j => .bl (decide (j < i))) := opB0 fun _ _ _ _ _ _ _ q => gt_int q
theorem op_ge : OpR X (compareOp .GtE) (rI0 fun i j => .bl (decide (j ≤ i))) := opB0 fun _ _ _ _ _ _ _ q => ge_int q

theorem op_isN : OpR X (compareOp .Is) (fun x y H Q => y = .non ∧ Q (.bl (decide (x = .non))) H) := by
  intro pins s σ H x y v u Q I rx ry h
  obtain ⟨rfl, q⟩ := h
  cases ry
  refine is_none_gen (fin_bl I q ?_)
  cases x <;> first
    | (cases rx; rfl)
    | (obtain ⟨t, rfl⟩ := rx; rfl)



theorem nomark (b : Expr) {op : CmpOp} (h : op ≠ .In := by decide) (h2 : op ≠ .NotIn := by decide) : behindInMarks op b = false := by
  have e1 : (op == CmpOp.In) = false := by cases op <;> first | rfl | exact absurd rfl h
  have e2 : (op == CmpOp.NotIn) = false := by cases op <;> first | rfl | exact absurd rfl h2
  cases b <;> simp [behindInMarks, e1, e2]
inductive RTest (x : V) (H : Hp) (Q : Bool → Hp → Prop) : Prop
  | mk (k : Bool) (hx : x = .bl k) (q : Q k H) : RTest x H Q
noncomputable def tTest (t : TE) : TT := fun σ H Q => t σ H fun x H' => RTest x H' Q
theorem pt_cmpR {op : CmpOp} {r : R2} (ho : OpR X (compareOp op) r) (ha : PE X a ta) (hb : PE X b tb) (hm : behindInMarks op b = false) : PT X (.Compare a [op] [b] pos) (tTest (tOp r ta tb)) := by
  intro pins s σ H Q I h
  refine wpAny_isTrue_Compare1 (thn (ha pins s σ H _ I h) fun v s1 ⟨x, H1, I1, r1, q1⟩ => thn (hb pins s1 σ H1 _ I1 q1) fun u s2 ⟨y, H2, I2, r2, q2⟩ =>
    thn (ho pins s2 σ H2 x y v u _ I2 r1 r2 q2) fun c s3 ⟨z, H3, I3, r3, k, e, q3⟩ => ?_) hm
  subst e
  cases r3
  exact wpAny_truthy_bool ⟨H3, I3, q3⟩
noncomputable def tChain (r r' : R2) (ta tb tc : TE) : TE := fun σ H Q => ta σ H fun x H1 => tb σ H1 fun y H2 => r x y H2 fun z H3 => ∃ k, z = .bl k ∧
  (if k = true then tc σ H3 fun w' H4 => r' y w' H4 Q else Q (.bl false) H3)
theorem pt_chain {op op' : CmpOp} {r r' : R2} (ho : OpR X (compareOp op) r) (ho' : OpR X (compareOp op') r') (ha : PE X a ta) (hb : PE X b tb) (hc : PE X c tc)
    (hm : lastMarks [op, op'] [b, c] = false := by with_unfolding_all rfl) : PT X (.Compare a [op, op'] [b, c] pos) (tTest (tChain r r' ta tb tc)) := by
  intro pins s σ H Q I h
  refine isTrue_chain (thn (ha pins s σ H _ I h) fun v s1 ⟨x, H1, I1, r1, q1⟩ => test_link (thn (hb pins s1 σ H1 _ I1 q1) fun u s2 ⟨y, H2, I2, r2, q2⟩ =>
    thn (ho pins s2 σ H2 x y v u _ I2 r1 r2 q2) fun d s3 ⟨z, H3, I3, r3, k, e, q3⟩ => ?_)) hm
  subst e
  cases r3
  refine wpAny_truthy_bool ?_
  cases k with
  | false =>
    obtain ⟨k', e', q'⟩ := q3
    cases e'
    exact ite_ff ⟨H3, I3, q'⟩
  | true =>
    refine ite_tt (test_last (thn (hc pins s3 σ H3 _ I3 q3) fun w' s4 ⟨z', H4, I4, r4, q4⟩ => thn (ho' pins s4 σ H4 y z' u w' _ I4 r2 r4 q4) fun d' s5 ⟨z2, H5, I5, r5, k2, e2, q5⟩ => ?_))
    subst e2
    cases r5
    exact wpAny_truthy_bool ⟨H5, I5, q5⟩

theorem line63 : (sizeLine : Nat) < 2 ^ 63 := by rw [sizeLine_eq]; decide

inductive J_op_add_str (x : V) (y : V) (H : Hp) (Q : VK) : Prop
  | mk : ∀ i j, (x = .str i) → (y = .str j) → (i.length + j.length ≤ sizeLine) → (Q (.str (i ++ j)) H) → J_op_add_str x y H Q
theorem op_add_str : OpR X (binaryOp .Add) (fun x y H Q => J_op_add_str x y H Q) := by
  intro pins s σ H x y v u Q I rx ry h
  obtain ⟨i, j, rfl, rfl, hz, q⟩ := h
  obtain ⟨t, rfl⟩ := rx
  obtain ⟨t', rfl⟩ := ry
  exact add_str (fun t' tk => ⟨.str (i ++ j), H, I.tok _, ⟨_, rfl⟩, q⟩) hz


theorem vals1 {x : V} {us : List Value} (r : Vals [x] us) : ∃ u, us = [u] ∧ RelV x u := by
  cases r with
  | cons r1 r2 => cases r2; exact ⟨_, rfl, r1⟩
theorem vals2 {x y : V} {us : List Value} (r : Vals [x, y] us) : ∃ u w', us = [u, w'] ∧ RelV x u ∧ RelV y w' := by
  cases r with
  | cons r1 r2 =>
    cases r2 with
    | cons r3 r4 => cases r4; exact ⟨_, _, rfl, r1, r3⟩
inductive J_call_max2 (xs : List V) (H : Hp) (Q : VK) : Prop
  | mk : ∀ i j, (xs = [.int i, .int j]) → (Q (.int (if j > i then j else i)) H) → J_call_max2 xs H Q
theorem call_max2 (hc : X.calm = true) : CallR X (.builtin "max") (fun xs H Q => J_call_max2 xs H Q) := by
  intro pins s σ H xs us Q I r h
  obtain ⟨i, j, rfl, q⟩ := h
  obtain ⟨u, w', rfl, ⟨t, rfl⟩, ⟨t', rfl⟩⟩ := vals2 r
  refine max_two_ints (I.ok.hd hc) fun h' tk k => ⟨_, H, I.kept k, ?_, q⟩
  by_cases hj : j > i
  · rw [if_pos hj, if_pos hj]; exact ⟨_, rfl⟩
  · rw [if_neg hj, if_neg hj]; exact ⟨_, rfl⟩
inductive J_call_min2 (xs : List V) (H : Hp) (Q : VK) : Prop
  | mk : ∀ i j, (xs = [.int i, .int j]) → (Q (.int (if j < i then j else i)) H) → J_call_min2 xs H Q
theorem call_min2 (hc : X.calm = true) : CallR X (.builtin "min") (fun xs H Q => J_call_min2 xs H Q) := by
  intro pins s σ H xs us Q I r h
  obtain ⟨i, j, rfl, q⟩ := h
  obtain ⟨u, w', rfl, ⟨t, rfl⟩, ⟨t', rfl⟩⟩ := vals2 r
  refine min_two_ints (I.ok.hd hc) fun h' tk k => ⟨_, H, I.kept k, ?_, q⟩
  by_cases hj : j < i
  · rw [if_pos hj, if_pos hj]; exact ⟨_, rfl⟩
  · rw [if_neg hj, if_neg hj]; exact ⟨_, rfl⟩
end
end L2

namespace L2
open PySem PySem.Spec PyProof.Rows

structure ObjM (h : Heap) (x dx C : Addr) (mA : Str → Option Value) : Prop where
  obj : h.get? x = some (PySem.W.instObj C dx)
  ns : h.Ns1 dx mA
  ne : dx ≠ x

theorem lookIn_ns {h : Heap} {dx : Addr} {mA : Str → Option Value} (n : h.Ns1 dx mA) : ∃ od, h.get? dx = some od ∧ ∀ name, PySem.W.lookIn name od = some (mA name) := by
  obtain ⟨o, es, ep, ho, hd, hk, _, hm⟩ := n
  refine ⟨o, ho, fun name => ?_⟩
  have e := hm name
  unfold nsFind findBy at e
  rw [← Array.find?_toList] at e
  unfold PySem.W.lookIn
  rw [hd]
  dsimp only
  split
  · rename_i y q
    rw [q] at e
    exact congrArg some e
  · rename_i q
    rw [q] at e
    have a : es.toList.any (·.refKey) = false := by
      rw [List.any_eq_false]
      intro y hy
      obtain ⟨z, t, hkey⟩ := hk y (Array.mem_toList_iff.mp hy)
      simp [DictEntry.refKey, hkey]
    have a' : ¬ es.toList.any (·.refKey) = true := by rw [a]; exact Bool.false_ne_true
    rw [if_neg a']
    exact congrArg some e

theorem ObjM.look {h : Heap} {x dx C : Addr} {mA : Str → Option Value} (I : ObjM h x dx C mA) : ∃ od, PySem.W.InstAt h x (PySem.W.instObj C dx) C (some od) ∧ ∀ name, PySem.W.lookIn name od = some (mA name) :=
  let ⟨od, ho, hl⟩ := lookIn_ns I.ns
  ⟨od, ⟨I.obj, rfl, rfl, ho⟩, hl⟩

section
variable {prog : Program} {w : World} {A : Around} {E : Value → Shared → Prop} {s : Shared} {K : PySem.W.Frag} {x dx C f : Addr} {mA : Str → Option Value} {name : Str} {v : Value}

theorem get_map {expr : Bool} {Q : Value → Shared → Prop} (X : K.In s.heap) (I : ObjM s.heap x dx C mA) (hg : PySem.W.plainGet K C name = true) (hh : PySem.W.hasDictIn K C = true)
    (ha : PySem.W.findIn K (.ref C) name = some none) (hv : mA name = some v) (hv' : PySem.W.handedIn v = true) (h : Q v { s with toks := s.toks + 1 }) :
    wpAny (model prog w) A (getAttr (.ref x) name expr) Q E s := by
  obtain ⟨od, J, hl⟩ := I.look
  exact PySem.W.get_value X J (PySem.W.plainGet_of hg).1 (PySem.W.findObj_own hh ha rfl (by rw [hl, hv])) hv' h


theorem get_meth {pl : Sem Bool} {Q : Value × List Value → Shared → Prop} (X : K.In s.heap) (I : ObjM s.heap x dx C mA) (hg : PySem.W.plainGet K C name = true)
    (hf : PySem.W.findIn K (.ref C) name = some (some (.ref f))) (ht : PySem.W.isFn K (.ref f) = true) (hv : mA name = none) (h : Q (.ref f, [.ref x]) s) :
    wpAny (model prog w) A (getMethod (.ref x) name pl) Q E s := by
  obtain ⟨od, J, hl⟩ := I.look
  exact PySem.W.method_fn X J (PySem.W.plainGet_of hg).1 (PySem.W.plainGet_of hg).2 hf (beq_iff_eq.mp ht) (by show (PySem.W.lookIn name od).map (·.isSome) = some false; rw [hl, hv]; rfl) h

theorem set_map {ns : List Str} {Q : Unit → Shared → Prop} (X : K.In s.heap) (I : ObjM s.heap x dx C mA)
    (hs : PySem.W.findIn K (.ref C) "__setattr__" = some (some (.builtin "object.__setattr__"))) (hp : PySem.W.plainOver K C = true) (ht : PySem.W.takerIn K C name = some none) (hh : PySem.W.hasDictIn K C = true)
    (hw : PySem.Within mA ns) (hsz : ns.length ≤ sizeLine)
    (h : ∀ h', ObjM h' x dx C (fun y => if y = name then some v else mA y) → Heap.SameBut dx s.heap h' → Q () { s with heap := h', toks := s.toks + 2 }) :
    wpAny (model prog w) A (setAttr (.ref x) name v) Q E s := by
  obtain ⟨od, J, hl⟩ := I.look
  refine PySem.W.set_plain X J hs (PySem.W.osa_open (s := { s with toks := s.toks + 1 }) (r := none) X J hp ht fun b => ?_)
  obtain ⟨cd, hc, hd'⟩ := PySem.W.any_some hh
  have hx : s.heap.get? x = some ⟨.ref C, some dx, .plain, #[]⟩ := I.obj
  refine wpAny_bind (wpAny_pure (wpAny_bind (wpAny_bind (wpAny_loadPart hx (wpAny_bind (PySem.W.Looks.here (s := { s with toks := s.toks + 1 }) (PySem.W.looks_clsIn X hc) ?_))))))
  rw [hd']
  refine wpAny_pure (a := some dx) (wpAny_bind (wpAny_pure (wpAny_bind ?_)))
  refine wpAny_nsSet1 (s := { s with toks := s.toks + 1 }) I.ns fun h' hn2 hs2 => ?_
  obtain ⟨oD, esD, epD, hoD, hdD, hcD⟩ := hn2.count (PySem.Within.cons name v hw)
  refine wpAny_bind (wpAny_lookBehind hoD (by rw [hdD]; exact pastItsLine_dict (Nat.le_trans hcD (by rw [List.length_cons]; omega))) ?_)
  exact wpAny_pure (h _ ⟨(hs2.2 _ (Ne.symm I.ne)).trans I.obj, hn2, I.ne⟩ hs2)

theorem make_map {R : Result → Shared → Prop} {vs : List Value} {kw : List (Str × Value)} (X : K.In s.heap) (hm : PySem.W.makesIn K C = true)
    (hi : PySem.W.findIn K (.ref C) "__init__" = some (some (.ref f))) (hf : PySem.W.typeIn K (.ref f) = some (.type "function"))
    (h : codeAny (model prog w) (A.under (.builtin "type.__call__" ⟨.ref C :: vs, kw⟩)) (.call (.ref f) ⟨.ref (s.heap.objs.size + 1) :: vs, kw⟩) (PySem.W.InitBack (s.heap.objs.size + 1) R)
      { s with heap := (s.heap.push PySem.W.emptyDict).push (PySem.W.instObj C s.heap.objs.size) }) :
    codeAny (model prog w) A (.call (.ref C) ⟨vs, kw⟩) R s := by
  obtain ⟨hh, g, d, t, os⟩ := s
  exact PySem.W.make_core (PySem.W.makes_of X hm) (PySem.W.looks_findIn X hi) (fun self => PySem.W.bind_fn X self hf) (.inl rfl) h
end

noncomputable def putF (f : Str) (v : V) : List (Str × V) → List (Str × V)
  | [] => [(f, v)]
  | (g, x) :: r => if g = f then (g, v) :: r else (g, x) :: putF f v r
theorem lookup_putF (f g : Str) (v : V) : ∀ fs : List (Str × V), (putF f v fs).lookup g = if g = f then some v else fs.lookup g
  | [] => by
    show List.lookup g [(f, v)] = _
    by_cases h : g = f
    · have hb : (g == f) = true := beq_iff_eq.mpr h
      simp only [List.lookup, hb, if_pos h]
    · have hb : (g == f) = false := beq_eq_false_iff_ne.mpr h
      simp only [List.lookup, hb, if_neg h]
  | (k, x) :: r => by
    have ih := lookup_putF f g v r
    rw [show putF f v ((k, x) :: r) = (if k = f then (k, v) :: r else (k, x) :: putF f v r) from rfl]
    by_cases hk : k = f
    · rw [if_pos hk]
      by_cases h : g = k
      · have hb : (g == k) = true := beq_iff_eq.mpr h
        simp only [List.lookup, hb, if_pos (h.trans hk)]
      · have hb : (g == k) = false := beq_eq_false_iff_ne.mpr h
        simp only [List.lookup, hb, if_neg (fun e : g = f => h (e.trans hk.symm))]
    · rw [if_neg hk]
      by_cases h : g = k
      · have hb : (g == k) = true := beq_iff_eq.mpr h
        simp only [List.lookup, hb, if_neg (fun e : g = f => hk (h.symm.trans e))]
      · have hb : (g == k) = false := beq_eq_false_iff_ne.mpr h
        simp only [List.lookup, hb]
        exact ih
theorem keys_putF (f : Str) (v : V) : ∀ fs : List (Str × V), f ∈ (putF f v fs).map (·.1) ∧ ∀ g, g ∈ fs.map (·.1) → g ∈ (putF f v fs).map (·.1)
  | [] => ⟨by simp [putF], fun g h => by simp at h⟩
  | (k, x) :: r => by
    obtain ⟨i1, i2⟩ := keys_putF f v r
    rw [show putF f v ((k, x) :: r) = (if k = f then (k, v) :: r else (k, x) :: putF f v r) from rfl]
    by_cases hk : k = f
    · rw [if_pos hk]
      subst hk
      exact ⟨by simp, fun g h => by simpa using h⟩
    · rw [if_neg hk]
      refine ⟨?_, fun g h => ?_⟩
      · rw [List.map_cons]
        exact List.mem_cons_of_mem _ i1
      · rw [List.map_cons] at h ⊢
        rcases List.mem_cons.mp h with e | e
        · exact List.mem_cons.mpr (.inl e)
        · exact List.mem_cons_of_mem _ (i2 g e)
theorem length_putF (f : Str) (v : V) : ∀ fs : List (Str × V), (putF f v fs).length ≤ fs.length + 1
  | [] => by simp [putF]
  | (k, x) :: r => by
    have ih := length_putF f v r
    rw [show putF f v ((k, x) :: r) = (if k = f then (k, v) :: r else (k, x) :: putF f v r) from rfl]
    by_cases hk : k = f
    · rw [if_pos hk, List.length_cons, List.length_cons]; omega
    · rw [if_neg hk, List.length_cons, List.length_cons]; omega

theorem RelO.some_of {v : V} {o : Option Value} (r : RelO (some v) o) : ∃ u, o = some u ∧ RelV v u := by
  cases o with
  | none => exact (show False from r).elim
  | some u => exact ⟨u, rfl, r⟩
theorem RelO.none_of {o : Option Value} (r : RelO none o) : o = none := by
  cases o with
  | none => rfl
  | some u => exact (show False from r).elim
theorem handed_of {v : V} {u : Value} (r : RelV v u) : PySem.W.handedIn u = true := by
  cases v with
  | non => cases (show u = Value.none from r); rfl
  | bl b => cases (show u = Value.bool b from r); rfl
  | int i => obtain ⟨t, e⟩ := (show ∃ t, u = Value.int i t from r); cases e; rfl
  | str x => obtain ⟨t, e⟩ := (show ∃ t, u = Value.str x t from r); cases e; rfl
  | byt b => obtain ⟨t, e⟩ := (show ∃ t, u = Value.bytes b t from r); cases e; rfl
  | flt b => obtain ⟨t, e⟩ := (show ∃ t, u = Value.float b t from r); cases e; rfl
  | ref a => cases (show u = Value.ref a from r); rfl
  | ty n => cases (show u = Value.type n from r); rfl

section
variable {P : Program} {w : World} {H H' : Hp} {h h' : Heap} {a C dx : Addr} {fs fs' : List (Str × V)}
theorem ins_get (hok : HOk P w H h) (e : H a = some (.ins C dx fs)) : ∃ mA, ObjM h a dx C mA ∧ (∀ f, RelO (fs.lookup f) (mA f)) ∧ PySem.Within mA (fs.map (·.1)) ∧ fs.length ≤ 1000 ∧ H dx = some (.own a) := by
  obtain ⟨d, z, ne, ob, mA, n, r, q⟩ := (show ObjOk P w H h a (.ins C dx fs) from hok a _ e)
  exact ⟨mA, ⟨ob, n, ne⟩, r, q, z, d⟩
end

structure Cls (K : PySem.W.Frag) (C : Addr) : Prop where
  pg : PySem.W.plainGet K C Str.empty = true
  hd : PySem.W.hasDictIn K C = true
  po : PySem.W.plainOver K C = true
  sa : PySem.W.findIn K (.ref C) "__setattr__" = some (some (.builtin "object.__setattr__"))
theorem Cls.get {K : PySem.W.Frag} {C : Addr} (c : Cls K C) (f : Str) : PySem.W.plainGet K C f = true := c.pg
noncomputable def NoAttr (K : PySem.W.Frag) (C : Addr) (f : Str) : Prop := PySem.W.findIn K (.ref C) f = some none
theorem NoAttr.taker {K : PySem.W.Frag} {C : Addr} {f : Str} (n : NoAttr K C f) : PySem.W.takerIn K C f = some none := by
  unfold PySem.W.takerIn
  rw [show PySem.W.findIn K (.ref C) f = some none from n]
  rfl
structure Meth (K : PySem.W.Frag) (C : Addr) (m : Str) (f : Addr) : Prop where
  at_ : PySem.W.findIn K (.ref C) m = some (some (.ref f))
  fn : PySem.W.isFn K (.ref f) = true
  kp : PySem.W.keepIn K (.ref f) = true

section
variable {X : Cx} {pins : List (Addr × Obj)} {σ : St} {H : Hp} {s : Shared} {a C dx : Addr} {fs : List (Str × V)} {f : Str} {v : V} {A : Around} {E : Value → Shared → Prop}

theorem getattr_ok {b : Bool} {Q : Value → Shared → Prop} (I : Inv X pins σ H s) (e : H a = some (.ins C dx fs)) (c : Cls X.K C) (n : NoAttr X.K C f) (l : fs.lookup f = some v)
    (h : ∀ u s', Inv X pins σ H s' → RelV v u → Q u s') : wpAny (model X.prog X.w) A (getAttr (.ref a) f b) Q E s := by
  obtain ⟨mA, O, r, _, _, _⟩ := ins_get I.hok e
  obtain ⟨u, hu, ru⟩ := RelO.some_of (v := v) (o := mA f) (by rw [← l]; exact r f)
  exact get_map I.kIn O (c.get f) c.hd n hu (handed_of ru) (h u _ (I.tok _) ru)


theorem getmeth_ok {m : Str} {g : Addr} {pl : Sem Bool} {Q : Value × List Value → Shared → Prop} (I : Inv X pins σ H s) (e : H a = some (.ins C dx fs)) (c : Cls X.K C) (k : Meth X.K C m g) (l : fs.lookup m = none)
    (h : Q (.ref g, [.ref a]) s) : wpAny (model X.prog X.w) A (getMethod (.ref a) m pl) Q E s := by
  obtain ⟨mA, O, r, _, _, _⟩ := ins_get I.hok e
  have hn : mA m = none := RelO.none_of (by rw [← l]; exact r m)
  exact get_meth I.kIn O (c.get m) k.at_ k.fn hn h

theorem setattr_ok {y : V} {u : Value} {Q : Unit → Shared → Prop} (I : Inv X pins σ H s) (e : H a = some (.ins C dx fs)) (c : Cls X.K C) (n : NoAttr X.K C f) (hl : fs.length < 1000) (ry : RelV y u)
    (h : ∀ s', Inv X pins σ (upd H a (.ins C dx (putF f y fs))) s' → Q () s') : wpAny (model X.prog X.w) A (setAttr (.ref a) f u) Q E s := by
  obtain ⟨mA, O, r, wi, _, ho⟩ := ins_get I.hok e
  have hz : (fs.map (·.1)).length ≤ sizeLine := by rw [List.length_map, sizeLine_eq]; omega
  refine set_map I.kIn O c.sa c.po n.taker c.hd wi hz fun h' O' sb => h _ ?_
  have hd : ∃ o, h'.get? dx = some o := let ⟨o, _, _, e', _⟩ := O'.ns; ⟨o, e'⟩
  refine I.write (x := a) (e := dx) (by rw [e]; exact True.intro) (.inr ho) (fun b q hb z => (sb.2 b hb).trans z) hd ?_
  refine ⟨by rw [upd_ne O.ne]; exact ho, ?_, O.ne, O'.obj, _, O'.ns, fun g => ?_, fun g hg => ?_⟩
  · have := length_putF f y fs; omega
  · show RelO ((putF f y fs).lookup g) (if g = f then some u else mA g)
    rw [lookup_putF]
    by_cases q : g = f
    · rw [if_pos q, if_pos q]; exact ry
    · rw [if_neg q, if_neg q]; exact r g
  · by_cases q : g = f
    · rw [q]; exact (keys_putF f y fs).1
    · refine (keys_putF f y fs).2 g (wi g fun z => hg ?_)
      show (if g = f then some u else mA g) = none
      rw [if_neg q]; exact z

theorem Inv.made (I : Inv X pins σ H s) : Inv X pins σ (upd (upd H s.heap.objs.size (.own (s.heap.objs.size + 1))) (s.heap.objs.size + 1) (.ins C s.heap.objs.size []))
    { s with heap := (s.heap.push PySem.W.emptyDict).push (PySem.W.instObj C s.heap.objs.size) } := by
  have e1 : (s.heap.push PySem.W.emptyDict).get? s.heap.objs.size = some PySem.W.emptyDict := Heap.get?_push_size s.heap rfl
  have e2 : ((s.heap.push PySem.W.emptyDict).push (PySem.W.instObj C s.heap.objs.size)).get? (s.heap.objs.size + 1) = some (PySem.W.instObj C s.heap.objs.size) := by
    have := Heap.get?_push_size (s.heap.push PySem.W.emptyDict) (o := PySem.W.instObj C s.heap.objs.size) rfl
    rwa [Heap.size_push] at this
  have e3 : (s.heap.push PySem.W.emptyDict).Ns s.heap.objs.size (fun _ => none) := ⟨PySem.W.emptyDict, #[], _, e1, rfl, (fun e he => absurd he (by simp)), fun _ => rfl⟩
  have I1 := I.laid (a := s.heap.objs.size) (o := .own (s.heap.objs.size + 1)) (h' := s.heap.push PySem.W.emptyDict) (t' := s.toks) (fun b u q => Heap.get?_push_of_some _ q) (Nat.le_refl _) ⟨_, e1⟩
  refine I1.laid (a := s.heap.objs.size + 1) (o := .ins C s.heap.objs.size []) (t' := s.toks) (fun b u q => Heap.get?_push_of_some _ q) (Nat.le_of_eq (Heap.size_push _ _)) ?_
  have ne : s.heap.objs.size ≠ s.heap.objs.size + 1 := Nat.ne_of_lt (Nat.lt_succ_self _)
  refine ⟨by rw [upd_ne ne, upd_same], Nat.zero_le _, ne, e2, fun _ => none, (Heap.Ns1.of_empty e3).at fun o q => Heap.get?_push_of_some _ q, fun _ => True.intro, fun y hy => absurd rfl hy⟩

theorem attr_of {prog : Program} {w : World} {env : Env} {e : Expr} {f : Str} {pos : Pos} {s : Shared} {Q : Value → Shared → Prop} (hb : attributeBase e f env (eval e env) = eval e env)
    (h : wpAny (model prog w) A (eval e env) (fun o s₁ => wpAny (model prog w) A (getAttr o f true) Q E s₁) E s) : wpAny (model prog w) A (eval (.Attribute e f pos) env) Q E s :=
  Attribute_any_ h (by rw [arm_eval_Attribute, hb])
end

inductive RFld (K : PySem.W.Frag) (f : Str) (x : V) (H : Hp) (Q : VK) : Prop
  | mk (a C dx : Addr) (fs : List (Str × V)) (v : V) (hx : x = .ref a) (h : H a = some (.ins C dx fs)) (c : Cls K C) (n : NoAttr K C f) (l : fs.lookup f = some v) (q : Q v H) : RFld K f x H Q
noncomputable def tFld (K : PySem.W.Frag) (ta : TE) (f : Str) : TE := fun σ H Q => ta σ H fun x H1 => RFld K f x H1 Q
inductive J_sFld (K : PySem.W.Frag) (f : Str) (D : Ends) (σ : St) (y : V) (x : V) (H2 : Hp) : Prop
  | mk : ∀ a C dx fs, (x = .ref a) → (H2 a = some (.ins C dx fs)) → (Cls K C) → (NoAttr K C f) → (fs.length < 1000) → (D.nx σ (upd H2 a (.ins C dx (putF f y fs)))) → J_sFld K f D σ y x H2
noncomputable def sFld (K : PySem.W.Frag) (ta tv : TE) (f : Str) : TS := fun D σ H => tv σ H fun y H1 => ta σ H1 fun x H2 => J_sFld K f D σ y x H2

section
variable {X : Cx} {o e value : Expr} {f : Str} {pos pos' tpos : Pos} {ta tv : TE}
theorem pe_fld (he : PE X e ta) (hb : attributeBase e f X.env (eval e X.env) = eval e X.env) : PE X (.Attribute e f pos) (tFld X.K ta f) := by
  intro pins s σ H Q I h
  refine attr_of hb (thn (he pins s σ H _ I h) fun u s1 ⟨x, H1, I1, rx, a, C, dx, fs, v, ex, ea, c, n, l, q⟩ => ?_)
  subst ex
  obtain rfl : u = Value.ref a := rx
  exact getattr_ok I1 ea c n l fun u' s2 I2 ru => ⟨v, H1, I2, ru, q⟩
theorem ps_fld (ha : PE X o ta) (hv : PE X value tv) (hs : swapsWith value (some (.Attribute o f pos')) pos.line X.env = pure false) : PS X (.Assign [.Attribute o f pos'] value pos) (sFld X.K ta tv f) := by
  intro pins s σ H D I h
  refine plainObj_wpAny_Assign_Attribute (thn (hv pins s σ H _ I h) fun u s1 ⟨y, H1, I1, ry, q⟩ => thn (ha pins s1 σ H1 _ I1 q) fun ov s2 ⟨x, H2, I2, rx, a, C, dx, fs, ex, ea, c, n, l, q2⟩ => ?_) hs
  subst ex
  obtain rfl : ov = Value.ref a := rx
  exact setattr_ok I2 ea c n l ry fun s3 I3 => ⟨σ, _, I3, q2⟩

end

section
variable {X : Cx} {pins : List (Addr × Obj)} {σ : St} {H : Hp} {s : Shared} {A : Around} {E : Value → Shared → Prop} {Q : Value → Shared → Prop} {c : Value} {b : Bool}
inductive TyOf (K : PySem.W.Frag) (H : Hp) : V → Value → Prop where
  | non : TyOf K H .non (.type "NoneType")
  | bl (x : Bool) : TyOf K H (.bl x) (.type "bool")
  | int (i : Int) : TyOf K H (.int i) (.type "int")
  | str (x : Str) : TyOf K H (.str x) (.type "str")
  | flt (x : UInt64) : TyOf K H (.flt x) (.type "float")
  | lst {a : Addr} {xs : List V} (e : H a = some (.lst xs)) : TyOf K H (.ref a) (.type "list")
  | frz {a : Addr} {o : Obj} {xs : List V} (e : H a = some (.frz o (.lst xs))) : TyOf K H (.ref a) (.type "list")
  | tup {a : Addr} {xs : List V} (e : H a = some (.tup xs)) : TyOf K H (.ref a) (.type "tuple")
  | dK {a : Addr} {kvs : List (Key × V)} (e : H a = some (.dK kvs)) : TyOf K H (.ref a) (.type "dict")
  | dT {a : Addr} {kvs : List (List Key × V)} (e : H a = some (.dT kvs)) : TyOf K H (.ref a) (.type "dict")
  | ins {a C dx : Addr} {fs : List (Str × V)} (e : H a = some (.ins C dx fs)) (cl : Cls K C) (ha : PySem.W.findIn K (.ref C) "__class__" = some (some (.builtin "object.__class__")))
      (hn : PySem.W.specialIn K (.builtin "object.__class__") "__get__" = some (some (.builtin "getset_descriptor.__get__"))) (htk : PySem.W.takesIn K (.builtin "object.__class__") = some true)
      (hm : PySem.W.mroIn K C (.type "object") = some true) : TyOf K H (.ref a) (.ref C)
theorem isinst_ok {x : V} {u t : Value} (I : Inv X pins σ H s) (rx : RelV x u) (ty : TyOf X.K H x t) (e : PySem.W.kitOne X.K t c = some b) (h : ∀ tk, Q (.bool b) { s with toks := tk }) :
    wpAny (model X.prog X.w) A (call (.builtin "isinstance") [u, c]) Q E s := by
  cases ty with
  | non => cases (show u = Value.none from rx); exact PySem.W.kia_one PySem.W.kitx_none I.kIn True.intro e (fun z => nomatch z) h
  | bl y => cases (show u = Value.bool y from rx); exact PySem.W.kia_one PySem.W.kitx_bool I.kIn True.intro e (fun z => nomatch z) h
  | int i => obtain ⟨t, q⟩ := (show ∃ t, u = Value.int i t from rx); cases q; exact PySem.W.kia_one PySem.W.kitx_int I.kIn True.intro e (fun z => nomatch z) h
  | str y => obtain ⟨t, q⟩ := (show ∃ t, u = Value.str y t from rx); cases q; exact PySem.W.kia_one PySem.W.kitx_str I.kIn True.intro e (fun z => nomatch z) h
  | flt y => obtain ⟨t, q⟩ := (show ∃ t, u = Value.float y t from rx); cases q; exact PySem.W.kia_one PySem.W.kitx_float I.kIn True.intro e (fun z => nomatch z) h
  | @lst a xs ea =>
    cases (show u = Value.ref a from rx)
    obtain ⟨_, _, n, _, h1⟩ := (show ObjOk X.prog X.w H s.heap a (.lst xs) from I.hok a _ ea)
    exact PySem.W.kia_one PySem.W.kitx_list I.kIn ⟨_, h1, rfl⟩ e (fun z => nomatch z) h
  | @frz a ob xs ea =>
    cases (show u = Value.ref a from rx)
    obtain ⟨_, _, _, n, _, h1⟩ := (show ObjOk X.prog X.w H s.heap a (.frz ob (.lst xs)) from I.hok a _ ea)
    exact PySem.W.kia_one PySem.W.kitx_list I.kIn ⟨_, h1, rfl⟩ e (fun z => nomatch z) h
  | @tup a xs ea =>
    cases (show u = Value.ref a from rx)
    obtain ⟨_, _, _, p⟩ := (show ObjOk X.prog X.w H s.heap a (.tup xs) from I.hok a _ ea)
    obtain ⟨o, h1, h2, _⟩ := p
    exact PySem.W.kia_one PySem.W.kitx_tuple I.kIn ⟨o, h1, h2⟩ e (fun z => nomatch z) h
  | @dK a kvs ea =>
    cases (show u = Value.ref a from rx)
    obtain ⟨_, _, vs, _, p⟩ := (show ObjOk X.prog X.w H s.heap a (.dK kvs) from I.hok a _ ea)
    obtain ⟨o, es, ep, h1, h2, _⟩ := p
    exact PySem.W.kia_one PySem.W.kitx_dict I.kIn ⟨o, h1, h2.1⟩ e (fun z => nomatch z) h
  | @dT a kvs ea =>
    cases (show u = Value.ref a from rx)
    obtain ⟨_, _, xs, _, o, es, ep, h1, h2, _⟩ := (show ObjOk X.prog X.w H s.heap a (.dT kvs) from I.hok a _ ea)
    exact PySem.W.kia_one PySem.W.kitx_dict I.kIn ⟨o, h1, h2.1⟩ e (fun z => nomatch z) h
  | @ins a C dx fs ea cl ha hn htk hm =>
    cases (show u = Value.ref a from rx)
    obtain ⟨mA, O, _⟩ := ins_get I.hok ea
    obtain ⟨od, J, _⟩ := O.look
    exact PySem.W.kia_one (PySem.W.kitx_own (cl.get _) cl.hd ha hn htk hm) I.kIn J e (fun z => nomatch z) h
end
end L2

namespace L2
open PySem PySem.Spec PyProof.Rows

structure Room (k : Nat) (A : Around) : Prop where
  hd : A.handled = none
  dp : A.depth + 3 * k + 5 < recursionLimit
  un : A.units + 16 * k + 200 < cLine
theorem Room.mono {j k : Nat} {A : Around} (r : Room k A) (h : j ≤ k) : Room j A := ⟨r.hd, by have := r.dp; omega, by have := r.un; omega⟩
theorem Room.deeper {k : Nat} {A : Around} (r : Room (k + 1) A) (env : Env) : Room k (A.deeper env) :=
  ⟨r.hd, by have := r.dp; show A.depth + 1 + 3 * k + 5 < _; omega, by have := r.un; show A.units + 3 + 16 * k + 200 < _; omega⟩
theorem make_depth {A : Around} {C : Addr} {us : List Value} {kw : List (Str × Value)} : (A.under (.builtin "type.__call__" ⟨.ref C :: us, kw⟩)).depth = A.depth + 1 := by
  first | rfl | simp [Around.under, Code.weight, Code.isCreation, Code.isGuard, Code.isCaller, Code.frames, Code.isFrame, guardIds]
theorem make_units {A : Around} {C : Addr} {us : List Value} {kw : List (Str × Value)} : (A.under (.builtin "type.__call__" ⟨.ref C :: us, kw⟩)).units = A.units + 1 := by
  first | rfl | simp [Around.under, Code.cUnits, Code.frames, Code.isFrame]
theorem Room.make {k : Nat} {A : Around} (r : Room (k + 1) A) (C : Addr) (us : List Value) (kw : List (Str × Value)) : Room k (A.under (.builtin "type.__call__" ⟨.ref C :: us, kw⟩)) :=
  ⟨r.hd, by have := r.dp; rw [make_depth]; omega, by have := r.un; rw [make_units]; omega⟩
theorem Room.depth {k : Nat} {A : Around} (r : Room k A) : A.depth < recursionLimit := by have := r.dp; omega
theorem Room.units {k : Nat} {A : Around} (r : Room k A) : A.units + 64 < cLine := by have := r.un; omega
theorem Room.units0 {k : Nat} {A : Around} (r : Room k A) : A.units < cLine := by have := r.un; omega

noncomputable def tNil : TA := fun _ H Q => Q [] H
noncomputable def tCons (ta : TE) (tr : TA) : TA := fun σ H Q => ta σ H fun x H1 => tr σ H1 fun xs H2 => Q (x :: xs) H2
section
variable {X : Cx} {e : Expr} {es : List Expr} {te : TE} {t : TA} {pos : Pos}
theorem pa_nil : PA X [] tNil := fun _ _ _ _ H Q I h => Calls.spliced_nil ⟨[], H, I, .nil, h⟩
theorem pa_cons (ha : PE X e te) (hr : PA X es t) (hs : starEach (e :: es) X.env = (false, eval e X.env) :: starEach es X.env := by rfl) : PA X (e :: es) (tCons te t) := by
  intro pos pins s σ H Q I h
  rw [hs]
  show wpAny _ _ (spliced ((false, eval e X.env) :: backTo pos (starEach es X.env))) _ _ s
  refine Calls.spliced_cons (thn (ha pins s σ H _ I h) fun u s1 ⟨x, H1, I1, r1, q1⟩ => ?_)
  exact thn (hr pos pins s1 σ H1 _ I1 q1) fun us s2 ⟨xs, H2, I2, r2, q2⟩ => ⟨x :: xs, H2, I2, .cons r1 r2, q2⟩

noncomputable def tTup (t : TA) : TE := fun σ H Q => t σ H fun xs H1 => xs.length ≤ sizeLine ∧ ∀ p, H1 p = none → Q (.ref p) (upd H1 p (.tup xs))
noncomputable def tLst (t : TA) : TE := fun σ H Q => t σ H fun xs H1 => xs.length ≤ sizeLine ∧ ∀ p, H1 p = none → Q (.ref p) (upd H1 p (.lst xs))
theorem pe_tup {x1} (h : PA X es t) : PE X (.Tuple es x1 pos) (tTup t) := by
  intro pins s σ H Q I hq
  refine wpAny_Tuple_spliced (thn (h pos pins s σ H _ I hq) fun us s1 ⟨xs, H1, I1, r, z, q⟩ => ⟨by rw [← r.length]; exact z, ?_⟩)
  have hf : H1 s1.heap.objs.size = none := I1.hok.fresh (Nat.le_refl _)
  refine ⟨.ref s1.heap.objs.size, upd H1 s1.heap.objs.size (.tup xs), I1.laid (t' := s1.toks) (fun b u e => Heap.get?_push_of_some _ e) (Nat.le_refl _) ?_, rfl, q _ hf⟩
  exact ⟨z, us, r, ⟨_, Heap.get?_push_size _ rfl, rfl, _, rfl, rfl⟩⟩
theorem pe_lst (h : PA X es t) : PE X (.List es pos) (tLst t) := by
  intro pins s σ H Q I hq
  refine wpAny_List_spliced (thn (h pos pins s σ H _ I hq) fun us s1 ⟨xs, H1, I1, r, z, q⟩ => ⟨by rw [← r.length]; exact z, ?_⟩)
  have hf : H1 s1.heap.objs.size = none := I1.hok.fresh (Nat.le_refl _)
  refine ⟨.ref s1.heap.objs.size, upd H1 s1.heap.objs.size (.lst xs), I1.laid (t' := s1.toks) (fun b u e => Heap.get?_push_of_some _ e) (Nat.le_refl _) ?_, rfl, q _ hf⟩
  exact ⟨z, us, 0, r, Heap.get?_push_size _ rfl⟩
end

noncomputable abbrev Sp := List V → Hp → VK → XK → Prop
noncomputable abbrev CXT := List Env → Hp → Shared → XK → Value → Shared → Prop

structure Env0 (P : Program) (w : World) (K : PySem.W.Frag) (mg : Str → Option Value) (base : Heap) (A : Around) (outer : List Env) (s : Shared) (H : Hp) : Prop where
  frames : A.frames = some outer
  mod : Mod K mg base
  bs : ∀ b o, base.get? b = some o → s.heap.get? b = some o ∧ H b = none
  bsz : base.objs.size ≤ s.heap.objs.size
  funs : s.heap.FunFrames base outer
  frf : ∀ b ∈ frs outer, H b = none
  hok : HOk P w H s.heap
  bare : AllBare s.gens
noncomputable def CE (outer : List Env) (P : Program) (w : World) (H : Hp) (s : Shared) (Q : VK) (u : Value) (s' : Shared) : Prop :=
  ∃ v H', s'.os = s.os ∧ AllBare s'.gens ∧ Un (frs outer) [] H H' s.heap s'.heap ∧ HOk P w H' s'.heap ∧ RelV v u ∧ Q v H'
noncomputable def CR (CX : CXT) (outer : List Env) (P : Program) (w : World) (H : Hp) (s : Shared) (Q : VK) (E : XK) (r : Result) (s' : Shared) : Prop :=
  match r with
  | .ok (.ret u) => CE outer P w H s Q u s'
  | .ok _ => False
  | .error e => CX outer H s E e s'
structure FnOk (P : Program) (w : World) (K : PySem.W.Frag) (mg : Str → Option Value) (base : Heap) (CX : CXT) (k : Nat) (f : Addr) (fd : FuncData) (ps : List Str) (sp : Sp) : Prop where
  len : ∀ vs H Q E, sp vs H Q E → vs.length = ps.length
  run : ∀ (A : Around) (outer : List Env) (s : Shared) (H : Hp) (args : Args) (us : List Value) (vs : List V) (Q : VK) (E : XK), Room k A → Env0 P w K mg base A outer s H → BindsTo s fd args (ps.zip us) → Vals vs us → sp vs H Q E →
    codeAny (model P w) A (.call (.ref f) args) (CR CX outer P w H s Q E) s

theorem Env0.make {P : Program} {w : World} {K : PySem.W.Frag} {mg : Str → Option Value} {base : Heap} {A : Around} {outer : List Env} {s : Shared} {H : Hp} (e : Env0 P w K mg base A outer s H) (C : Addr) (us : List Value) (kw : List (Str × Value)) :
    Env0 P w K mg base (A.under (.builtin "type.__call__" ⟨.ref C :: us, kw⟩)) outer s H := ⟨by first | exact e.frames | (simpa [Around.under, Code.envs, Code.isFrame, pushEnvs] using e.frames), e.mod, e.bs, e.bsz, e.funs, e.frf, e.hok, e.bare⟩

section
variable {X : Cx} {pins : List (Addr × Obj)} {σ : St} {H : Hp} {s s' : Shared}
theorem Inv.env0 (I : Inv X pins σ H s) : Env0 X.prog X.w X.K X.mg X.base X.A X.stack s H :=
  ⟨I.ok.frames, I.ok.mod, I.bs, Nat.le_trans I.ok.bsz I.sz, I.stack, I.stkFree, I.hok, I.bare⟩
theorem Inv.after {Q : VK} {u : Value} (I : Inv X pins σ H s) (h : CE X.stack X.prog X.w H s Q u s') : EP X pins σ Q u s' := by
  obtain ⟨v, H', os, bare, un, hok, r, q⟩ := h
  obtain ⟨hh, g, d, t, os'⟩ := s'
  obtain rfl : os' = s.os := os
  exact ⟨v, H', I.call (h' := hh) (g' := g) (d' := d) (t' := t) (ch := []) un hok bare (fun b z => absurd z (by simp)), r, q⟩
end

noncomputable def tCall (sp : Sp) (dvs : List V) (E : XK) (t : TA) : TE := fun σ H Q => t σ H fun vs H1 => sp (vs ++ dvs) H1 Q E
inductive J_tMeth (C : Addr) (m : Str) (sp : Sp) (dvs : List V) (E : XK) (t : TA) (σ : St) (Q : VK) (x : V) (H1 : Hp) : Prop
  | mk : ∀ a dx fs, (x = .ref a) → (H1 a = some (.ins C dx fs)) → (fs.lookup m = none) → (t σ H1 fun vs H2 => sp (x :: (vs ++ dvs)) H2 Q E) → J_tMeth C m sp dvs E t σ Q x H1
noncomputable def tMeth (C : Addr) (m : Str) (sp : Sp) (dvs : List V) (E : XK) (ta : TE) (t : TA) : TE := fun σ H Q => ta σ H fun x H1 => J_tMeth C m sp dvs E t σ Q x H1
noncomputable def tMake (C : Addr) (sp : Sp) (dvs : List V) (E : XK) (t : TA) : TE := fun σ H Q => t σ H fun vs H1 => ∀ x dx, H1 x = none → H1 dx = none → dx ≠ x →
  sp (.ref x :: (vs ++ dvs)) (upd (upd H1 dx (.own x)) x (.ins C dx [])) (fun v H2 => v = .non ∧ Q (.ref x) H2) E

noncomputable def Binds (K : PySem.W.Frag) (fd : FuncData) (ps : List Str) (ds : List Value) : Prop :=
  ∀ (s : Shared) (us : List Value), K.In s.heap → (us ++ ds).length = ps.length → BindsTo s fd ⟨us, []⟩ (ps.zip (us ++ ds))
theorem Binds.all {K : PySem.W.Frag} {fd : FuncData} {ps : List Str} (h : ∀ us : List Value, us.length = ps.length → bindArgs fd ⟨us, []⟩ = pure (ps.zip us)) : Binds K fd ps [] := fun s us _ hl => by
  rw [List.append_nil] at hl ⊢
  exact .of_eq (h us hl)

noncomputable def Passes (CX : CXT) (X : Cx) (E : XK) : Prop := ∀ (pins : List (Addr × Obj)) (σ : St) (H : Hp) (s : Shared) (e : Value) (s' : Shared), Inv X pins σ H s → CX X.stack H s E e s' → X.xe e s'

section
variable {X : Cx} {CX : CXT} {k : Nat} {f C : Addr} {fd : FuncData} {ps : List Str} {sp : Sp} {dvs : List V} {ds : List Value} {E : XK} {x m : Str} {p pos apos : Pos} {e o : Expr} {es : List Expr} {ta : TE} {t : TA}

theorem run_fn {pins : List (Addr × Obj)} {σ : St} {H : Hp} {s : Shared} {Q : VK} {us : List Value} {vs : List V} (F : FnOk X.prog X.w X.K X.mg X.base CX k f fd ps sp) (hr : Room k X.A) (hb : Binds X.K fd ps ds) (hd : Vals dvs ds) (hx : Passes CX X E)
    (I : Inv X pins σ H s) (r : Vals vs us) (h : sp (vs ++ dvs) H Q E) : wpAny (model X.prog X.w) X.A (call (.ref f) us) (EP X pins σ Q) X.xe s := by
  have r2 : Vals (vs ++ dvs) (us ++ ds) := r.append hd
  have hl : (us ++ ds).length = ps.length := by rw [← r2.length]; exact F.len _ _ _ _ h
  refine wpAny_call (codeAny_mono (F.run X.A X.stack s H ⟨us, []⟩ (us ++ ds) (vs ++ dvs) Q E hr I.env0 (hb s us I.kIn hl) r2 h) fun r s' hq => ?_)
  cases r with
  | error e => exact hx pins σ H s e s' I hq
  | ok fl =>
    cases fl with
    | ret u => exact I.after hq
    | next => exact False.elim hq
    | brk => exact False.elim hq
    | cont => exact False.elim hq

theorem pe_call (F : FnOk X.prog X.w X.K X.mg X.base CX k f fd ps sp) (hr : Room k X.A) (hg : Gl X x) (hm : X.mg x = some (.ref f)) (hk : PySem.W.keepIn X.K (.ref f) = true) (hb : Binds X.K fd ps ds) (hd : Vals dvs ds) (hx : Passes CX X E)
    (ha : PA X (e :: es) t) (hdb : (x == ("__debug__" : Str)) = false := by decide) (he : starEach (e :: es) X.env = (false, eval e X.env) :: starEach es X.env := by rfl) (hpl : (backTo pos (starEach es X.env)).any (·.1) = false := by rfl) :
    PE X (.Call (.Name x p) (e :: es) [] pos) (tCall sp dvs E t) := by
  intro pins s σ H Q I h
  refine wpAny_Call_Name_kw (ld_glob I hg hm ?_ hdb)
  refine PySem.W.callWith_K (h₀ := X.base) I.ok.mod.kin hk (thn (ha pos pins s σ H _ I h) fun us s1 ⟨vs, H1, I1, r, q⟩ => ⟨I1.kIn, ?_⟩) he hpl
  exact run_fn F hr hb hd hx I1 r q

theorem pe_meth {pl : Sem Bool} (he : PE X o ta) (c : Cls X.K C) (hm : Meth X.K C m f) (F : FnOk X.prog X.w X.K X.mg X.base CX k f fd ps sp) (hr : Room k X.A) (hb : Binds X.K fd ps ds) (hd : Vals dvs ds) (hx : Passes CX X E) (ha : PA X (e :: es) t)
    (hst : starEach (e :: es) X.env = (false, eval e X.env) :: starEach es X.env := by rfl) (hpl : (backTo pos (starEach es X.env)).any (·.1) = false := by rfl)
    (ht : eval (.Call (.Attribute o m apos) (e :: es) [] pos) X.env = (do
      let ov ← eval o X.env
      standAt apos.atName
      let (f, first) ← holding [ov] (getMethod ov m pl)
      callWith pos f first (backTo pos (starEach (e :: es) X.env)) (backToKw pos (keywordEach [] X.env))) := by rfl) :
    PE X (.Call (.Attribute o m apos) (e :: es) [] pos) (tMeth C m sp dvs E ta t) := by
  intro pins s σ H Q I h
  refine PySem.W.methodCall_KW (pl := pl) (thn (he pins s σ H _ I h) fun u s1 ⟨x, H1, I1, rx, a, dx, fs, ex, ea, l, q⟩ => ?_) ht
  subst ex
  obtain rfl : u = Value.ref a := rx
  refine getmeth_ok I1 ea c hm l ?_
  refine PySem.W.callWith_K (first := [.ref a]) (h₀ := X.base) I.ok.mod.kin hm.kp (thn (ha pos pins s1 σ H1 _ I1 q) fun us s2 ⟨vs, H2, I2, r, q2⟩ => ⟨I2.kIn, ?_⟩) hst hpl
  exact run_fn (us := .ref a :: us) (vs := .ref a :: vs) F hr hb hd hx I2 (.cons rfl r) q2

structure Mk (K : PySem.W.Frag) (C f : Addr) : Prop where
  makes : PySem.W.makesIn K C = true
  init : PySem.W.findIn K (.ref C) "__init__" = some (some (.ref f))
  fn : PySem.W.isFn K (.ref f) = true
  kp : PySem.W.keepIn K (.ref C) = true

theorem run_make {pins : List (Addr × Obj)} {σ : St} {H : Hp} {s : Shared} {Q : VK} {us : List Value} {vs : List V} (M : Mk X.K C f) (F : FnOk X.prog X.w X.K X.mg X.base CX k f fd ps sp) (hr : Room (k + 1) X.A) (hb : Binds X.K fd ps ds) (hd : Vals dvs ds)
    (hx : Passes CX X E) (I : Inv X pins σ H s) (r : Vals vs us)
    (h : ∀ x dx, H x = none → H dx = none → dx ≠ x → sp (.ref x :: (vs ++ dvs)) (upd (upd H dx (.own x)) x (.ins C dx [])) (fun v H2 => v = .non ∧ Q (.ref x) H2) E) :
    wpAny (model X.prog X.w) X.A (call (.ref C) us) (EP X pins σ Q) X.xe s := by
  have hq := h (s.heap.objs.size + 1) s.heap.objs.size (I.hok.fresh (Nat.le_succ _)) (I.hok.fresh (Nat.le_refl _)) (Nat.ne_of_lt (Nat.lt_succ_self _))
  have I2 := Inv.made (C := C) I
  have r2 : Vals (V.ref (s.heap.objs.size + 1) :: (vs ++ dvs)) (Value.ref (s.heap.objs.size + 1) :: (us ++ ds)) := .cons rfl (r.append hd)
  have hl : (Value.ref (s.heap.objs.size + 1) :: us ++ ds).length = ps.length := by
    have e := r2.length
    rw [F.len _ _ _ _ hq] at e
    exact e.symm
  refine wpAny_call (make_map (f := f) I.kIn M.makes M.init (beq_iff_eq.mp M.fn) (codeAny_mono (F.run _ X.stack _ _ ⟨Value.ref (s.heap.objs.size + 1) :: us, []⟩ (Value.ref (s.heap.objs.size + 1) :: (us ++ ds)) _ _ E (hr.make C us [])
    (I2.env0.make C us []) (hb _ (Value.ref (s.heap.objs.size + 1) :: us) I2.kIn hl) r2 hq) fun r s' hq' => ?_))
  cases r with
  | error e => exact hx pins σ _ _ e s' I2 hq'
  | ok fl =>
    cases fl with
    | ret u =>
      obtain ⟨v, H', I3, rv, ev, q3⟩ := I2.after hq'
      subst ev
      exact ⟨rv, ⟨V.ref (s.heap.objs.size + 1), H', I3, rfl, q3⟩⟩
    | next => exact False.elim hq'
    | brk => exact False.elim hq'
    | cont => exact False.elim hq'
theorem pe_make (M : Mk X.K C f) (F : FnOk X.prog X.w X.K X.mg X.base CX k f fd ps sp) (hr : Room (k + 1) X.A) (hg : Gl X x) (hm : X.mg x = some (.ref C)) (hb : Binds X.K fd ps ds) (hd : Vals dvs ds) (hx : Passes CX X E)
    (ha : PA X (e :: es) t) (hdb : (x == ("__debug__" : Str)) = false := by decide) (he : starEach (e :: es) X.env = (false, eval e X.env) :: starEach es X.env := by rfl) (hpl : (backTo pos (starEach es X.env)).any (·.1) = false := by rfl) :
    PE X (.Call (.Name x p) (e :: es) [] pos) (tMake C sp dvs E t) := by
  intro pins s σ H Q I h
  refine wpAny_Call_Name_kw (ld_glob I hg hm ?_ hdb)
  refine PySem.W.callWith_K (h₀ := X.base) I.ok.mod.kin M.kp (thn (ha pos pins s σ H _ I h) fun us s1 ⟨vs, H1, I1, r, q⟩ => ⟨I1.kIn, ?_⟩) he hpl
  exact run_make M F hr hb hd hx I1 r q
end

section
variable {X : Cx} {CX : CXT} {k : Nat} {f C : Addr} {fd : FuncData} {ps ks : List Str} {sp : Sp} {E : XK} {x m : Str} {p pos apos kpos : Pos} {e o : Expr} {es : List Expr} {kws : List Keyword} {te ta : TE} {t tk : TA} {nm : Option Str}

variable {g : List Value → List Value → List Value} {gV : List V → List V → List V}
end

structure FnScope (N P : List Str) (sc : Scope) : Prop where
  kind : sc.kind = .function
  co : sc.isCoroutine = false
  gen : sc.isGenerator = false
  nd : N.Nodup
  pre : N.take P.length = P
  par : ∀ x ∈ P, sc.names.lookup x = some .local ∨ sc.names.lookup x = some .cell
  nofree : ∀ y ∈ sc.names, y.2 ≠ .free

theorem bindL_out {kindOf : Str → Option NameKind} {x : Str} : ∀ {binds : List (Str × Value)} {m : Str → Option Value}, (∀ v, (x, v) ∉ binds) → bindL kindOf binds m x = m x
  | [], _, _ => rfl
  | (n, v) :: r, m, h => by
    unfold bindL
    rw [bindL_out fun w hw => h w (List.mem_cons_of_mem _ hw)]
    split
    · have : x ≠ n := by rintro rfl; exact h v List.mem_cons_self
      simp [this]
    · rfl
theorem bindC_out {kindOf : Str → Option NameKind} {x : Str} : ∀ {binds : List (Str × Value)} {m : Str → Option Value}, (∀ v, (x, v) ∉ binds) → bindC kindOf binds m x = m x
  | [], _, _ => rfl
  | (n, v) :: r, m, h => by
    unfold bindC
    rw [bindC_out fun w hw => h w (List.mem_cons_of_mem _ hw)]
    split
    · rfl
    · have : x ≠ n := by rintro rfl; exact h v List.mem_cons_self
      simp [this]
theorem bindL_get {kindOf : Str → Option NameKind} {x : Str} {v : Value} : ∀ {P : List Str} {vs : List Value} {i : Nat} {m : Str → Option Value}, P.Nodup → P[i]? = some x → vs[i]? = some v → kindOf x = some .local →
    bindL kindOf (P.zip vs) m x = some v
  | [], _, _, _, _, h, _, _ => by simp at h
  | _ :: _, [], _, _, _, _, h, _ => by simp at h
  | p :: P, w :: vs, 0, m, nd, h1, h2, hk => by
    simp at h1 h2; subst h1; subst h2
    show bindL kindOf ((p, w) :: P.zip vs) m p = _
    unfold bindL
    rw [bindL_out fun v hv => (List.nodup_cons.mp nd).1 (List.of_mem_zip hv).1, if_pos hk]
    simp
  | p :: P, w :: vs, i + 1, m, nd, h1, h2, hk => by
    show bindL kindOf ((p, w) :: P.zip vs) m x = _
    unfold bindL
    exact bindL_get (i := i) (List.nodup_cons.mp nd).2 (by simpa using h1) (by simpa using h2) hk
theorem bindC_get {kindOf : Str → Option NameKind} {x : Str} {v : Value} : ∀ {P : List Str} {vs : List Value} {i : Nat} {m : Str → Option Value}, P.Nodup → P[i]? = some x → vs[i]? = some v → kindOf x ≠ some .local →
    bindC kindOf (P.zip vs) m x = some v
  | [], _, _, _, _, h, _, _ => by simp at h
  | _ :: _, [], _, _, _, _, h, _ => by simp at h
  | p :: P, w :: vs, 0, m, nd, h1, h2, hk => by
    simp at h1 h2; subst h1; subst h2
    show bindC kindOf ((p, w) :: P.zip vs) m p = _
    unfold bindC
    rw [bindC_out fun v hv => (List.nodup_cons.mp nd).1 (List.of_mem_zip hv).1, if_neg hk]
    simp
  | p :: P, w :: vs, i + 1, m, nd, h1, h2, hk => by
    show bindC kindOf ((p, w) :: P.zip vs) m x = _
    unfold bindC
    exact bindC_get (i := i) (List.nodup_cons.mp nd).2 (by simpa using h1) (by simpa using h2) hk

noncomputable def start (N : List Str) (vs : List V) : St := vs.map some ++ List.replicate (N.length - vs.length) none

noncomputable def cxOf (CX : CXT) (P : Program) (w : World) (K : PySem.W.Frag) (mg : Str → Option Value) (base : Heap) (N : List Str) (qual : Str) (scope : Scope) (f : Addr) (cd : Value) (A : Around) (outer : List Env) (s : Shared) (H : Hp) (E : XK) : Cx where
  prog := P
  w := w
  K := K
  mg := mg
  base := base
  A := A.deeper (envOfC qual scope s.heap.objs.size f cd)
  N := N
  s₀ := s
  H₀ := H
  env := envOfC qual scope s.heap.objs.size f cd
  outer := outer
  stack := envOfC qual scope s.heap.objs.size f cd :: outer
  ex := []
  calm := true
  fn := fun _ => true
  pn := []
  xe := fun e s' => wpAny (model P w) (A.deeper (envOfC qual scope s.heap.objs.size f cd)) (leaving (envOfC qual scope s.heap.objs.size f cd) e) (fun _ s'' => CX outer H s E e s'') (fun e' s'' => CX outer H s E e' s'') s'

theorem cell_has {sc : Scope} {n : Nat} {x : Str} (h : sc.names.lookup x = some .cell) : ∃ c, (cellsFrom n sc.names []).lookup x = some c := by
  have q := PySem.W.cellsFrom_some sc.names n [] (.inl h)
  exact Option.isSome_iff_exists.mp q

theorem inv_start {CX : CXT} {P : Program} {w : World} {K : PySem.W.Frag} {mg : Str → Option Value} {base : Heap} {N ps : List Str} {qual : Str} {scope : Scope} {f : Addr} {cd : Value} {A : Around} {outer : List Env} {s s1 : Shared} {H : Hp} {E : XK} {us : List Value} {vs : List V}
    (S : FnScope N ps scope) (hd : A.handled = none) (e0 : Env0 P w K mg base A outer s H) (hl : vs.length = ps.length) (r : Vals vs us)
    (x : InCallC s s.heap.objs.size (bindL (envOfC qual scope s.heap.objs.size f cd).kindOf (ps.zip us) fun _ => none) (cellsFrom (s.heap.objs.size + 1) scope.names []) (bindC (envOfC qual scope s.heap.objs.size f cd).kindOf (ps.zip us) fun _ => none) s1) :
    Inv (cxOf CX P w K mg base N qual scope f cd A outer s H E) [] (start N vs) H s1 := by
  have hpl : ps.length ≤ N.length := by have := congrArg List.length S.pre; rw [List.length_take] at this; omega
  obtain ⟨h1, tk, rfl, hk⟩ := x.done
  have noA : ∀ b : Addr, b ∉ (cxOf CX P w K mg base N qual scope f cd A outer s H E).ex := fun b z => absurd (show b ∈ ([] : List Addr) from z) (by simp)
  refine ⟨⟨e0.mod, S.kind, rfl, rfl, Nat.le_refl _, fun y z c h1 h2 => ?_, fun y hy => ?_, fun y c _ h => ?_, fun _ => hd, Around.frames_deeper e0.frames, .inr ⟨rfl, rfl⟩, fun b z => absurd z (noA b), e0.bs, e0.bsz, fun b _ _ => noA b, fun b z => absurd z (noA b), e0.funs, e0.frf⟩,
    rfl, e0.bare, Un.kept hk, ⟨_, x.toInCall.ns, fun i y v h1 h2 h3 => ?_⟩, fun y c h => ⟨_, x.cell y c h⟩, e0.hok.fresh (Nat.le_refl _), fun y c h => ?_, fun p hp => absurd (show p ∈ ([] : List (Addr × Obj)) from hp) (by simp), e0.hok.kept hk, ?_⟩
  · exact name_of_addr x.apart (PySem.mem_of_lookup h1) (PySem.mem_of_lookup h2)
  · have hy : scope.names.lookup y = some .cell ∨ scope.names.lookup y = some .free := hy
    rcases hy with hy | hy
    · exact cell_has hy
    · exact absurd rfl (S.nofree _ (PySem.mem_of_lookup hy))
  · exact Nat.le_of_lt (x.above y c (PySem.mem_of_lookup h))
  · have hi : i < vs.length := by
      unfold start at h2
      by_cases hi : i < vs.length
      · exact hi
      · rw [List.getElem?_append_right (by simpa using hi)] at h2
        rw [List.getElem?_replicate] at h2
        split at h2 <;> cases h2
    have ha : vs[i]? = some v := by
      unfold start at h2
      rw [List.getElem?_append_left (by simpa using hi), List.getElem?_map] at h2
      cases e : vs[i]? with
      | none => rw [e] at h2; cases h2
      | some a => rw [e] at h2; cases h2; rfl
    obtain ⟨u, hu, rv⟩ := r.get ha
    have hp : ps[i]? = some y := by
      rw [← S.pre, List.getElem?_take_of_lt (by omega)]; exact h1
    have ndP : ps.Nodup := by rw [← S.pre]; exact S.nd.sublist (List.take_sublist _ _)
    refine ⟨u, rv, ?_⟩
    rcases S.par y (List.mem_of_getElem? hp) with k | k
    · exact .inl ⟨k, bindL_get ndP hp hu k⟩
    · obtain ⟨c, e⟩ := cell_has (n := s.heap.objs.size + 1) k
      refine .inr ⟨.inl k, c, e, ?_⟩
      have q := x.cell y c e
      rw [bindC_get ndP hp hu (by show scope.names.lookup y ≠ _; rw [k]; decide)] at q
      exact q
  · exact e0.hok.fresh (Nat.le_of_lt (x.above y c (PySem.mem_of_lookup h)))
  · unfold start
    show _ = N.length
    rw [List.length_append, List.length_map, List.length_replicate]
    omega

theorem fn_of {CX : CXT} {P : Program} {w : World} {K : PySem.W.Frag} {mg : Str → Option Value} {base : Heap} {k : Nat} {f : Addr} {name qual : Str} {params : Arguments} {body : List Stmt} {scope : Scope} {dV kV doc pm cdv ct oc : Value} {an od : Option Addr}
    {osl : Array (Option Value)} {N ps : List Str} {sp : Sp} (lk : K.lookup f = some ⟨oc, od, .func (PySem.W.fnOf name qual params body scope dV kV doc pm an cdv ct), osl⟩) (hcd : PySem.W.codeIn K cdv qual = true) (S : FnScope N ps scope)
    (len : ∀ vs H Q E, sp vs H Q E → vs.length = ps.length)
    (hbody : ∀ (A : Around) (outer : List Env) (s : Shared) (H : Hp) (vs : List V) (Q : VK) (E : XK), Room k (A.deeper (envOfC qual scope s.heap.objs.size f cdv)) → sp vs H Q E →
      ∃ t, PSs (cxOf CX P w K mg base N qual scope f cdv A outer s H E) body t ∧ t { nx := fun _ H' => Q .non H', rt := Q } (start N vs) H) :
    FnOk P w K mg base CX (k + 1) f (PySem.W.fnOf name qual params body scope dV kV doc pm an cdv ct) ps sp := by
  refine ⟨len, fun A outer s H args us vs Q E hr e0 hb r hsp => ?_⟩
  have hl := len _ _ _ _ hsp
  have KX : K.In s.heap := e0.mod.kin.keeps fun b o e => (e0.bs b o e).1
  have lim : s.heap.NoLimit := e0.mod.nolimit.keeps fun b o e => (e0.bs b o e).1
  have hkind : ∀ y ∈ ps.zip us, scope.names.lookup y.1 = some .local ∨ (scope.names.lookup y.1 = some .cell ∧ ((cellsFrom (s.heap.objs.size + 1) scope.names []).lookup y.1).isSome = true) := fun ⟨n, v⟩ hy => by
    rcases S.par n (List.of_mem_zip hy).1 with q | q
    · exact .inl q
    · exact .inr ⟨q, PySem.W.cellsFrom_some _ _ _ (.inl q)⟩
  refine codeAny_call_function hr.depth (KX _ _ lk) rfl S.co S.gen rfl (PySem.W.codeRec_of KX hcd) (hb _ _ _ _ ?_)
  refine wpAny_newFunctionEnv_cells S.kind hkind fun env he s1 x => ?_
  subst he
  refine ⟨lim.keeps x.toInCall.keep, codeAny_func ?_⟩
  obtain ⟨t, ht, hq⟩ := hbody A outer s H vs Q E (hr.deeper _) hsp
  have I : Inv (cxOf CX P w K mg base N qual scope f cdv A outer s H E) [] (start N vs) H s1 := inv_start S hr.hd e0 hl r x
  refine wpAny_mono (ht [] s1 (start N vs) H _ I hq) (fun fl s' hs => ?_) fun e s' hs => hs
  have fin : ∀ {σ' : St} {H' : Hp} {v : V} {u : Value}, Inv (cxOf CX P w K mg base N qual scope f cdv A outer s H E) [] σ' H' s' → RelV v u → Q v H' → CE outer P w H s Q u s' :=
    fun {σ' H' v u} J rv q => ⟨v, H', J.os, J.bare, J.base, J.hok, rv, q⟩
  cases fl with
  | ret u =>
    obtain ⟨v, σ', H', J, rv, q⟩ := hs
    exact fin J rv q
  | next =>
    obtain ⟨σ', H', J, q⟩ := hs
    exact fin (v := V.non) (u := Value.none) J rfl q
  | brk =>
    obtain ⟨_, _, _, q⟩ := hs
    exact False.elim q
  | cont =>
    obtain ⟨_, _, _, q⟩ := hs
    exact False.elim q
end L2

namespace L2
open PySem PySem.Spec PyProof.Rows
section
variable {X : Cx} {x : Str} {p pos : Pos} {e : Expr} {es : List Expr} {t : TA} {id T : String} {r : List V → Hp → VK → Prop}

noncomputable def tCB (r : List V → Hp → VK → Prop) (t : TA) : TE := fun σ H Q => t σ H fun vs H1 => r vs H1 Q
theorem pe_callB (hc : CallR X (.builtin id) r) (hg : Gl X x) (hm : X.mg x = none) (hv : bootBuiltins x = some (.builtin id)) (ha : PA X (e :: es) t) (hn : x ≠ "__name__" := by decide) (hdb : (x == ("__debug__" : Str)) = false := by decide)
    (he : starEach (e :: es) X.env = (false, eval e X.env) :: starEach es X.env := by rfl) (hpl : (backTo pos (starEach es X.env)).any (·.1) = false := by rfl) : PE X (.Call (.Name x p) (e :: es) [] pos) (tCB r t) := by
  intro pins s σ H Q I h
  refine wpAny_Call_Name_kw (ld_blt I hg hm hv ?_ hn hdb)
  exact PyProof.Rows.callWith_builtin1 (thn (ha pos pins s σ H _ I h) fun us s1 ⟨vs, H1, I1, r1, q1⟩ => hc pins s1 σ H1 vs us Q I1 r1 q1) he hpl
theorem pe_callTy (hc : CallR X (.type T) r) (hg : Gl X x) (hm : X.mg x = none) (hv : bootBuiltins x = some (.type T)) (ha : PA X (e :: es) t) (hn : x ≠ "__name__" := by decide) (hdb : (x == ("__debug__" : Str)) = false := by decide)
    (he : starEach (e :: es) X.env = (false, eval e X.env) :: starEach es X.env := by rfl) (hpl : (backTo pos (starEach es X.env)).any (·.1) = false := by rfl) : PE X (.Call (.Name x p) (e :: es) [] pos) (tCB r t) := by
  intro pins s σ H Q I h
  refine wpAny_Call_Name_kw (ld_blt I hg hm hv ?_ hn hdb)
  exact PyProof.Rows.callWith_type1 (thn (ha pos pins s σ H _ I h) fun us s1 ⟨vs, H1, I1, r1, q1⟩ => hc pins s1 σ H1 vs us Q I1 r1 q1) he hpl
end
end L2

namespace HT
open PySem PyProof.Rows

noncomputable def lexLt : List Int → List Int → Bool
  | [], [] => false
  | [], _ :: _ => true
  | _ :: _, [] => false
  | x :: xs, y :: ys => if x = y then lexLt xs ys else decide (x < y)
theorem lexLt_cons (x y : Int) (xs ys : List Int) : lexLt (x :: xs) (y :: ys) = if x = y then lexLt xs ys else decide (x < y) := rfl
theorem lexLt_cons_nil (x : Int) (xs : List Int) : lexLt (x :: xs) [] = false := rfl

theorem eqAt_int (A : Around) (s : Shared) (a : Int) (t : Tok) (c : Int) (u : Tok) : ∃ e, SeqAt.EqAt A s (.int a t) (.int c u) e ∧ (e = true ↔ a = c) :=
  ⟨(a == c), SeqAt.EqAt.int_int a t c u, by simp⟩
theorem rcLt_int (A : Around) (s : Shared) (a : Int) (t : Tok) (c : Int) (u : Tok) (prog : Program) (w : World) (E : Value → Shared → Prop) (Q : Value → Shared → Prop) (h : Q (.bool (decide (a < c))) s) :
    wpAny (model prog w) A (richCompare .Lt (.int a t) (.int c u)) Q E s :=
  (PyProof.Rows.lt_int h : wpAny (model prog w) A (compareOp .Lt (.int a t) (.int c u)) Q E s)

section
open PySem.SeqAt
open PySem.AutoSeq1 (wpAny_loadPart')
open PySem.MeetsSeq PySem.MeetsSeq2 PySem.MeetsSeq3

end

section
variable {prog : Program} {w : World} {A : Around} {E : Value → Shared → Prop} {s : Shared}



noncomputable def sIx (n d : Nat) : Option Int → Nat
  | none => d
  | some v => if v < 0 then (v + (n : Int)).toNat else min v.toNat n
theorem sIx_none (n d : Nat) : sIx n d none = d := rfl
theorem sIx_nat (n d k : Nat) : sIx n d (some (k : Int)) = min k n := by
  show (if (k : Int) < 0 then ((k : Int) + (n : Int)).toNat else min (k : Int).toNat n) = min k n
  rw [if_neg (by omega), Int.toNat_natCast]
theorem sIx_le (n d : Nat) (hd : d ≤ n) (o : Option Int) : sIx n d o ≤ n := by
  cases o with
  | none => exact hd
  | some v =>
    show (if v < 0 then (v + (n : Int)).toNat else min v.toNat n) ≤ n
    by_cases hv : v < 0
    · rw [if_pos hv]; omega
    · rw [if_neg hv]; exact Nat.min_le_right _ _

end
end HT

namespace L2
open PySem PySem.Spec PyProof.Rows

noncomputable abbrev TO := St → Hp → (Option Int → Hp → Prop) → Prop
noncomputable def PO (X : Cx) (e : Option Expr) (t : TO) : Prop :=
  ∀ (pins : List (Addr × Obj)) (s : Shared) (σ : St) (H : Hp) (Q : Option Int → Hp → Prop), Inv X pins σ H s → t σ H Q →
    wpAny (model X.prog X.w) X.A (evalPart e X.env) (fun u s' => ∃ o H', Inv X pins σ H' s' ∧ IsPart u o ∧ Q o H') X.xe s
noncomputable def tNoPart : TO := fun _ H Q => Q none H
inductive J_tPart (Q : Option Int → Hp → Prop) (x : V) (H1 : Hp) : Prop
  | mk : ∀ i, (x = .int i) → (Q (some i) H1) → J_tPart Q x H1
noncomputable def tPart (t : TE) : TO := fun σ H Q => t σ H fun x H1 => J_tPart Q x H1

theorem intsAre_of {ns : List Int} : ∀ {us : List Value}, Vals (ns.map V.int) us → IntsAre us ns := by
  induction ns with
  | nil => intro us r; rw [List.map_nil] at r; cases r; exact .nil
  | cons n ns ih =>
    intro us r
    rw [List.map_cons] at r
    cases r with
    | cons r1 r2 =>
      obtain ⟨t, e⟩ := r1
      subst e
      exact .cons n t (ih r2)

section
variable {X : Cx} {e : Expr} {te : TE} {lo hi : Option Expr} {tl th : TO} {pos p2 : Pos}

theorem po_none : PO X none tNoPart := by
  intro pins s σ H Q I h
  rw [evalPart_none]
  exact wpAny_pure ⟨none, H, I, .none, h⟩
theorem po_some (h : PE X e te) : PO X (some e) (tPart te) := by
  intro pins s σ H Q I hw
  rw [evalPart_some]
  refine thn (h pins s σ H _ I hw) fun u s1 ⟨x, H1, I1, r1, q1⟩ => ?_
  obtain ⟨i, rfl, q⟩ := q1
  obtain ⟨t, rfl⟩ := r1
  exact ⟨some i, H1, I1, .int i t, q⟩

noncomputable def SlR (X : Cx) (r : V → Option Int → Option Int → Hp → VK → Prop) : Prop :=
  ∀ (pins : List (Addr × Obj)) (s : Shared) (σ : St) (H : Hp) (x : V) (v vl vu : Value) (lo hi : Option Int) (sl : Addr) (Q : VK), Inv X pins σ H s → RelV x v → s.heap.IsSliceOf sl vl vu .none → IsPart vl lo → IsPart vu hi → r x lo hi H Q →
    ∃ T id, typeLookup (.type T) "__getitem__" = pure (some (.builtin id)) ∧ s.TypeIs v T ∧ wpAny (model X.prog X.w) X.A (getItem v (.ref sl)) (EP X pins σ Q) X.xe s
noncomputable def tSl (r : V → Option Int → Option Int → Hp → VK → Prop) (te : TE) (tl th : TO) : TE := fun σ H Q => te σ H fun x H1 => tl σ H1 fun l H2 => th σ H2 fun u H3 => r x l u H3 Q
theorem pe_slice {r : V → Option Int → Option Int → Hp → VK → Prop} (hr : SlR X r) (he : PE X e te) (hl : PO X lo tl) (hu : PO X hi th) : PE X (.Subscript e (.Slice lo hi none p2) pos) (tSl r te tl th) := by
  intro pins s σ H Q I h
  refine Subscript_ (thn (he pins s σ H _ I h) fun v s1 ⟨x, H1, I1, r1, q1⟩ => ?_)
  refine wpAny_Slice (thn (hl pins s1 σ H1 _ I1 q1) fun vl s2 ⟨l, H2, I2, pl, q2⟩ => thn (hu pins s2 σ H2 _ I2 q2) fun vu s3 ⟨u, H3, I3, pu, q3⟩ => ?_)
  rw [evalPart_none]
  refine wpAny_pure ?_
  have I4 : Inv X pins σ H3 { s3 with heap := s3.heap.push { cls := .type "slice", data := .fields #[vl, vu, .none] } } := I3.kept (t' := s3.toks) fun b ob q => Heap.get?_push_of_some _ q
  obtain ⟨T, id, hT, ht, hg⟩ := hr pins { s3 with heap := s3.heap.push { cls := .type "slice", data := .fields #[vl, vu, .none] } } σ H3 x v vl vu l u s3.heap.objs.size Q I4 r1 (Heap.IsSliceOf.new ..) pl pu q3
  show wpAny (model X.prog X.w) X.A (subscriptTail e (.Slice lo hi none p2) v (.ref s3.heap.objs.size)) (EP X pins σ Q) X.xe { s3 with heap := s3.heap.push { cls := .type "slice", data := .fields #[vl, vu, .none] } }
  exact tail_any (ops := [.ref s3.heap.objs.size, v]) ht hT hg (by with_unfolding_all rfl)

noncomputable def cutV (xs : List V) (lo hi : Option Int) : List V := (xs.drop (HT.sIx xs.length 0 lo)).take (HT.sIx xs.length xs.length hi - HT.sIx xs.length 0 lo)
theorem cutV_length (xs : List V) (lo hi : Option Int) : (cutV xs lo hi).length ≤ xs.length := by
  unfold cutV
  rw [List.length_take, List.length_drop]
  omega

end
end L2

namespace L2
open PySem PySem.Spec PyProof.Rows

noncomputable def ixN (n : Nat) (i : Int) : Option Nat := if 0 ≤ i then (if i < n then some i.toNat else none) else if -(n : Int) ≤ i then some (i + n).toNat else none
noncomputable def atI {α : Type} (xs : List α) (i : Int) : Option α := (ixN xs.length i).bind fun j => xs[j]?
theorem ixN_seq {n : Nat} {i : Int} {j : Nat} (h : ixN n i = some j) : seqIndex? i n = some j ∧ j < n ∧ -(n : Int) ≤ i ∧ i < n := by
  unfold ixN at h
  by_cases h0 : 0 ≤ i
  · rw [if_pos h0] at h
    by_cases h1 : i < n
    · rw [if_pos h1] at h
      have e : i.toNat = j := Option.some.inj h
      exact ⟨by rw [seqIndex_of h0 h1, e], by omega, by omega, h1⟩
    · rw [if_neg h1] at h; cases h
  · rw [if_neg h0] at h
    by_cases h1 : -(n : Int) ≤ i
    · rw [if_pos h1] at h
      have e : (i + n).toNat = j := Option.some.inj h
      exact ⟨by rw [seqIndex_neg (by omega) h1, e], by omega, h1, by omega⟩
    · rw [if_neg h1] at h; cases h
theorem atI_get {α : Type} {xs : List α} {i : Int} {v : α} (h : atI xs i = some v) : ∃ j, seqIndex? i xs.length = some j ∧ xs[j]? = some v ∧ j < xs.length ∧ -(xs.length : Int) ≤ i ∧ i < xs.length := by
  unfold atI at h
  cases e : ixN xs.length i with
  | none => rw [e] at h; cases h
  | some j =>
    rw [e] at h
    obtain ⟨h1, h2, h3, h4⟩ := ixN_seq e
    exact ⟨j, h1, h, h2, h3, h4⟩
theorem atI_nat {α : Type} {xs : List α} {j : Nat} {v : α} (h : xs[j]? = some v) : atI xs (j : Int) = some v := by
  have hj : j < xs.length := (List.getElem?_eq_some_iff.mp h).1
  have e : ixN xs.length (j : Int) = some j := by
    unfold ixN
    rw [if_pos (by omega), if_pos (by omega)]; simp
  unfold atI; rw [e]; exact h

noncomputable def PlainIx (b : Expr) : Prop := ∀ o i, subscripted b false o i = operate [o, i] (getItem o i)
noncomputable def IxR (X : Cx) (r : R2) : Prop :=
  ∀ (value slice : Expr) (pins : List (Addr × Obj)) (s : Shared) (σ : St) (H : Hp) (x y : V) (v u : Value) (Q : VK), Inv X pins σ H s → RelV x v → RelV y u → r x y H Q →
    subscripted slice false v u = operate [v, u] (getItem v u) → wpAny (model X.prog X.w) X.A (subscriptTail value slice v u) (EP X pins σ Q) X.xe s
noncomputable def MtR (X : Cx) (id : String) (r : V → List V → Hp → VK → Prop) : Prop :=
  ∀ (pins : List (Addr × Obj)) (s : Shared) (σ : St) (H : Hp) (x : V) (xs : List V) (v : Value) (us : List Value) (Q : VK), Inv X pins σ H s → RelV x v → Vals xs us → r x xs H Q →
    wpAny (model X.prog X.w) X.A (call (.builtin id) (v :: us)) (EP X pins σ Q) X.xe s
section
variable {X : Cx} {a b : Expr} {ta tb : TE} {pos : Pos}
theorem pe_ix {r : R2} (hr : IxR X r) (ha : PE X a ta) (hb : PE X b tb) (hs : PlainIx b) : PE X (.Subscript a b pos) (tOp r ta tb) := by
  intro pins s σ H Q I h
  exact Subscript_ (binT ha hb I h fun v u s2 x y H2 I2 rx ry q => hr a b pins s2 σ H2 x y v u Q I2 rx ry q (hs _ _))

inductive RIxL (K : PySem.W.Frag) (x y : V) (H : Hp) (Q : VK) : Prop
  | mk (p : Addr) (xs : List V) (i : Int) (v : V) (hx : x = .ref p) (hy : y = .int i) (hS : SqL K H p xs) (he : atI xs i = some v) (q : Q v H) : RIxL K x y H Q
noncomputable def rIxL (K : PySem.W.Frag) : R2 := fun x y H Q => RIxL K x y H Q
inductive RIxT (K : PySem.W.Frag) (x y : V) (H : Hp) (Q : VK) : Prop
  | mk (p : Addr) (xs : List V) (i : Int) (v : V) (hx : x = .ref p) (hy : y = .int i) (hS : SqT K H p xs) (he : atI xs i = some v) (q : Q v H) : RIxT K x y H Q
noncomputable def rIxT (K : PySem.W.Frag) : R2 := fun x y H Q => RIxT K x y H Q
inductive J_rIxS (x : V) (y : V) (H : Hp) (Q : VK) : Prop
  | mk : ∀ z i c, (x = .str z) → (y = .int i) → (z.length ≤ sizeLine) → (atI z.cps.toList i = some c) → (Q (.str ⟨#[c]⟩) H) → J_rIxS x y H Q
noncomputable def rIxS : R2 := fun x y H Q => J_rIxS x y H Q
theorem ix_list : IxR X (rIxL X.K) := by
  intro value slice pins s σ H x y v u Q I rx ry h hs
  obtain ⟨p, xs, i, z, rfl, rfl, hq, he, q⟩ := h
  cases rx
  obtain ⟨t, rfl⟩ := ry
  obtain ⟨its, r, pl, hz⟩ := I.list hq
  obtain ⟨j, h1, h2, h3, h4, h5⟩ := atI_get he
  obtain ⟨w, ew, rw'⟩ := r.get h2
  have hl := r.length
  have hn := line63
  have fin : EP X pins σ Q w s := ⟨z, H, I, rw', q⟩
  by_cases h0 : 0 ≤ i
  · have hj : i.toNat = j := by
      rw [seqIndex_of h0 h5] at h1
      exact Option.some.inj h1
    exact item_listR pl.isList h0 (by omega) (by rw [hj]; simpa using ew) fin hs
  · have hj : (i + (its.toArray.size : Int)).toNat = j := by
      rw [seqIndex_neg (by omega) h4] at h1
      rw [List.size_toArray, ← hl]
      exact Option.some.inj h1
    exact subscriptTail_builtinR (x := w) pl.isList.typeIs slot_list_getitem.lookup
      (wpAny_getItem_list_neg (Q := fun r s' => r = w ∧ EP X pins σ Q r s') pl.isList (by omega) (by rw [List.size_toArray] <;> omega) (by omega) (by rw [hj]; simpa using ew) ⟨rfl, fin⟩) hs
theorem ix_tup : IxR X (rIxT X.K) := by
  intro value slice pins s σ H x y v u Q I rx ry h hs
  obtain ⟨p, xs, i, z, rfl, rfl, hq, he, q⟩ := h
  cases rx
  obtain ⟨t, rfl⟩ := ry
  obtain ⟨its, r, pl, hz⟩ := I.tuple hq
  obtain ⟨j, h1, h2, h3, h4, h5⟩ := atI_get he
  obtain ⟨w, ew, rw'⟩ := r.get h2
  have hl := r.length
  have hn := line63
  have fin : EP X pins σ Q w s := ⟨z, H, I, rw', q⟩
  exact subscriptTail_builtinR (x := w) pl.typeIs slot_tuple_getitem.lookup
    (getItem_tuple (j := j) (Q := fun r s' => r = w ∧ EP X pins σ Q r s') pl (by omega) (by omega) (by rw [List.size_toArray, ← hl]; exact h1) (by simpa using ew) ⟨rfl, fin⟩) hs
theorem ix_str : IxR X rIxS := by
  intro value slice pins s σ H x y v u Q I rx ry h hs
  obtain ⟨z, i, c, rfl, rfl, hz, he, q⟩ := h
  obtain ⟨t, rfl⟩ := rx
  obtain ⟨t', rfl⟩ := ry
  obtain ⟨j, h1, h2, h3, h4, h5⟩ := atI_get he
  have hl : z.cps.toList.length = z.length := by simp [Str.length]
  rw [hl] at h1 h4 h5
  have hn := line63
  exact tail_any (typeIs_str s z t) slot_str_getitem.lookup (getItem_str (c := c) (by
    have e1 : decide (i < -(2 ^ 63 : Int)) = false := decide_eq_false (by omega)
    have e2 : decide (i ≥ 2 ^ 63) = false := decide_eq_false (by omega)
    rw [e1, e2, Bool.or_false]) (by rw [h1]; simpa using h2) ⟨.str ⟨#[c]⟩, H, I.tok _, ⟨_, rfl⟩, q⟩) hs

theorem mapSeq_set (its : List Value) (n j : Nat) (u : Value) : Obj.mapSeq (·.setIfInBounds j u) { cls := .type "list", data := .seq its.toArray n } = { cls := .type "list", data := .seq (its.set j u).toArray n } := by
  simp [Obj.mapSeq]
theorem Inv.lst {pins : List (Addr × Obj)} {σ : St} {H : Hp} {s : Shared} {p : Addr} {xs : List V} (I : Inv X pins σ H s) (h : H p = some (.lst xs)) :
    ∃ (its : List Value) (n : Nat), Vals xs its ∧ s.heap.get? p = some { cls := .type "list", data := .seq its.toArray n } ∧ xs.length ≤ sizeLine := by
  obtain ⟨z, its, n, r, e⟩ := I.hok p _ h
  exact ⟨its, n, r, e, z⟩
theorem Inv.lstUpd {pins : List (Addr × Obj)} {σ : St} {H : Hp} {s : Shared} {p : Addr} {xs ys : List V} {its its' : List Value} {n n' : Nat} {f : Obj → Obj} (I : Inv X pins σ H s) (h : H p = some (.lst xs))
    (ho : s.heap.get? p = some { cls := .type "list", data := .seq its.toArray n }) (hf : f { cls := .type "list", data := .seq its.toArray n } = { cls := .type "list", data := .seq its'.toArray n' }) (r : Vals ys its') (hz : ys.length ≤ sizeLine) (t : Nat) :
    Inv X pins σ (upd H p (.lst ys)) { s with heap := s.heap.update p f, toks := t } := by
  have e : (s.heap.update p f).get? p = some { cls := .type "list", data := .seq its'.toArray n' } := by
    rw [Heap.get?_update_self f ho (by rw [hf] <;> rfl), hf]
  refine I.write (x := p) (e := p) (by rw [h]; trivial) (.inl rfl) (fun b u hb q => (Heap.get?_update_other _ _ (Ne.symm hb)).trans q) ⟨_, e⟩ ?_
  exact ⟨hz, its', n', r, e⟩
inductive J_rSetL (o : V) (i : V) (v : V) (H : Hp) (Q : Hp → Prop) : Prop
  | mk : ∀ p xs k j, (o = .ref p) → (i = .int k) → (H p = some (.lst xs)) → (ixN xs.length k = some j) → (Q (upd H p (.lst (xs.set j v)))) → J_rSetL o i v H Q
noncomputable def rSetL : V → V → V → Hp → (Hp → Prop) → Prop := fun o i v H Q => J_rSetL o i v H Q
theorem set_list : PSet X rSetL := by
  intro pins s σ H o i v ov iv u Q I ro ri rv h
  obtain ⟨p, xs, k, j, rfl, rfl, hp, hj, q⟩ := h
  cases ro
  obtain ⟨t, rfl⟩ := ri
  obtain ⟨its, n, r, ho, hz⟩ := I.lst hp
  obtain ⟨h1, h2, h3, h4⟩ := ixN_seq hj
  have hl := r.length
  have hn := line63
  have I' : Inv X pins σ (upd H p (.lst (xs.set j v))) { s with heap := s.heap.update p (Obj.mapSeq (·.setIfInBounds j u)) } :=
    I.lstUpd hp ho (mapSeq_set its n j u) (r.set rv j) (by rw [List.length_set]; exact hz) s.toks
  by_cases h0 : 0 ≤ k
  · have hk : k.toNat = j := by
      rw [seqIndex_of h0 h4] at h1
      exact Option.some.inj h1
    exact PySem.W.ki_setAt ho h0 (by omega) (by rw [List.size_toArray, ← hl]; exact h4) (by rw [hk]; exact ⟨_, I', q⟩)
  · have hk : (k + (its.toArray.size : Int)).toNat = j := by
      rw [seqIndex_neg (by omega) h3] at h1
      rw [List.size_toArray, ← hl]
      exact Option.some.inj h1
    exact PySem.W.ki_setBack ho (by omega) (by rw [List.size_toArray, ← hl]; exact h3) (by omega) (by rw [hk]; exact ⟨_, I', q⟩)

theorem slice_bounds (lo hi : Option Int) (n : Nat) : (sliceBounds lo hi none n).1 = ((HT.sIx n 0 lo : Nat) : Int) ∧ (sliceBounds lo hi none n).2.1 = ((HT.sIx n n hi : Nat) : Int) ∧ (sliceBounds lo hi none n).2.2 = 1 := by
  refine ⟨?_, ?_, rfl⟩
  · cases lo with
    | none => simp [sliceBounds, HT.sIx]
    | some i =>
      simp only [sliceBounds, HT.sIx, Option.getD_none, show (1 : Int) > 0 by decide, if_true]
      by_cases h : i < 0
      · simp only [h, if_true] <;> omega
      · simp only [h, if_false] <;> omega
  · cases hi with
    | none => simp [sliceBounds, HT.sIx]
    | some i =>
      simp only [sliceBounds, HT.sIx, Option.getD_none, show (1 : Int) > 0 by decide, if_true]
      by_cases h : i < 0
      · simp only [h, if_true] <;> omega
      · simp only [h, if_false] <;> omega
theorem slicePick_cut (its : List Value) (lo hi : Option Int) : slicePick its.toArray lo hi none = ((its.drop (HT.sIx its.length 0 lo)).take (HT.sIx its.length its.length hi - HT.sIx its.length 0 lo)).toArray := by
  obtain ⟨h1, h2, h3⟩ := slice_bounds lo hi its.toArray.size
  unfold slicePick
  rw [h1, h2, h3]
  simp only [sliceRange_one, pick_run, List.size_toArray] <;> rfl
inductive J_rSlL (K : PySem.W.Frag) (x : V) (lo : Option Int) (hi : Option Int) (H : Hp) (Q : VK) : Prop
  | mk : ∀ a xs, (x = .ref a) → (SqL K H a xs) → (∀ p, H p = none → Q (.ref p) (upd H p (.lst (cutV xs lo hi)))) → J_rSlL K x lo hi H Q
noncomputable def rSlL (K : PySem.W.Frag) : V → Option Int → Option Int → Hp → VK → Prop := fun x lo hi H Q => J_rSlL K x lo hi H Q
theorem sl_list : SlR X (rSlL X.K) := by
  intro pins s σ H x v vl vu lo hi sl Q I rx hs pl pu h
  obtain ⟨a, xs, rfl, hx, q⟩ := h
  cases rx
  obtain ⟨its, r, ht, hz⟩ := I.list hx
  have hlen := r.length
  refine ⟨"list", _, slot_list_getitem.lookup, ht.isList.typeIs, ?_⟩
  refine wpAny_getItem_list_slice ht.isList hs pl pu .none (by simp) ?_ (by rw [List.size_toArray] <;> omega)
  rw [slicePick_cut, ← hlen]
  refine ⟨.ref s.heap.objs.size, _, I.laid (t' := s.toks) (o := .lst (cutV xs lo hi)) (fun b ob q => Heap.get?_push_of_some _ q) (Nat.le_refl _) ?_, rfl, q _ (I.hok.fresh (Nat.le_refl _))⟩
  exact ⟨Nat.le_trans (cutV_length xs lo hi) hz, _, 0, (r.drop (HT.sIx xs.length 0 lo)).take (HT.sIx xs.length xs.length hi - HT.sIx xs.length 0 lo), Heap.get?_push_size _ rfl⟩


inductive J_len (K : PySem.W.Frag) (xs : List V) (H : Hp) (Q : VK) : Prop
  | mk : ∀ p ys, (xs = [.ref p]) → (SqL K H p ys ∨ SqT K H p ys) → (Q (.int ys.length) H) → J_len K xs H Q
theorem call_len_seq : CallR X (.builtin "len") (fun xs H Q => J_len X.K xs H Q) := by
  intro pins s σ H xs us Q I r h
  obtain ⟨p, ys, rfl, hq, q⟩ := h
  obtain ⟨u, rfl, rx⟩ := vals1 r
  cases rx
  have hn := line63
  rcases hq with hq | hq
  · obtain ⟨its, r', pl, hz⟩ := I.list hq
    have hlen := r'.length
    exact Calls.call_len_list pl.isList (by simp only [List.size_toArray] <;> omega) ⟨.int ys.length, H, I.tok _, ⟨s.toks + 1, by rw [List.size_toArray, hlen]⟩, q⟩
  · obtain ⟨its, r', pl, hz⟩ := I.tuple hq
    have hlen := r'.length
    exact len_tuple pl (by simp only [List.size_toArray] <;> omega) ⟨.int ys.length, H, I.tok _, ⟨s.toks + 1, by rw [List.size_toArray, hlen]⟩, q⟩
inductive J_call_len_str (xs : List V) (H : Hp) (Q : VK) : Prop
  | mk : ∀ z, (xs = [.str z]) → (z.length ≤ sizeLine) → (Q (.int z.length) H) → J_call_len_str xs H Q
theorem call_len_str : CallR X (.builtin "len") (fun xs H Q => J_call_len_str xs H Q) := by
  intro pins s σ H xs us Q I r h
  obtain ⟨z, rfl, hz, q⟩ := h
  obtain ⟨u, rfl, t, rfl⟩ := vals1 r
  have hn := line63
  exact len_str (by omega) ⟨.int z.length, H, I.tok _, ⟨_, rfl⟩, q⟩
inductive J_call_list_of (kK : PySem.W.Frag) (xs : List V) (H : Hp) (Q : VK) : Prop
  | mk : ∀ p ys, (xs = [.ref p]) → ((SqL kK H p ys ∨ SqT kK H p ys)) → (∀ l, H l = none → Q (.ref l) (upd H l (.lst ys))) → J_call_list_of kK xs H Q
theorem call_list_of : CallR X (.type "list") (fun xs H Q => J_call_list_of X.K xs H Q) := by
  intro pins s σ H xs us Q I r h
  obtain ⟨p, ys, rfl, hq, q⟩ := h
  obtain ⟨u, rfl, rx⟩ := vals1 r
  cases rx
  have fin : ∀ (its : List Value), Vals ys its → ys.length ≤ sizeLine → ∀ (h' : Heap) (c' : Nat), (∀ b o', s.heap.get? b = some o' → h'.get? b = some o') →
      h'.get? s.heap.objs.size = some { cls := .type "list", dict := none, data := .seq its.toArray c', slots := #[] } → EP X pins σ Q (.ref s.heap.objs.size) { s with heap := h' } := fun its r' hz h' c' kp e =>
    ⟨.ref s.heap.objs.size, _, I.laid (t' := s.toks) kp (Nat.le_refl _) (show ObjOk X.prog X.w _ h' _ (.lst ys) from ⟨hz, its, c', r', e⟩), rfl, q _ (I.hok.fresh (Nat.le_refl _))⟩
  rcases hq with hq | hq
  · obtain ⟨its, r', pl, hz⟩ := I.list hq
    have hlen := r'.length
    obtain ⟨o, ho, hc, n, hd⟩ := pl.isList
    exact call_list_seq p (.inl rfl) ho hc hd (fun h' c' kp e => fin its r' hz h' c' kp e) (by simp only [List.size_toArray] <;> omega)
  · obtain ⟨its, r', pl, hz⟩ := I.tuple hq
    have hlen := r'.length
    obtain ⟨o, ho, hc, n, hd⟩ := pl
    exact call_list_seq p (.inr rfl) ho hc hd (fun h' c' kp e => fin its r' hz h' c' kp e) (by simp only [List.size_toArray] <;> omega)
inductive J_call_tuple_of (kK : PySem.W.Frag) (xs : List V) (H : Hp) (Q : VK) : Prop
  | mk : ∀ p ys, (xs = [.ref p]) → (((SqL kK H p ys ∧ ∀ l, H l = none → Q (.ref l) (upd H l (.tup ys))) ∨ (SqT kK H p ys ∧ Q (.ref p) H))) → J_call_tuple_of kK xs H Q
theorem call_tuple_of : CallR X (.type "tuple") (fun xs H Q => J_call_tuple_of X.K xs H Q) := by
  intro pins s σ H xs us Q I r h
  obtain ⟨p, ys, rfl, h⟩ := h
  obtain ⟨u, rfl, rx⟩ := vals1 r
  cases rx
  rcases h with ⟨hq, q⟩ | ⟨hq, q⟩
  · obtain ⟨its, r', pl, hz⟩ := I.list hq
    have hlen := r'.length
    refine call_tuple_list pl.isList (fun h' kp => ?_) (by simp only [List.size_toArray] <;> omega)
    have I1 : Inv X pins σ H { s with heap := h' } := I.kept (t' := s.toks) kp
    have I2 : Inv X pins σ (upd H h'.objs.size (.tup ys)) { s with heap := h'.push { cls := .type "tuple", data := .seq its.toArray } } :=
      I1.laid (t' := s.toks) (fun b o e => Heap.get?_push_of_some _ e) (Nat.le_refl _) (show ObjOk X.prog X.w _ _ _ (.tup ys) from ⟨hz, its, r', IsTupN.new _ _⟩)
    exact ⟨.ref h'.objs.size, _, I2, rfl, q _ (I1.hok.fresh (Nat.le_refl _))⟩
  · obtain ⟨its, r', pl, hz⟩ := I.tuple hq
    exact call_tuple_same pl ⟨.ref p, H, I, rfl, q⟩

noncomputable def tyV (K : PySem.W.Frag) (T : String) (x : V) (H : Hp) : Prop := match x with
  | .str _ => T = "str"
  | .int _ => T = "int"
  | .ref p => (T = "list" ∧ ∃ xs, SqL K H p xs) ∨ (T = "tuple" ∧ ((∃ o, K.lookup p = some o ∧ o.cls = .type "tuple" ∧ o.dict = none) ∨ ∃ xs, H p = some (.tup xs))) ∨
      (T = "dict" ∧ ((∃ kvs, H p = some (.dK kvs)) ∨ ∃ kvs, H p = some (.dT kvs))) ∨ (T = "set" ∧ ∃ S n, H p = some (.set S n))
  | _ => False
theorem tyV_is {pins : List (Addr × Obj)} {σ : St} {H : Hp} {s : Shared} {T : String} {x : V} {v : Value} (I : Inv X pins σ H s) (r : RelV x v) (ty : tyV X.K T x H) :
    s.TypeIs v T ∧ ∀ a, v = .ref a → ∃ ob, s.heap.get? a = some ob ∧ ob.dict = none := by
  cases x with
  | str z =>
    obtain ⟨t, rfl⟩ := r
    cases (show T = "str" from ty)
    exact ⟨typeIs_str s z t, fun _ e => nomatch e⟩
  | int i =>
    obtain ⟨t, rfl⟩ := r
    cases (show T = "int" from ty)
    exact ⟨typeIs_int s i t, fun _ e => nomatch e⟩
  | ref p =>
    cases r
    rcases ty with ⟨rfl, xs, hq⟩ | ⟨rfl, ⟨o, hk, hc, hd⟩ | ⟨xs, hk⟩⟩ | ⟨rfl, hk⟩ | ⟨rfl, S, n, hk⟩
    · obtain ⟨its, _, pl, _⟩ := I.list hq
      refine ⟨pl.isList.typeIs, fun a e => ?_⟩
      cases e
      obtain ⟨o, n, e, c, hd, _⟩ := pl
      exact ⟨o, e, hd⟩
    · refine ⟨⟨o, I.kIn p o hk, hc⟩, fun a e => ?_⟩
      cases e
      exact ⟨o, I.kIn _ o hk, hd⟩
    · obtain ⟨_, _, _, o, e, c, n, d, hd⟩ := I.hok p _ hk
      refine ⟨⟨o, e, c⟩, fun a e2 => ?_⟩
      cases e2
      exact ⟨o, e, hd⟩
    · have z : ∃ o, s.heap.get? p = some o ∧ o.ExactDict := by
        rcases hk with ⟨kvs, hk⟩ | ⟨kvs, hk⟩
        · obtain ⟨_, _, _, _, o, _, _, e, ex, _⟩ := I.hok p _ hk
          exact ⟨o, e, ex⟩
        · obtain ⟨_, _, _, _, o, _, _, e, ex, _⟩ := I.hok p _ hk
          exact ⟨o, e, ex⟩
      obtain ⟨o, e, ex⟩ := z
      refine ⟨⟨o, e, ex.1⟩, fun a e2 => ?_⟩
      cases e2
      exact ⟨o, e, ex.2.1⟩
    · obtain ⟨o, _, _, _, e, ex, _⟩ := I.hok p _ hk
      refine ⟨⟨o, e, ex.1⟩, fun a e2 => ?_⟩
      cases e2
      exact ⟨o, e, ex.2.1⟩
  | _ => exact False.elim ty
noncomputable def tBM0 (K : PySem.W.Frag) (T : String) (r : V → List V → Hp → VK → Prop) (to : TE) : TE := fun σ H Q => to σ H fun x H1 => tyV K T x H1 ∧ r x [] H1 Q
noncomputable def tBM (K : PySem.W.Frag) (T : String) (r : V → List V → Hp → VK → Prop) (to : TE) (t : TA) : TE := fun σ H Q => to σ H fun x H1 => tyV K T x H1 ∧ t σ H1 fun xs H2 => r x xs H2 Q
variable {o e : Expr} {es : List Expr} {to : TE} {t : TA} {name : Str} {apos cpos : Pos} {T id : String} {r : V → List V → Hp → VK → Prop}
theorem pe_bm0 (pa : PlainAttrs T) (slot : Slot T name id) (hty : typeOf (.builtin id) = pure (.type "method_descriptor")) (hm : MtR X id r) (ho : PE X o to)
    (hbase : attributeBase o name X.env (eval o X.env) = eval o X.env := by rfl) (hline : (apos.endLine == cpos.line) = true := by rfl) : PE X (.Call (.Attribute o name apos) [] [] cpos) (tBM0 X.K T r to) := by
  intro pins s σ H Q I h
  refine wpAny_Call_method0_late hbase hline (thn (ho pins s σ H _ I h) fun v s1 ⟨x, H1, I1, r1, ty, q1⟩ => ?_)
  obtain ⟨h1, h2⟩ := tyV_is I1 r1 ty
  exact ⟨T, id, pa, slot, hty, h1, h2, Calls.callWith_builtin rfl (PySem.evalArgs_none (hm pins s1 σ H1 x [] v [] Q I1 r1 .nil q1))⟩
theorem pe_bm (pa : PlainAttrs T) (slot : Slot T name id) (hty : typeOf (.builtin id) = pure (.type "method_descriptor")) (hm : MtR X id r) (ho : PE X o to) (ha : PA X (e :: es) t)
    (hbase : attributeBase o name X.env (eval o X.env) = eval o X.env := by rfl)
    (hfew : ((backTo cpos (starEach (e :: es) X.env)).all (fun x => !x.1) && (backToKw cpos (keywordEach [] X.env)).all (fun x => x.1.isSome)
      && decide ((e :: es).length + ([] : List Keyword).length + (if ([] : List Keyword).isEmpty then 0 else 1) < 30)) = true := by rfl)
    (hline : (apos.endLine == cpos.line) = true := by rfl) (hs : starEach (e :: es) X.env = (false, eval e X.env) :: starEach es X.env := by rfl) (hplain : (backTo cpos (starEach es X.env)).any (·.1) = false := by rfl) :
    PE X (.Call (.Attribute o name apos) (e :: es) [] cpos) (tBM X.K T r to t) := by
  intro pins s σ H Q I h
  refine wpAny_Call_method_late hbase hfew hline rfl (thn (ho pins s σ H _ I h) fun v s1 ⟨x, H1, I1, r1, ty, q1⟩ => ?_)
  obtain ⟨h1, h2⟩ := tyV_is I1 r1 ty
  refine ⟨T, id, pa, slot, hty, h1, h2, ?_⟩
  have hA := ha cpos pins s1 σ H1 _ I1 q1
  rw [hs] at hA ⊢
  refine Calls.callWith_builtin (by show (false || (backTo cpos (starEach es X.env)).any (·.1)) = false; rw [hplain] <;> rfl) (Calls.evalArgs_plain ?_)
  exact thn hA fun us s2 ⟨vs, H2, I2, r2, q2⟩ => hm pins s2 σ H2 x vs v us Q I2 r1 r2 q2
/- xs.append(e), list.index on a module's tuple .. are MtR facts of 06m -/
end
end L2

namespace L2
open PySem PySem.Spec PyProof.Rows

noncomputable def MtM (X : Cx) (id : String) (r : V → List V → Hp → VK → Prop) : Prop :=
  ∀ (pins : List (Addr × Obj)) (s : Shared) (σ : St) (H : Hp) (x : V) (xs : List V) (v : Value) (us : List Value) (Q : VK), Inv X pins σ H s → RelV x v → Vals xs us → r x xs H Q →
    wpAny (model X.prog X.w) X.A (call (.builtin id) (v :: us)) (EP X pins σ Q) X.xe s

theorem Vals.one : ∀ {x : V} {us : List Value}, Vals [x] us → ∃ u, us = [u] ∧ RelV x u
  | _, _, .cons r .nil => ⟨_, rfl, r⟩
theorem Vals.zero : ∀ {us : List Value}, Vals [] us → us = []
  | _, .nil => rfl
theorem Vals.dropLast {xs : List V} {us : List Value} (h : Vals xs us) : Vals xs.dropLast us.dropLast := by
  induction h with
  | nil => exact .nil
  | cons r t ih =>
    cases t with
    | nil => exact .nil
    | cons q t' => exact .cons r ih
theorem Vals.rep {xs : List V} {us : List Value} (h : Vals xs us) : ∀ k : Nat, Vals (List.replicate k xs).flatten (List.replicate k us).flatten
  | 0 => .nil
  | k + 1 => by
    rw [List.replicate_succ, List.replicate_succ, List.flatten_cons, List.flatten_cons]
    exact Vals.append h (Vals.rep h k)
theorem erase_last {α : Type} (l : List α) : l.eraseIdx (l.length - 1) = l.dropLast := by
  induction l with
  | nil => rfl
  | cons a r ih =>
    cases r with
    | nil => rfl
    | cons b r =>
      have e : (a :: b :: r).length - 1 = ((b :: r).length - 1) + 1 := by
        have h1 : (a :: b :: r).length = r.length + 2 := rfl
        have h2 : (b :: r).length = r.length + 1 := rfl
        omega
      rw [e, List.eraseIdx_cons_succ, ih]
      all_goals rfl
theorem foldl_rep (its : List Value) : ∀ (k : Nat) (acc : List Value),
    List.foldl (fun x1 x2 => x1 ++ x2) acc.toArray (List.replicate k its.toArray) = (acc ++ (List.replicate k its).flatten).toArray
  | 0, acc => by simp
  | k + 1, acc => by
    have e : acc.toArray ++ its.toArray = (acc ++ its).toArray := by simp
    have e2 : (acc ++ its) ++ (List.replicate k its).flatten = acc ++ (List.replicate (k + 1) its).flatten := by
      rw [List.replicate_succ, List.flatten_cons, List.append_assoc]
    rw [← e2, ← foldl_rep its k (acc ++ its), ← e, List.replicate_succ, List.foldl_cons]

section
variable {X : Cx} {pins : List (Addr × Obj)} {σ : St} {H : Hp} {s : Shared} {l b : Addr} {xs ys zs : List V}

theorem Inv.lset {its its' : List Value} {n : Nat} {f : Array Value → Array Value} {t' : Nat} (I : Inv X pins σ H s) (hH : H l = some (.lst xs))
    (e : s.heap.get? l = some { cls := .type "list", data := .seq its.toArray n }) (hf : f its.toArray = its'.toArray) (hv : Vals ys its') (hz : ys.length ≤ sizeLine) :
    Inv X pins σ (upd H l (.lst ys)) { s with heap := s.heap.update l (Obj.mapSeq f), toks := t' } := by
  have q := PySem.IsL.update e f
  rw [hf] at q
  refine I.write (x := l) (e := l) (by rw [hH]; exact trivial) (.inl rfl) (fun b' u hb hu => (Heap.get?_update_other s.heap (Obj.mapSeq f) (Ne.symm hb)).trans hu) ⟨_, q⟩ ?_
  exact ⟨hz, its', _, hv, q⟩
theorem Inv.lnew {its : List Value} {t' : Nat} (I : Inv X pins σ H s) (hv : Vals ys its) (hz : ys.length ≤ sizeLine) :
    Inv X pins σ (upd H s.heap.objs.size (.lst ys)) { s with heap := s.heap.push { cls := .type "list", data := .seq its.toArray }, toks := t' } :=
  I.laid (fun _ _ q => Heap.get?_push_of_some _ q) (Nat.le_refl _) ⟨hz, its, 0, hv, Heap.get?_push_size _ rfl⟩
theorem Inv.fresh (I : Inv X pins σ H s) : H s.heap.objs.size = none := I.hok.fresh (Nat.le_refl _)
theorem Inv.lstM (I : Inv X pins σ H s) (hH : H l = some (.lst xs)) : xs.length ≤ sizeLine ∧ ∃ (its : List Value) (n : Nat), Vals xs its ∧ xs.length = its.length ∧ s.heap.get? l = some { cls := .type "list", data := .seq its.toArray n } := by
  obtain ⟨z, its, n, r, e⟩ := I.hok l _ hH
  exact ⟨z, its, n, r, r.length, e⟩

theorem notLongL {n : Nat} (h : n ≤ sizeLine) : Builtin.List.listTooLong n = false := by
  unfold Builtin.List.listTooLong
  exact decide_eq_false (by omega)
end

section
variable {X : Cx}

inductive J_rAppend (x : V) (vs : List V) (H : Hp) (Q : VK) : Prop
  | mk : ∀ l xs y, (x = .ref l) → (vs = [y]) → (H l = some (.lst xs)) → (xs.length < sizeLine) → (Q .non (upd H l (.lst (xs ++ [y])))) → J_rAppend x vs H Q
noncomputable def rAppend : V → List V → Hp → VK → Prop := fun x vs H Q => J_rAppend x vs H Q
theorem mt_append : MtM X "list.append" rAppend := by
  intro pins s σ H x vs v us Q I rx rv h
  obtain ⟨l, xs, y, rfl, rfl, hH, hz, q⟩ := h
  cases rx
  obtain ⟨u, rfl, ru⟩ := rv.one
  obtain ⟨z, its, n, r, hl, e⟩ := I.lstM hH
  refine call_meets F.slot_list_append ⟨_, e, rfl⟩ F.entry_list_append (F.args_list_append_2 _ _) (PySem.list_append l its.toArray n u (by rw [List.size_toArray]; omega)) ⟨e, ?_⟩
  refine ⟨.non, _, I.lset (its' := its ++ [u]) hH e (by simp) (r.append (.cons ru .nil)) ?_, rfl, q⟩
  rw [List.length_append, List.length_singleton]
  omega

inductive J_rExtend (x : V) (vs : List V) (H : Hp) (Q : VK) : Prop
  | mk : ∀ l b xs zs, (x = .ref l) → (vs = [.ref b]) → (H l = some (.lst xs)) → (H b = some (.lst zs)) → (xs.length + zs.length ≤ sizeLine) → (Q .non (upd H l (.lst (xs ++ zs)))) → J_rExtend x vs H Q
noncomputable def rExtend : V → List V → Hp → VK → Prop := fun x vs H Q => J_rExtend x vs H Q
theorem mt_extend : MtM X "list.extend" rExtend := by
  intro pins s σ H x vs v us Q I rx rv h
  obtain ⟨l, b, xs, zs, rfl, rfl, hH, hB, hz, q⟩ := h
  cases rx
  obtain ⟨u, rfl, ru⟩ := rv.one
  cases ru
  obtain ⟨z, its, n, r, hl, e⟩ := I.lstM hH
  obtain ⟨z2, its2, n2, r2, hl2, e2⟩ := I.lstM hB
  have hsz : its.toArray.size + its2.toArray.size ≤ sizeLine := by rw [List.size_toArray, List.size_toArray]; omega
  have hlong : ¬ (!its.toArray.isEmpty && Builtin.List.listTooLong (its.toArray.size + its2.toArray.size)) = true := by
    rw [notLongL hsz, Bool.and_false]
    exact Bool.false_ne_true
  refine call_meets F.slot_list_extend ⟨_, e, rfl⟩ F.entry_list_extend (F.args_list_extend_2 _ _)
    (AutoSeq1.list_extend_list_list_0 l its.toArray n b its2.toArray n2 hlong (by rw [List.size_toArray]; omega) (by omega)) ⟨e, e2, ?_⟩
  refine ⟨.non, _, I.lset (its' := its ++ its2) hH e (by simp) (r.append r2) ?_, rfl, q⟩
  rw [List.length_append]
  omega

inductive J_rPop (x : V) (vs : List V) (H : Hp) (Q : VK) : Prop
  | mk : ∀ l xs y, (x = .ref l) → (vs = []) → (H l = some (.lst xs)) → (xs[xs.length - 1]? = some y) → (Q y (upd H l (.lst xs.dropLast))) → J_rPop x vs H Q
noncomputable def rPop : V → List V → Hp → VK → Prop := fun x vs H Q => J_rPop x vs H Q
theorem mt_pop : MtM X "list.pop" rPop := by
  intro pins s σ H x vs v us Q I rx rv h
  obtain ⟨l, xs, y, rfl, rfl, hH, hy, q⟩ := h
  cases rx
  have hus := rv.zero
  subst hus
  obtain ⟨z, its, n, r, hl, e⟩ := I.lstM hH
  obtain ⟨u, hu, ru⟩ := r.get hy
  have hy' : its.toArray[its.toArray.size - 1]? = some u := by
    show its.toArray[its.length - 1]? = some u
    rw [← Array.getElem?_toList, ← hl]
    exact hu
  refine call_meets F.slot_list_pop ⟨_, e, rfl⟩ F.entry_list_pop (F.args_list_pop_1 _) (MeetsSeq.list_pop_last l its.toArray n u hy' (by rw [List.size_toArray]; omega)) ⟨e, ?_⟩
  refine ⟨y, _, I.lset (its' := its.dropLast) hH e ?_ r.dropLast ?_, ru, q⟩
  · show its.toArray.eraseIdxIfInBounds (its.toArray.size - 1) = its.dropLast.toArray
    rw [List.size_toArray, List.eraseIdxIfInBounds_toArray, erase_last]
  · rw [List.length_dropLast]
    omega




inductive J_rRep (x : V) (y : V) (H : Hp) (Q : VK) : Prop
  | mk : ∀ l k xs, (x = .ref l) → (y = .int k) → (H l = some (.lst xs)) → (-(2 ^ 63) ≤ k) → (k < 2 ^ 63) → (xs.length * k.toNat ≤ sizeLine) → (∀ p, H p = none → Q (.ref p) (upd H p (.lst (List.replicate k.toNat xs).flatten))) → J_rRep x y H Q
noncomputable def rRep : R2 := fun x y H Q => J_rRep x y H Q
theorem len_rep {α : Type} (xs : List α) (k : Nat) : (List.replicate k xs).flatten.length = k * xs.length := by
  induction k with
  | zero => simp
  | succ k ih => rw [List.replicate_succ, List.flatten_cons, List.length_append, ih, Nat.succ_mul, Nat.add_comm]
theorem op_rep : OpR X (binaryOp .Mult) rRep := by
  intro pins s σ H x y v u Q I rx ry h
  obtain ⟨l, k, xs, rfl, rfl, hH, h1, h2, hz, q⟩ := h
  cases rx
  obtain ⟨t, rfl⟩ := ry
  obtain ⟨z, its, n, r, hl, e⟩ := I.lstM hH
  have hlen : its.toArray.size * k.toNat ≤ sizeLine := by rw [List.size_toArray, ← hl]; exact hz
  have hcap : ¬ its.toArray.size * k.toNat > (2 ^ 63 - 1) / 8 := by
    have : (sizeLine : Nat) ≤ (2 ^ 63 - 1) / 8 := by decide
    omega
  have hfit : ¬ (!Builtin.List.listFitsIndex k) = true := by
    rw [fitsIndex_both h1 h2]
    exact Bool.false_ne_true
  have hlong : ¬ Builtin.List.listTooLong (its.toArray.size * k.toNat) = true := by
    rw [notLongL hlen]
    exact Bool.false_ne_true
  have hnew : List.foldl (fun x1 x2 => x1 ++ x2) #[] (List.replicate (if its.toArray.isEmpty = true then 0 else k.toNat) its.toArray) = (List.replicate k.toNat its).flatten.toArray := by
    have f0 : ∀ m : Nat, List.foldl (fun x1 x2 => x1 ++ x2) #[] (List.replicate m its.toArray) = (List.replicate m its).flatten.toArray := fun m => by
      have := foldl_rep its m []
      rw [List.nil_append] at this
      exact this
    rw [f0]
    cases its with
    | nil => simp
    | cons a r' => rw [if_neg (by simp)]
  refine wpAny_binaryOp_repeat_ref (T := "list") (U := "int") (by decide) ⟨_, e, rfl⟩ (fun s' => typeIs_int s' k t) noFill_list_mul F.fills_int_mul F.slot_int_rmul repeat_list F.slot_int_index.lookup
    (call_meets F.slot_int_rmul (typeIs_int s k t) F.entry_int_rmul (F.args_int_rmul_2 _ _) (int___rmul___int_list k t l its.toArray n)
      ⟨e, rfl, ⟨_, e, rfl⟩, call_meets F.slot_list_mul ⟨_, e, rfl⟩ F.entry_list_mul (F.args_list_mul_2 _ _) (AutoListH.list___mul___list_int_3 l its.toArray n k t hfit hcap hlong) ⟨e, ?_⟩⟩)
  rw [hnew]
  exact ⟨.ref _, _, I.lnew (t' := s.toks) (r.rep k.toNat) (by rw [len_rep, Nat.mul_comm]; exact hz), rfl, q _ I.fresh⟩

end

section
variable {prog : Program} {w : World} {A : Around} {E : Value → Shared → Prop} {s : Shared}
end

section
variable {X : Cx}
end
end L2

namespace Att
open PySem PySem.W PySem.Calls PyProof.Rows

theorem ints_of_wellAll {P : Params} {h : Heap} : ∀ (ns : List Int) (vs : List Value), WellAll P h vs (ns.map WData.int) → IntsAre vs ns := by
  intro ns
  induction ns with
  | nil =>
    intro vs w
    rw [List.map_nil] at w
    cases w
    exact .nil
  | cons n ns ih =>
    intro vs w
    rw [List.map_cons] at w
    cases w with
    | cons a b =>
      cases a
      exact .cons _ _ (ih _ b)

theorem script_of {l : OpenLaw} {n : Nat} (hn : l.most = some n) {P : Params} {h : Heap} {args : List WData} {vals : List Value}
    (hpre : l.row.toRowW.claim.pre args = true) (hwl : WellAll P h vals args) :
    ∃ a vs ns, vals = [Value.ref a] ∧ args = [WData.list (ns.map WData.int)] ∧ h.get? a = some { cls := .type "list", data := .seq vs.toArray } ∧ IntsAre vs ns ∧ ns.length ≤ n := by
  have hsh : WShape.hasAll [] args [.list .int] = true := (pre_splitW hpre).1
  have hc : l.pre.holds [] { args := args } = true := (pre_splitW hpre).2
  obtain ⟨d, r, rfl, h1, h2⟩ := hasAllW_cons hsh
  obtain rfl := hasAllW_nil h2
  obtain ⟨xs, rfl, h3⟩ := hasW_list h1
  obtain ⟨ns, rfl⟩ := items_int h3
  have hlen : ns.length ≤ n := by
    unfold OpenLaw.pre at hc
    have h4 : (WTm.not (.lt (.lit (.int (n : Int))) (.len (.arg 0)))).holds [] { args := [.list (ns.map .int)] } = true := by
      have h4 := (holds_andW hc).1
      rw [hn] at h4
      exact h4
    have h5 := condW_of h4 (w_not (w_lt w_lit (w_len_list (w_arg rfl))))
    rw [List.length_map] at h5
    refine Nat.le_of_not_lt fun q => ?_
    have q' : (n : Int) < ((ns.length : Nat) : Int) := by omega
    first
      | (rw [decide_eq_true q'] at h5; exact absurd h5 (by decide))
      | (simp at h5; omega)
  cases hwl with
  | cons w1 w2 =>
    cases w2
    cases w1 with
    | list ho hall => exact ⟨_, _, ns, rfl, rfl, ho, ints_of_wellAll ns _ hall, hlen⟩

theorem post_true (l : OpenLaw) (args : List WData) : l.row.toRowW.claim.post args (.bool true) args = true :=
  postW_of (r := l.row.toRowW) (X := (true == true))
    (show WShape.has [] (.bool true) .bool = true by first | rfl | decide | simp [WShape.has, WShape.arms, WShape.armsAll])
    (show (WTm.eq .res (.lit (.bool true))).value [] { args := args, res := some (.bool true), after := args } = some (.bool (true == true)) from w_eq_bool (w_res rfl) w_lit) rfl


theorem attach_call {l : OpenLaw} {n : Nat} {q : Program} {loose : List Str} {XP : (Str → Option Value) → Heap → Prop} {YP : World → Heap → Prop} {d : DefRec}
    (hn : l.most = some n) (hdf : d.params.defaults = [])
    (call : ∀ (w : World) (s₀ s₁ : Shared) (mg mb : Str → Option Value) (fa : Addr) (o : Obj) (pm cd doc : Value) (a : Addr) (vs : List Value) (ns : List Int),
      Ground q loose [] XP w s₀ mg mb s₁.heap → YP w s₁.heap →
      s₁.heap.get? fa = some o → o.data = .func (docDef d.name d.params d.body d.scope pm cd doc) → s₁.heap.CodeRec cd d.name → mg d.name = some (.ref fa) →
      s₁.heap.get? a = some { cls := .type "list", data := .seq vs.toArray } → IntsAre vs ns → ns.length ≤ n → s₁.gens = #[] →
      codeAny (model l.prog w) callerA (.call (.ref fa) ⟨[.ref a], []⟩) (fun r s' => r = .ok (.ret (.bool true)) ∧ OldK s₁.heap s'.heap ∧ s'.os = s₁.os ∧ AllBare s'.gens) s₁) :
    WalkO q loose XP YP l.row.toRowW d [] (fun f vs => PySem.call f vs) := by
  intro w s₀ s₁ mg mb G Y fa o pm cd doc dV kV ho hd hcd hD hmg hg args vals as hpre hlay hrd hwl hlo
  obtain rfl : dV = .none := Dflts.none hD hdf
  obtain rfl : kV = .none := Dflts.noKw hD
  obtain ⟨a, vs, ns, rfl, rfl, hobj, hints, hlen⟩ := script_of hn hpre hwl
  refine enter_call (codeAny_mono (call w s₀ s₁ mg mb fa o pm cd doc a vs ns G Y ho (fd_plain hd) hcd hmg hobj hints hlen hg) fun r s' hq => ?_)
  obtain ⟨rfl, h2, h3, h4⟩ := hq
  exact ⟨.inl ⟨.bool true, .bool true, [], rfl, fun _ => rfl, .bool true, post_true l _, fun _ => ⟨List.Pairwise.nil, fun _ hm => (nomatch hm)⟩⟩, h2, h3, h4⟩


section
variable {prog : Program} {w : World} {A : Around} {E : Value → Shared → Prop} {s : Shared} {K : Frag}






end
end Att

namespace L2
open PySem PySem.Spec PyProof.Rows

theorem vals_ints : ∀ {vs : List Value} {ns : List Int}, IntsAre vs ns → Vals (ns.map V.int) vs
  | _, _, .nil => .nil
  | _, _, .cons n t h => .cons ⟨t, rfl⟩ (vals_ints h)

noncomputable def Only (H : Hp) : Prop := ∀ b, H b = none ∨ ∃ o xs, H b = some (.frz o (.lst xs))

theorem law_call {P : Program} {w : World} {K : PySem.W.Frag} {mg mb : Str → Option Value} {CX : CXT} {k : Nat} {fa a : Addr} {fd : FuncData} {x : Str} {sp : Sp} {s₁ : Shared} {vs : List Value} {ns : List Int}
    (KX : K.In s₁.heap) (hns : s₁.heap.Ns mainGlobals mg) (hb : s₁.heap.Ns builtinsNs mb) (hbb : ∀ x : Str, x ≠ "__name__" → mb x = bootBuiltins x) (hlim : s₁.heap.NoLimit) (hg : s₁.gens = #[])
    (ha : s₁.heap.get? a = some { cls := .type "list", data := .seq vs.toArray }) (hi : IntsAre vs ns) (hl : ns.length ≤ sizeLine) (hr : Room k callerA)
    (F : ∀ base : Heap, K.In base → base.Ns mainGlobals mg → FnOk P w K mg base CX k fa fd [x] sp) (hbind : ∀ (s : Shared) (u : Value), BindsTo s fd ⟨[u], []⟩ [(x, u)])
    (hsp : ∀ H : Hp, Only H → SqL K H a (ns.map V.int) → sp [.ref a] H (fun v _ => v = .bl true) fun _ _ _ => False)
    (hCX : ∀ H e s', CX [] H s₁ (fun _ _ _ => False) e s' → False) :
    codeAny (model P w) callerA (.call (.ref fa) ⟨[.ref a], []⟩) (fun r s' => r = .ok (.ret (.bool true)) ∧ OldK s₁.heap s'.heap ∧ s'.os = s₁.os ∧ AllBare s'.gens) s₁ := by
  have rv := vals_ints hi
  have lenV := hi.length
  -- from an abstract heap in which nothing but the script may be tracked
  have core : ∀ H : Hp, Only H → SqL K H a (ns.map V.int) → HOk P w H s₁.heap → (∀ b, H b ≠ none → b = a) → (H a ≠ none → K.lookup a = none) →
      codeAny (model P w) callerA (.call (.ref fa) ⟨[.ref a], []⟩) (fun r s' => r = .ok (.ret (.bool true)) ∧ OldK s₁.heap s'.heap ∧ s'.os = s₁.os ∧ AllBare s'.gens) s₁ := by
    intro H hO hS hok hA hK
    have base_of : ∀ {b : Addr} {o : Obj}, s₁.heap.get? b = some o → H b = none → (hidT s₁.heap H).get? b = some o := fun e n => hidT_get e n
    have noA : ∀ {b : Addr} {o : Obj} {es : Array DictEntry} {ep : Nat}, s₁.heap.get? b = some o → o.data = .dict es ep → H b = none := fun {b o es ep} e d => by
      cases q : H b with
      | none => rfl
      | some u =>
        have e' : b = a := hA b (by rw [q]; simp)
        subst e'
        rw [ha] at e; cases e
        have d' : Data.seq vs.toArray _ = Data.dict es ep := d
        cases d'
    have nsK : ∀ {b : Addr} {m : Str → Option Value}, s₁.heap.Ns b m → (hidT s₁.heap H).Ns b m := fun {b m} ⟨o, es, ep, e, d, r⟩ => ⟨o, es, ep, base_of e (noA e d), d, r⟩
    have hKb : K.In (hidT s₁.heap H) := fun b o e => base_of (KX b o e) (by
      cases q : H b with
      | none => rfl
      | some u =>
        have e' : b = a := hA b (by rw [q]; simp)
        subst e'
        rw [hK (by rw [q]; simp)] at e; cases e)
    have hM : Mod K mg (hidT s₁.heap H) := ⟨hKb, nsK hns, ⟨mb, nsK hb, hbb⟩, let ⟨mc, h1, h2⟩ := hlim; ⟨mc, nsK h1, h2⟩⟩
    have e0 : Env0 P w K mg (hidT s₁.heap H) callerA [] s₁ H := ⟨rfl, hM, fun b o e => of_hidT e, Nat.le_of_eq (hidT_size _ _), trivial, fun b hb => absurd (show b ∈ ([] : List Addr) from hb) (by simp), hok, .of_eq hg⟩
    refine codeAny_mono ((F _ hKb (nsK hns)).run callerA [] s₁ H ⟨[.ref a], []⟩ [.ref a] [.ref a] _ _ hr e0 (hbind s₁ (.ref a)) (.cons rfl .nil) (hsp H hO hS)) fun r s' h => ?_
    cases r with
    | error e => exact (hCX H e s' h).elim
    | ok fl =>
      cases fl with
      | next => exact False.elim h
      | brk => exact False.elim h
      | cont => exact False.elim h
      | ret u =>
        obtain ⟨v, H', os, bare, un, hok', r', q⟩ := h
        have q' : v = .bl true := q
        subst q'
        obtain rfl : u = Value.bool true := r'
        refine ⟨rfl, OldK.of_keep fun b o e => ?_, os, bare⟩
        cases q : H b with
        | none => exact un.keep b o e q (by intro z; exact absurd (show b ∈ ([] : List Addr) from z) (by simp)) (by simp)
        | some u =>
          rcases hO b with z | ⟨ob, xs, z⟩
          · rw [q] at z; cases z
          · have z2 := un.frzs b ob _ z
            obtain ⟨e1, _⟩ := hok b _ z
            obtain ⟨e2, _⟩ := hok' b _ z2
            rw [e] at e1; cases e1
            exact e2
  cases hk : K.lookup a with
  | some o =>
    -- the script is one of the module's own objects
    have e := KX a o hk
    rw [ha] at e
    cases e
    refine core (fun _ => none) (fun _ => .inl rfl) (.inr ⟨_, vs.toArray, _, hk, rfl, rfl, rfl, by rw [List.size_toArray, lenV]; exact hl, by simpa using rv⟩) (fun b u z => by have z' : (none : Option HO) = some u := z; cases z') (fun b z => absurd rfl z) fun z => absurd rfl z
  | none =>
    refine core (fun b => if b = a then some (.frz { cls := .type "list", data := .seq vs.toArray } (.lst (ns.map V.int))) else none) (fun b => ?_) (.inl (.inr ⟨{ cls := .type "list", data := .seq vs.toArray }, if_pos rfl⟩)) (fun b u z => ?_) (fun b z => ?_) fun _ => hk
    · by_cases hb : b = a
      · exact .inr ⟨_, _, if_pos hb⟩
      · exact .inl (if_neg hb)
    · by_cases hb : b = a
      · have z' := (if_pos hb).symm.trans z
        cases z'
        subst hb
        exact ⟨ha, by rw [List.length_map]; exact hl, vs, _, rv, ha⟩
      · have z' := (if_neg hb).symm.trans z
        cases z'
    · by_cases hb : b = a
      · exact hb
      · exact absurd (if_neg hb) z
end L2

namespace L2
open PySem PySem.Spec PyProof.Rows


theorem walk_of {l : PySem.W.OpenLaw} {n k : Nat} {q : Program} {loose : List Str} {XP : (Str → Option Value) → Heap → Prop} {YP : World → Heap → Prop} {d : DefRec} {K : Params → PySem.W.Frag} {CX : World → CXT} {sp : World → Sp} {x : Str}
    (hn : l.most = some n) (hn2 : n ≤ sizeLine) (hdf : d.params.defaults = []) (hr : Room k callerA)
    (hY : ∀ (w : World) (h : Heap), YP w h → (K w.params).In h)
    (F : ∀ (w : World) (mg : Str → Option Value) (fa : Addr) (h : Heap), (K w.params).In h → h.Ns mainGlobals mg → mg d.name = some (.ref fa) →
      ∃ fd : FuncData, (∀ (s : Shared) (u : Value), BindsTo s fd ⟨[u], []⟩ [(x, u)]) ∧
        ∀ base : Heap, (K w.params).In base → base.Ns mainGlobals mg → FnOk l.prog w (K w.params) mg base (CX w) k fa fd [x] (sp w))
    (hsp : ∀ (w : World) (H : Hp) (a : Addr) (ns : List Int), ns.length ≤ n → Only H → SqL (K w.params) H a (ns.map V.int) → sp w [.ref a] H (fun v _ => v = .bl true) fun _ _ _ => False)
    (hCX : ∀ (w : World) (H : Hp) (s : Shared) (e : Value) (s' : Shared), CX w [] H s (fun _ _ _ => False) e s' → False) :
    PySem.W.WalkO q loose XP YP l.row.toRowW d [] (fun f vs => PySem.call f vs) := by
  refine Att.attach_call hn hdf fun w s₀ s₁ mg mb fa o pm cd doc a vs ns G Y ho hd hcd hmg hobj hints hlen hg => ?_
  have KX := hY w _ Y
  obtain ⟨fd, hb, hF⟩ := F w mg fa _ KX G.T.g hmg
  exact law_call KX G.T.g G.T.b G.T.builtins G.T.nolimit hg hobj hints (Nat.le_trans hlen hn2) hr hF hb (fun H hO hS => hsp w H a ns hlen hO hS) fun H e s' => hCX w H s₁ e s'
end L2



namespace L2
open PySem PySem.Spec PyProof.Rows

noncomputable def inClass (s : Stmt) (j : Nat) : Stmt := match s with
  | .ClassDef _ _ _ body _ _ _ _ _ _ _ => body.getD j (.Pass ⟨0, 0, 0, 0⟩)
  | _ => .Pass ⟨0, 0, 0, 0⟩
noncomputable def defArgs (s : Stmt) : Arguments := match s with
  | .FunctionDef _ a _ _ _ _ _ _ _ _ => a
  | _ => { posonlyargs := [], args := [], vararg := none, kwonlyargs := [], kw_defaults := [], kwarg := none, defaults := [] }
noncomputable def defBody (s : Stmt) : List Stmt := match s with
  | .FunctionDef _ _ b _ _ _ _ _ _ _ => b
  | _ => []
noncomputable def defScope (s : Stmt) : Scope := match s with
  | .FunctionDef _ _ _ _ _ _ sc _ _ _ => sc
  | _ => { kind := .function, names := [], isGenerator := false, isCoroutine := false }

noncomputable abbrev CX0 : CXT := fun _ _ _ _ _ _ => False
noncomputable abbrev E0 : XK := fun _ _ _ => False
theorem pass0 {X : Cx} : Passes CX0 X E0 := fun _ _ _ _ _ _ _ h => h.elim

structure Fun (K : PySem.W.Frag) (x qual : Str) (st : Stmt) (f : Addr) (fd : FuncData) : Prop where
  ex : ∃ (oc : Value) (od : Option Addr) (kV doc pm : Value) (an : Option Addr) (cdv ct : Value) (osl : Array (Option Value)),
    fd = PySem.W.fnOf x qual (defArgs st) (defBody st) (defScope st) .none kV doc pm an cdv ct ∧ K.lookup f = some ⟨oc, od, .func fd, osl⟩ ∧ PySem.W.codeIn K cdv qual = true
  kp : PySem.W.keepIn K (.ref f) = true
section
variable {P : Program} {w : World} {K : PySem.W.Frag} {mg : Str → Option Value} {base : Heap}
theorem Fun.ok {x qual : Str} {st : Stmt} {f : Addr} {fd : FuncData} {N ps : List Str} {k : Nat} {sp : Sp} (F : Fun K x qual st f fd) (S : FnScope N ps (defScope st)) (len : ∀ vs H Q E, sp vs H Q E → vs.length = ps.length)
    (hbody : ∀ (cdv : Value) (A : Around) (outer : List Env) (s : Shared) (H : Hp) (vs : List V) (Q : VK) (E : XK), Room k (A.deeper (envOfC qual (defScope st) s.heap.objs.size f cdv)) → sp vs H Q E →
      ∃ t, PSs (cxOf CX0 P w K mg base N qual (defScope st) f cdv A outer s H E).nox (defBody st) t ∧ t { nx := fun _ H' => Q .non H', rt := Q } (start N vs) H) : FnOk P w K mg base CX0 (k + 1) f fd ps sp := by
  obtain ⟨oc, od, kV, doc, pm, an, cdv, ct, osl, rfl, lk, hcd⟩ := F.ex
  refine fn_of lk hcd S len fun A outer s H vs Q E hr hsp => ?_
  obtain ⟨t, h, q⟩ := hbody cdv A outer s H vs Q E hr hsp
  exact ⟨t, h.nox, q⟩
theorem Fun.binds {x qual : Str} {st : Stmt} {f : Addr} {fd : FuncData} {ps : List Str} (F : Fun K x qual st f fd)
    (h : ∀ (kV doc pm : Value) (an : Option Addr) (cdv ct : Value) (us : List Value), us.length = ps.length → bindArgs (PySem.W.fnOf x qual (defArgs st) (defBody st) (defScope st) .none kV doc pm an cdv ct) ⟨us, []⟩ = pure (ps.zip us)) : Binds K fd ps [] := by
  obtain ⟨oc, od, kV, doc, pm, an, cdv, ct, osl, rfl, lk, hcd⟩ := F.ex
  exact .all (h kV doc pm an cdv ct)
theorem fun_mk {x qual : Str} {st : Stmt} {f : Addr} {oc : Value} {od an : Option Addr} {osl : Array (Option Value)} {kV doc pm cdv ct : Value} (l : K.lookup f = some ⟨oc, od, .func (PySem.W.fnOf x qual (defArgs st) (defBody st) (defScope st) .none kV doc pm an cdv ct), osl⟩)
    (c : PySem.W.codeIn K cdv qual = true) (k : PySem.W.keepIn K (.ref f) = true) : Fun K x qual st f (PySem.W.fnOf x qual (defArgs st) (defBody st) (defScope st) .none kV doc pm an cdv ct) := ⟨⟨oc, od, kV, doc, pm, an, cdv, ct, osl, rfl, l, c⟩, k⟩
end
theorem hu_of {A : Around} {k : Nat} (hr : Room k A) : A.units + 1 < cLine := Nat.lt_of_le_of_lt (Nat.add_le_add_left (by decide : 1 ≤ 64) _) hr.units
theorem small1000 {n : Nat} (h : n ≤ 1000) : n < sizeLine := Nat.lt_of_le_of_lt h (by decide)

section
variable {X : Cx}
theorem pv (i : Nat) {x : Str} {pos : Pos} (hN : X.N[i]? = some x := by rfl) (hv : Vis X.env.scope x := by first | exact Or.inl rfl | exact Or.inr (Or.inl rfl) | exact Or.inr (Or.inr rfl)) (hd : (x == ("__debug__" : Str)) = false := by decide)
    (hcd : (x == ("__classdict__" : Str)) = false := by decide) : PE X (.Name x pos) (tVar i) := pe_var hN hv hd hcd
end

theorem iteF {A B : Prop} (h : B) : if false = true then A else B := by
  rw [if_neg Bool.false_ne_true]
  exact h
theorem iteT {A B : Prop} (h : A) : if true = true then A else B := by
  rw [if_pos rfl]
  exact h

noncomputable def Same (H H' : Hp) : Prop := ∀ b o, H b = some o → H' b = some o
theorem Same.refl (H : Hp) : Same H H := fun _ _ h => h
theorem Same.trans {H H1 H2 : Hp} (a : Same H H1) (b : Same H1 H2) : Same H H2 := fun c o h => b c o (a c o h)
theorem Same.free {H H' : Hp} (e : Same H H') {l : Addr} (h : H' l = Option.none) : H l = Option.none := by
  cases q : H l with
  | none => rfl
  | some o =>
    rw [e l o q] at h
    cases h
theorem Same.seq {K : PySem.W.Frag} {H H' : Hp} {a : Addr} {xs : List V} (e : Same H H') (h : SqL K H a xs) : SqL K H' a xs := by
  rcases h with (h | ⟨o, h⟩) | h
  · exact .inl (.inl (e _ _ h))
  · exact .inl (.inr ⟨o, e _ _ h⟩)
  · exact .inr h

end L2
namespace L2
open PySem PySem.Spec PyProof.Rows

section
variable {X : Cx} {pins : List (Addr × Obj)} {σ : St} {H : Hp} {s : Shared} {h' : Heap}
theorem Inv.turnedLaid {ch : List Addr} {a : Addr} {o : HO} {t' : Nat} (I : Inv X pins σ H s) (k : ∀ b u, b ∉ ch → s.heap.get? b = some u → h'.get? b = some u)
    (hch : ∀ b ∈ ch, FpOk X pins H b) (hp : s.heap.objs.size ≤ a) (new : ObjOk X.prog X.w (upd H a o) h' a o) : Inv X pins σ (upd H a o) { s with heap := h', toks := t' } := by
  have hfr : H a = none := I.hok.fresh hp
  have old : ∀ b ob, s.heap.get? b = some ob → b ≠ a := fun b ob e z => by subst z; exact absurd (Nat.lt_of_lt_of_le (Heap.lt_size e) hp) (Nat.lt_irrefl _)
  have tr : ∀ b u, H b = some u → b ≠ a := fun b u e z => by rw [z, hfr] at e; cases e
  have trc : ∀ b u, H b = some u → b ∉ ch := fun b u e z => by rw [(hch b z).1] at e; cases e
  refine I.step (g' := s.gens) (d' := s.drawn) (ch := ch) (fun b hb => ?_) (fun b ob _ _ hc e _ => k b ob hc e) (fun b ob _ _ hc e _ => ⟨ob.slots, k b ob hc e⟩) (fun b ob _ e n => ?_)
    (fun b ob hc e => ⟨ob, k b ob hc e⟩) (fun b xs e => ?_) (fun b ob u e => ?_) (fun b ps e => ⟨#[], ?_⟩) (fun m hm => ?_) (fun b u e => ?_) I.bare
  · obtain ⟨_, f1, _, f3, f4, f5⟩ := hch b hb
    exact ⟨f3, f1, f4, f5⟩
  · rw [upd_ne (old b ob e)]; exact n
  · rw [upd_ne (tr b _ e)]; exact e
  · rw [upd_ne (tr b _ e)]; exact e
  · rw [upd_ne (tr b _ e), e]; simp
  · obtain ⟨ob, es, ep, ho, r⟩ := hm
    exact ⟨ob, es, ep, k _ ob (fun z => (hch _ z).2.1 rfl) ho, r⟩
  · by_cases hb : b = a
    · subst hb
      rw [upd_same] at e; cases e
      exact new
    · rw [upd_ne hb] at e
      refine (I.hok b u e).stay (fun c v hc q => k c v ?_ q) (fun c q => by rw [upd_ne (tr c _ q)]; exact q) fun c xs q => by rw [upd_ne (tr c _ q)]; exact q
      rcases hc with z | z
      · rw [z]; exact trc b u e
      · exact trc c _ z
end

noncomputable def Ite (K : PySem.W.Frag) (a : Addr) : It :=
  ⟨fun i H => ∃ xs x, SqL K H a xs ∧ xs[i]? = some x,
   fun i H x H' => ∃ p v, H p = none ∧ x = .ref p ∧ (∀ xs, SqL K H a xs → xs[i]? = some v) ∧ H' = upd H p (.tup [.int (i : Int), v]),
   fun i H => ∃ xs, SqL K H a xs ∧ xs.length = i⟩
theorem turn_enum {P : Program} {w : World} {K : PySem.W.Frag} {elts : List Expr} {k : Nat} {tp : Pos} (a e it : Addr) (hne : e ≠ it) :
    Turn P w K (.Tuple elts k tp) (Ite K a) [e, it] e (fun i h => (∃ old, IsEnum h e it (i : Int) old) ∧ h.IsListIter it a i) where
  mem := by simp
  obj := fun i h st b hb => by
    obtain ⟨⟨old, he⟩, hit⟩ := st
    rcases List.mem_cons.mp hb with rfl | hb
    · exact ⟨_, he, fun v z => by
        have z' : Data.fields _ = Data.cell v := z
        cases z'⟩
    · have e : b = it := by simpa using hb
      subst e
      obtain ⟨o, e, c, d⟩ := hit
      exact ⟨o, e, fun v z => by rw [d] at z; cases z⟩
  keep := fun i h h' st k => by
    obtain ⟨⟨old, he⟩, hit⟩ := st
    exact ⟨⟨old, k e (by simp) _ he⟩, hit.at fun o q => k it (by simp) o q⟩
  item := by
    intro X hP hw hK hc i pins s σ H E I hf st hg
    subst hP hw hK
    obtain ⟨⟨old, he⟩, hit⟩ := st
    obtain ⟨xs, x, hq, hx⟩ := hg
    obtain ⟨its, rv, p, hz⟩ := I.list hq
    obtain ⟨u, hu, ru⟩ := rv.get hx
    have hai : a ≠ it := fun z => by
      obtain ⟨o, n, e1, c1, _⟩ := p
      obtain ⟨o', e2, c2, _⟩ := hit
      rw [z, e2] at e1; cases e1
      rw [c1] at c2
      exact absurd (Value.type.inj c2) (by decide)
    have hae : a ≠ e := fun z => by
      obtain ⟨o, n, e1, c1, _⟩ := p
      rw [z, he] at e1; cases e1
      exact absurd (Value.type.inj c1) (by decide)
    have hlt : i < its.toArray.size := by
      rw [List.size_toArray]
      exact (List.getElem?_eq_some_iff.mp hu).1
    have hel : e < s.heap.objs.size := Heap.lt_size he
    have hil : it < s.heap.objs.size := by obtain ⟨o, q, _⟩ := hit; exact Heap.lt_size q
    refine wpAny_pyNext_enum_itemD (Draws.list (A := X.A.in1) (I.ok.hd hc) it a hai its.toArray) he ⟨hit, p.isList⟩ hlt hne (by
      intro z
      rcases List.mem_cons.mp z with z | z
      · exact hne z
      · exact hae (List.mem_singleton.mp z).symm) fun y h1 tk hy ho hs1 hT hsz hk => ?_
    have hyu : y = u := by
      have e1 : its[i]? = some y := by simpa using hy
      rw [hu] at e1
      exact (Option.some.inj e1).symm
    subst hyu
    refine ⟨_, rfl, wpAny_letOwnedTupleGo_enum ho fun h2 he2 hs2 => ?_⟩
    have kk : ∀ b o, b ∉ [e, it] → s.heap.get? b = some o → h2.get? b = some o := fun b o hb q => by
      have b1 : b ≠ e := fun z => hb (by simp [z])
      have b2 : b ≠ it := fun z => hb (by simp [z])
      exact (hs2.2 b b1).trans (hk b o b1 b2 q)
    have hTe : s.heap.objs.size ≠ e := Nat.ne_of_gt hel
    refine ⟨.ref s.heap.objs.size, upd H s.heap.objs.size (.tup [.int (i : Int), x]), ?_, rfl, ⟨_, x, I.hok.fresh (Nat.le_refl _), rfl, fun ys hy => by rw [I.list_inj hy hq]; exact hx, rfl⟩,
      ⟨⟨_, by simpa using he2⟩, hs1.1.at fun o q => (hs2.2 it (Ne.symm hne)).trans q⟩, fun b hb => ?_⟩
    · refine I.turnedLaid (ch := [e, it]) (t' := tk + 1) kk hf (Nat.le_refl _) ⟨by show 2 ≤ sizeLine; decide, [.int (i : Int) tk, y], .cons ⟨_, rfl⟩ (.cons ru .nil), ?_⟩
      exact ⟨_, (hs2.2 _ hTe).trans hT, rfl, _, rfl, rfl⟩
    · have hb' := hf b hb
      have : b ≠ s.heap.objs.size := by
        rcases List.mem_cons.mp hb with rfl | hb
        · exact Nat.ne_of_lt hel
        · rw [List.mem_singleton.mp hb]; exact Nat.ne_of_lt hil
      rw [upd_ne this]
      exact hb'.1
  done := by
    intro X hP hw hK hc i pins s σ H E I hf st hg
    subst hP hw hK
    obtain ⟨⟨old, he⟩, hit⟩ := st
    obtain ⟨xs, hq, hx⟩ := hg
    obtain ⟨its, rv, p, hz⟩ := I.list hq
    have hai : a ≠ it := fun z => by
      obtain ⟨o, n, e1, c1, _⟩ := p
      obtain ⟨o', e2, c2, _⟩ := hit
      rw [z, e2] at e1; cases e1
      rw [c1] at c2
      exact absurd (Value.type.inj c2) (by decide)
    have hl := rv.length
    have hi : i = its.toArray.size := by rw [List.size_toArray]; omega
    subst hi
    obtain ⟨f0, f1, f2, f3, f4, f5⟩ := hf it (by simp)
    exact wpAny_pyNext_enum_endD (Draws.list (A := X.A.in1) (I.ok.hd hc) it a hai its.toArray) he ⟨hit, p.isList⟩ fun h1 eb => ⟨rfl, I.turned (t' := s.toks) (fun b o hb q => eb b o hb q) f0 f1 f3 f4 f5⟩
  self := fun _ _ _ _ _ st h => by
    obtain ⟨⟨old, he⟩, _⟩ := st
    exact wpAny_pyIter_enum he h
inductive J_iEnum (K : PySem.W.Frag) (R : It → Hp → Prop) (vs : List V) (H1 : Hp) : Prop
  | mk : ∀ a, (vs = [.ref a]) → ((∃ xs, SqL K H1 a xs)) → (R (Ite K a) H1) → J_iEnum K R vs H1
noncomputable def iEnum (K : PySem.W.Frag) (ta : TA) : TI := fun σ H R => ta σ H fun vs H1 => J_iEnum K R vs H1
theorem boot_enum : bootBuiltins "enumerate" = some (.type "enumerate") := by decide +kernel
section
variable {X : Cx}
theorem pi_enum {l : Expr} {ta : TA} {elts : List Expr} {k : Nat} {tp p pos : Pos} (hg : Gl X "enumerate") (hm : X.mg "enumerate" = none) (ha : PA X [l] ta) (hs : starEach [l] X.env = [(false, eval l X.env)] := by rfl) :
    PI X (.Tuple elts k tp) (.Call (.Name "enumerate" p) [l] [] pos) (iEnum X.K ta) := by
  intro pins s σ H R I h
  refine Call_ (ld_blt I hg hm boot_enum (PyProof.Rows.callWith_type1 (thn (ha pos pins s σ H _ I h) fun us s1 ⟨vs, H1, I1, r1, q1⟩ => ?_) hs rfl))
  obtain ⟨a, e, ⟨xs, hq⟩, q⟩ := q1
  subst e
  obtain ⟨u, rfl, ru⟩ := vals1 r1
  cases ru
  obtain ⟨its, rv, pl, hz⟩ := I1.list hq
  refine call_enumerate_list pl.isList fun h1 he hit hsz hk => ?_
  have I2 : Inv X pins σ H1 { s1 with heap := h1 } := I1.kept (t' := s1.toks) hk
  have hne : s1.heap.objs.size + 1 ≠ s1.heap.objs.size := Nat.succ_ne_self _
  refine wpAny_pyIter_enum (s := { s1 with heap := h1 }) he ⟨_, [s1.heap.objs.size + 1, s1.heap.objs.size], _, _, H1, rfl, I2, turn_enum a _ _ hne, ⟨⟨_, he⟩, hit⟩, fun b hb => ?_, q⟩
  rcases List.mem_cons.mp hb with rfl | hb
  · exact I1.fpOk (Nat.le_succ _) (I1.hok.fresh (Nat.le_succ _))
  · rw [List.mem_singleton.mp hb]
    exact I1.fpOk (Nat.le_refl _) (I1.hok.fresh (Nat.le_refl _))

end

theorem for_enum {K : PySem.W.Frag} {a : Addr} {xs : List V} {g : TG} {tb : TS} {D : Ends} {σ : St} {H : Hp} (Pv : Nat → St → Hp → Prop) (h0 : Pv 0 σ H) (hl : ∀ i σ H, i ≤ xs.length → Pv i σ H → SqL K H a xs)
    (hs : ∀ i x p σ H, xs[i]? = some x → Pv i σ H → H p = none → g (.ref p) σ (upd H p (.tup [.int (i : Int), x])) fun σ2 H2 => tb { D with nx := Pv (i + 1), ct := Pv (i + 1), bk := D.nx } σ2 H2) (hd : ∀ σ H, Pv xs.length σ H → D.nx σ H) :
    ∃ W : Nat → Nat → St → Hp → Prop, (∃ m, W 0 m σ H) ∧ ∀ i m σ H, W i m σ H →
      ((Ite K a).stop i H ∧ D.nx σ H) ∨ ((Ite K a).go i H ∧ ∃ N : St → Hp → Prop, (∀ σ' H', N σ' H' → ∃ m', m' < m ∧ W (i + 1) m' σ' H') ∧ ∀ x H', (Ite K a).yld i H x H' → g x σ H' fun σ2 H2 => tb { D with nx := N, ct := N, bk := D.nx } σ2 H2) := by
  refine ⟨fun i m σ H => m = xs.length - i ∧ i ≤ xs.length ∧ Pv i σ H, ⟨xs.length, by simp, Nat.zero_le _, h0⟩, ?_⟩
  rintro i m σ H ⟨rfl, hi, p⟩
  have q := hl i σ H hi p
  by_cases hlt : i < xs.length
  · refine .inr ⟨⟨xs, xs[i], q, by simp [hlt]⟩, Pv (i + 1), fun σ' H' p' => ⟨xs.length - (i + 1), by omega, rfl, hlt, p'⟩, fun x H' y => ?_⟩
    obtain ⟨pa, v, hpa, rfl, hv, rfl⟩ := y
    exact hs i v pa σ H (hv xs q) p hpa
  · have e : i = xs.length := by omega
    subst e
    exact .inl ⟨⟨xs, q, rfl⟩, hd σ H p⟩

section
variable {X : Cx}
theorem foldl_cps (a : Array Nat) : ∀ (k : Nat) (acc : Array Nat), ((List.replicate k a).foldl (· ++ ·) acc).toList = acc.toList ++ (List.replicate k a.toList).flatten
  | 0, acc => by simp
  | k + 1, acc => by
    rw [List.replicate_succ, List.foldl_cons, foldl_cps a k, List.replicate_succ, List.flatten_cons, Array.toList_append, List.append_assoc]
noncomputable def timesS (z : Str) (n : Nat) : Str := ⟨(List.replicate n z.cps.toList).flatten.toArray⟩
theorem timesS_len (z : Str) (n : Nat) : (timesS z n).length = n * z.length := by
  unfold timesS Str.length
  simp [List.length_flatten]
inductive J_op_mul_str (x : V) (y : V) (H : Hp) (Q : VK) : Prop
  | mk : ∀ z n, (x = .str z) → (y = .int n) → (1 ≤ n) → (n ≤ 1000) → (z.length ≤ 1000) → (Q (.str (timesS z n.toNat)) H) → J_op_mul_str x y H Q
theorem op_mul_str : OpR X (binaryOp .Mult) (fun x y H Q => J_op_mul_str x y H Q) := by
  intro pins s σ H x y v u Q I rx ry h
  obtain ⟨z, n, rfl, rfl, h1, h2, h3, q⟩ := h
  obtain ⟨t, rfl⟩ := rx
  obtain ⟨t', rfl⟩ := ry
  have e0 : (⟨(List.replicate n.toNat z.cps).foldl (· ++ ·) #[]⟩ : Str) = timesS z n.toNat := by
    unfold timesS
    congr 1
    apply Array.toList_inj.mp
    rw [foldl_cps]
    simp
  have hlen : (timesS z n.toNat).length ≤ sizeLine := by
    rw [timesS_len]
    have : n.toNat ≤ 1000 := by omega
    have := Nat.mul_le_mul this h3
    exact Nat.le_trans this (by decide)
  have e1 : (n == 1 || z.length == 0) = true → timesS z n.toNat = z := fun hc => by
    unfold timesS
    rcases Bool.or_eq_true_iff.mp hc with hc | hc
    · have : n = 1 := by simpa using hc
      subst this
      simp
    · have hz : z.length = 0 := by simpa using hc
      have hz' : z.cps = #[] := Array.eq_empty_of_size_eq_zero hz
      cases z with
      | mk c =>
        simp only at hz'
        subst hz'
        simp
  refine PySem.P.mul_str (by
      have h1' : ¬ n < -(2 ^ 63 : Int) := by omega
      have h2' : ¬ n ≥ 2 ^ 63 := by omega
      rw [decide_eq_false h1', decide_eq_false h2']; rfl) (fun _ _ => ?_) (fun _ _ => ?_) ?_
  · have e : ((2 : Int) ^ 63 - 1) = 9223372036854775807 := by decide
    rw [e]
    have h4 : (1000 : Int) ≤ (9223372036854775807 : Int) / n := by
      refine (Int.le_ediv_iff_mul_le (by omega)).mpr ?_
      omega
    omega
  · unfold Builtin.Str.tooLong
    rw [timesS_len] at hlen
    exact decide_eq_false (by rw [Nat.mul_comm]; omega)
  · rw [if_neg (by omega)]
    by_cases hc : (n == 1 || z.length == 0) = true
    · rw [if_pos hc]
      exact ⟨.str z, H, I, ⟨_, rfl⟩, by rw [e1 hc] at q; exact q⟩
    · rw [if_neg hc]
      exact ⟨by rw [e0]; exact hlen, ⟨.str _, H, I.tok _, ⟨_, rfl⟩, by rw [e0]; exact q⟩⟩
inductive J_rSlS (x : V) (lo : Option Int) (hi : Option Int) (H : Hp) (Q : VK) : Prop
  | mk : ∀ z, (x = .str z) → (z.length ≤ sizeLine) → (Q (.str (Txt.slice z lo hi)) H) → J_rSlS x lo hi H Q
noncomputable def rSlS : V → Option Int → Option Int → Hp → VK → Prop := fun x lo hi H Q => J_rSlS x lo hi H Q
theorem sl_str : SlR X rSlS := by
  intro pins s σ H x v vl vu lo hi sl Q I rx hs pl pu h
  obtain ⟨z, rfl, hz, q⟩ := h
  obtain ⟨t, rfl⟩ := rx
  refine ⟨"str", _, F.slot_str_getitem.lookup, typeIs_str _ _ _, ?_⟩
  obtain ⟨o, ho, hc, hd⟩ := hs
  have fin : ∀ t' k, EP X pins σ Q (.str (Txt.slice z lo hi) t') { s with toks := k } := fun t' k => ⟨.str _, H, I.tok _, ⟨_, rfl⟩, q⟩
  cases pl with
  | none =>
    cases pu with
    | none => exact wpAny_getItem_str_slice (l := none) (u := none) (st := none) ⟨o, ho, hc, hd⟩ rfl (post_val_or_str ⟨Nat.le_trans (Txt.slice_le z _ _) hz, fin⟩)
    | int j uj => exact wpAny_getItem_str_slice (l := none) (u := some (j, uj)) (st := none) ⟨o, ho, hc, hd⟩ rfl (post_val_or_str ⟨Nat.le_trans (Txt.slice_le z _ _) hz, fin⟩)
  | int i ui =>
    cases pu with
    | none => exact wpAny_getItem_str_slice (l := some (i, ui)) (u := none) (st := none) ⟨o, ho, hc, hd⟩ rfl (post_val_or_str ⟨Nat.le_trans (Txt.slice_le z _ _) hz, fin⟩)
    | int j uj => exact wpAny_getItem_str_slice (l := some (i, ui)) (u := some (j, uj)) (st := none) ⟨o, ho, hc, hd⟩ rfl (post_val_or_str ⟨Nat.le_trans (Txt.slice_le z _ _) hz, fin⟩)
inductive J_call_isT (kK : PySem.W.Frag) (xs : List V) (H : Hp) (Q : VK) : Prop
  | mk : ∀ x T t b, (xs = [x, .ty T]) → (TyOf kK H x t) → (PySem.W.kitOne kK t (.type T) = some b) → (Q (.bl b) H) → J_call_isT kK xs H Q
theorem call_isT : CallR X (.builtin "isinstance") (fun xs H Q => J_call_isT X.K xs H Q) := by
  intro pins s σ H xs us Q I r h
  obtain ⟨x, T, t, b, rfl, ty, e, q⟩ := h
  obtain ⟨u, w', rfl, rx, ry⟩ := vals2 r
  cases ry
  exact isinst_ok I rx ty e fun tk => ⟨.bl b, H, I.tok _, rfl, q⟩
end
end L2
namespace L2
open PySem PySem.Spec PyProof.Rows

noncomputable def capsOf (cells : List (Str × Addr)) : List (Str × NameKind) → List (Str × Addr) → List (Str × Addr)
  | [], acc => acc
  | (n, k) :: r, acc => if k == .free then (match cells.lookup n with | some c => capsOf cells r ((n, c) :: acc) | none => capsOf cells r acc) else capsOf cells r acc
theorem capsOf_cells {cells : List (Str × Addr)} : ∀ {names : List (Str × NameKind)} {acc : List (Str × Addr)} {x : Str} {c : Addr}, (∀ x c, acc.lookup x = some c → cells.lookup x = some c) → (capsOf cells names acc).lookup x = some c → cells.lookup x = some c
  | [], _, x, c, ha, h => ha x c h
  | (n, k) :: r, acc, x, c, ha, h => by
    unfold capsOf at h
    by_cases hk : (k == NameKind.free) = true
    · rw [if_pos hk] at h
      cases e : cells.lookup n with
      | none =>
        rw [e] at h
        exact capsOf_cells ha h
      | some d =>
        rw [e] at h
        refine capsOf_cells (fun y z hy => ?_) h
        rw [List.lookup_cons] at hy
        cases q : y == n with
        | true =>
          rw [q] at hy
          have : y = n := by simpa using q
          rw [this, e]; exact hy
        | false =>
          rw [q] at hy
          exact ha y z hy
    · rw [if_neg hk] at h
      exact capsOf_cells ha h
theorem capsOf_acc {cells : List (Str × Addr)} : ∀ {names : List (Str × NameKind)} {acc : List (Str × Addr)} {x : Str}, (acc.lookup x).isSome = true → ((capsOf cells names acc).lookup x).isSome = true
  | [], _, _, h => h
  | (n, k) :: r, acc, x, h => by
    unfold capsOf
    by_cases hk : (k == NameKind.free) = true
    · rw [if_pos hk]
      cases e : cells.lookup n with
      | none => exact capsOf_acc h
      | some d =>
        refine capsOf_acc ?_
        rw [List.lookup_cons]
        cases q : x == n with
        | true => rfl
        | false => exact h
    · rw [if_neg hk]; exact capsOf_acc h
theorem capsOf_has {cells : List (Str × Addr)} : ∀ {names : List (Str × NameKind)} {acc : List (Str × Addr)} {x : Str}, (x, NameKind.free) ∈ names → (cells.lookup x).isSome = true → ((capsOf cells names acc).lookup x).isSome = true
  | [], _, _, h, _ => nomatch h
  | (n, k) :: r, acc, x, h, hc => by
    unfold capsOf
    rcases List.mem_cons.mp h with e | h
    · cases e
      rw [if_pos (show (NameKind.free == NameKind.free) = true from rfl)]
      cases e : cells.lookup n with
      | none => rw [e] at hc; cases hc
      | some d =>
        refine capsOf_acc ?_
        rw [List.lookup_cons]
        simp
    · by_cases hk : (k == NameKind.free) = true
      · rw [if_pos hk]
        cases e : cells.lookup n with
        | none => exact capsOf_has h hc
        | some d => exact capsOf_has h hc
      · rw [if_neg hk]; exact capsOf_has h hc
theorem caps_cells {cells : List (Str × Addr)} {names : List (Str × NameKind)} {x : Str} {c : Addr} (h : (capsOf cells names []).lookup x = some c) : cells.lookup x = some c :=
  capsOf_cells (fun _ _ z => by simp at z) h
theorem forIn_caps {env : Env} : ∀ (names : List (Str × NameKind)) (acc : List (Str × Addr)), (∀ y ∈ names, y.2 = .free → ∃ c, env.cells.lookup y.1 = some c) →
    (forIn names acc fun x r => match x with
      | (name, kind) => if (kind == NameKind.free) = true then (do let c ← cellOf env name; pure (ForInStep.yield ((name, c) :: r))) else pure (ForInStep.yield r) : Sem (List (Str × Addr))) = pure (capsOf env.cells names acc)
  | [], acc, _ => rfl
  | (n, k) :: r, acc, h => by
    have hr : ∀ y ∈ r, y.2 = .free → ∃ c, env.cells.lookup y.1 = some c := fun y hy => h y (List.mem_cons_of_mem _ hy)
    rw [List.forIn_cons]
    by_cases hk : (k == NameKind.free) = true
    · have ek : k = .free := by simpa using hk
      obtain ⟨c, hc⟩ := h (n, k) List.mem_cons_self ek
      have e1 : cellOf env n = pure c := by
        have hc' : env.cells.lookup n = some c := hc
        unfold cellOf
        rw [hc']
      unfold capsOf
      rw [if_pos hk]
      have hc' : env.cells.lookup n = some c := hc
      rw [hc']
      simp only [hk, if_true, e1]
      exact forIn_caps r ((n, c) :: acc) hr
    · unfold capsOf
      rw [if_neg hk]
      simp only [hk]
      exact forIn_caps r acc hr
theorem closure_caps {scope : Scope} {env : Env} (h : ∀ y ∈ scope.names, y.2 = .free → ∃ c, env.cells.lookup y.1 = some c) : closureFor scope env = pure (capsOf env.cells scope.names []) := by
  have e := forIn_caps scope.names [] h
  unfold closureFor
  show (Bind.bind (forIn scope.names [] fun x r => match x with
      | (name, kind) => if (kind == NameKind.free) = true then (do let c ← cellOf env name; pure (ForInStep.yield ((name, c) :: r))) else pure (ForInStep.yield r) : Sem (List (Str × Addr))) fun r => pure r) = _
  rw [e]
  rfl

theorem relabel_free {scope : Scope} {env : Env} {x : Str} (hc : ∀ y ∈ scope.names, y.2 ≠ .cell) (h : (relabel scope env).names.lookup x = some .cell ∨ (relabel scope env).names.lookup x = some .free) : (x, NameKind.free) ∈ scope.names := by
  unfold relabel at h
  simp only at h
  generalize scope.names = names at h hc
  induction names with
  | nil => rcases h with h | h <;> cases h
  | cons y r ih =>
    obtain ⟨n, k⟩ := y
    have hr : ∀ y ∈ r, y.2 ≠ NameKind.cell := fun y hy => hc y (List.mem_cons_of_mem _ hy)
    rw [List.map_cons] at h
    by_cases hk : (k == NameKind.free && env.scope.kind == .function && env.kindOf n == some .cell) = true
    · simp only [hk, if_true, List.lookup_cons] at h
      cases q : x == n with
      | true =>
        have e : x = n := by simpa using q
        have ek : k = .free := by
          have := (Bool.and_eq_true_iff.mp (Bool.and_eq_true_iff.mp hk).1).1
          simpa using this
        rw [e, ek]; exact List.mem_cons_self
      | false =>
        rw [q] at h
        exact List.mem_cons_of_mem _ (ih h hr)
    · simp only [hk, Bool.false_eq_true, if_false, List.lookup_cons] at h
      cases q : x == n with
      | true =>
        rw [q] at h
        have e : x = n := by simpa using q
        have hk0 : k ≠ .cell := hc (n, k) List.mem_cons_self
        rcases h with h | h
        · exact absurd (Option.some.inj h) hk0
        · rw [e, Option.some.inj h]; exact List.mem_cons_self
      | false =>
        rw [q] at h
        exact List.mem_cons_of_mem _ (ih h hr)

theorem relabel_of_free {scope : Scope} {env : Env} {x : Str} (h : scope.names.lookup x = some .free) : (relabel scope env).names.lookup x = some .cell ∨ (relabel scope env).names.lookup x = some .free := by
  unfold relabel
  simp only
  generalize scope.names = names at h
  induction names with
  | nil => cases h
  | cons y r ih =>
    obtain ⟨n, k⟩ := y
    rw [List.map_cons]
    rw [List.lookup_cons] at h
    by_cases hk : (k == NameKind.free && env.scope.kind == .function && env.kindOf n == some .cell) = true
    · simp only [hk, if_true, List.lookup_cons]
      cases q : x == n with
      | true => exact .inl rfl
      | false => rw [q] at h; exact ih h
    · simp only [hk, Bool.false_eq_true, if_false, List.lookup_cons]
      cases q : x == n with
      | true => rw [q] at h; exact .inr h
      | false => rw [q] at h; exact ih h

noncomputable def cxComp (X : Cx) (scope : Scope) (N : List Str) (fp : List Addr) (s : Shared) (H : Hp) : Cx :=
  { X with N := N, s₀ := s, H₀ := H, env := compEnvC scope (capsOf X.env.cells scope.names []) s.heap.objs.size X.env, outer := X.stack, ex := fp, fn := fun _ => false, pn := [], xe := fun _ _ => False }

structure CompScope (X : Cx) (scope : Scope) (own : List Str) (caps : List (Str × Nat)) : Prop where
  kind : scope.kind = .function
  nocell : ∀ y ∈ scope.names, y.2 ≠ .cell
  locs : ∀ y ∈ scope.names, y.2 = .local → scope.names.lookup y.1 = some .local
  frees : ∀ y ∈ scope.names, y.2 = .free → X.env.kindOf y.1 = some .cell
  own : ∀ x ∈ own, scope.names.lookup x = some .local
  caps : ∀ p ∈ caps, X.N[p.2]? = some p.1 ∧ X.env.kindOf p.1 = some .cell ∧ scope.names.lookup p.1 = some .free

noncomputable def capt (σ : St) (caps : List (Str × Nat)) : St := caps.map fun p => (σ[p.2]?).join
section
variable {X : Cx} {scope : Scope} {own : List Str} {caps : List (Str × Nat)} {pins : List (Addr × Obj)} {σ : St} {H : Hp} {s : Shared} {fp : List Addr}
theorem comp_ok (S : CompScope X scope own caps) (I : Inv X pins σ H s) (hf : ∀ b ∈ fp, FpOk X pins H b) (hl : ∀ b ∈ fp, b < s.heap.objs.size) : (cxComp X scope (own ++ caps.map (·.1)) fp s H).Ok where
  mod := I.ok.mod
  kind := S.kind
  glob := I.ok.glob
  blt := I.ok.blt
  above := Nat.le_refl _
  inj := fun x y c h1 h2 => I.ok.inj x y c (caps_cells h1) (caps_cells h2)
  has := fun x h => by
    have hm := relabel_free S.nocell h
    obtain ⟨c, hc⟩ := I.ok.has x (.inl (S.frees _ hm rfl))
    exact Option.isSome_iff_exists.mp (capsOf_has hm (by rw [hc]; rfl))
  cab := fun x c h _ => nomatch h
  hd := I.ok.hd
  frames := I.ok.frames
  stk := .inl rfl
  exf := fun b hb => ⟨Nat.ne_of_lt (hl b hb), fun x c h => (hf b hb).2.2.2.2.1 x c (caps_cells h)⟩
  bs := I.bs
  bsz := Nat.le_trans I.ok.bsz I.sz
  noex := fun b o e hb => by
    rcases (hf b hb).2.2.2.1 with z | z
    · exact I.ok.noex b o e z
    · exact absurd (Nat.lt_of_lt_of_le (Nat.lt_of_lt_of_le (Heap.lt_size e) I.ok.bsz) z) (Nat.lt_irrefl _)
  exfs := fun b hb z => by
    rcases List.mem_cons.mp (I.stkSub b z) with e | e
    · exact (hf b hb).2.1 e
    · exact (hf b hb).2.2.1 e
  funs := I.stack
  frf := I.stkFree
theorem comp_start (S : CompScope X scope own caps) (I : Inv X pins σ H s) (hf : ∀ b ∈ fp, FpOk X pins H b) (hl : ∀ b ∈ fp, b < s.heap.objs.size) {h1 : Heap} {m : Str → Option Value} {t : Nat} (hn : h1.Ns s.heap.objs.size m)
    (hk : ∀ b o, s.heap.get? b = some o → h1.get? b = some o) : Inv (cxComp X scope (own ++ caps.map (·.1)) fp s H) [] (List.replicate own.length none ++ capt σ caps) H { s with heap := h1, toks := t } := by
  refine ⟨comp_ok S I hf hl, rfl, I.bare, Un.kept hk, ⟨m, hn, fun i y v e1 e2 e3 => ?_⟩, fun x c e => ?_, I.hok.fresh (Nat.le_refl _), fun x c e => I.freeC x c (caps_cells e), (fun p hp => by cases hp), I.hok.kept hk, ?_⟩
  · have hi : own.length ≤ i := by
      by_cases hi : i < own.length
      · rw [List.getElem?_append_left (by simpa using hi), List.getElem?_replicate, if_pos hi] at e2
        cases e2
      · omega
    rw [List.getElem?_append_right (by simpa using hi), List.length_replicate] at e2
    unfold capt at e2
    rw [List.getElem?_map] at e2
    have e1' : (own ++ caps.map (·.1))[i]? = some y := e1
    rw [List.getElem?_append_right hi, List.getElem?_map] at e1'
    cases q : caps[i - own.length]? with
    | none => rw [q] at e2; cases e2
    | some p =>
      rw [q] at e1' e2
      have ey : p.1 = y := Option.some.inj e1'
      have ev : (σ[p.2]?).join = some v := Option.some.inj e2
      have eσ : σ[p.2]? = some (some v) := by
        cases z : σ[p.2]? with
        | none => rw [z] at ev; cases ev
        | some w' => rw [z] at ev; rw [show w' = some v from ev]
      obtain ⟨hN, hkind, hfree⟩ := S.caps p (List.mem_of_getElem? q)
      rw [ey] at hN hkind hfree
      obtain ⟨mX, hnX, hlX⟩ := I.loc
      obtain ⟨u, ru, lk⟩ := hlX p.2 y v hN eσ (.inr (.inl hkind))
      refine ⟨u, ru, ?_⟩
      rcases lk with ⟨k1, _⟩ | ⟨_, c, hc, hcell⟩
      · rw [hkind] at k1; cases k1
      · have hm := relabel_free S.nocell (relabel_of_free (env := X.env) hfree)
        obtain ⟨c', hc'⟩ := Option.isSome_iff_exists.mp (capsOf_has (acc := []) hm (by rw [hc]; rfl))
        have := caps_cells hc'
        rw [hc] at this; cases this
        obtain ⟨o, ho, hd⟩ := hcell
        exact .inr ⟨relabel_of_free (env := X.env) hfree, c, hc', ⟨o, hk _ _ ho, hd⟩⟩
  · obtain ⟨v, o, ho, hd⟩ := I.cell x c (caps_cells e)
    exact ⟨v, o, hk _ _ ho, hd⟩
  · show _ = (own ++ caps.map (·.1)).length
    simp [capt]
theorem comp_back {N : List Str} {τ : St} {H' : Hp} {s' : Shared} (I : Inv X pins σ H s) (J : Inv (cxComp X scope N fp s H) [] τ H' s') (hf : ∀ b ∈ fp, FpOk X pins H b) : Inv X pins σ H' s' :=
  I.call' (ch := fp) J.os J.base J.hok J.bare fun b hb => by
    obtain ⟨_, f1, _, f3, f4, f5⟩ := hf b hb
    exact ⟨f3, f1, f4, f5⟩
theorem comp_go {prog : Program} {w : World} {A : Around} {R : Result → Shared → Prop} {elt target iter : Expr} {pos : Pos} {it acc : Value} {env : Env} (Iv : Nat → Shared → Prop)
    (turn : ∀ n s, Iv n s → wpAny (model prog w) A (pyNext it) (fun r s₁ => match r with
      | none => R (.ok .next) s₁
      | some v => wpAny (model prog w) A (letOwnedTupleGo target it v) (fun _ s₂ => wpAny (model prog w) A (assign target env v) (fun _ s₃ => wpAny (model prog w) A (eval elt env) (fun x s₄ =>
              wpAny (model prog w) A (call (.builtin "list.append") [acc, x]) (fun _ s₅ => ∃ m, m < n ∧ Iv m s₅) (fun _ _ => False) s₄) (fun _ _ => False) s₃) (fun _ _ => False) s₂) (fun _ _ => False) s₁) (fun _ _ => False) s)
    (n : Nat) (h : Iv n s) : codeAny (model prog w) A (.compLoop (.ListComp elt [⟨target, iter, [], 0⟩] scope pos) 0 it acc env) R s := by
  refine codeAny_loop rfl Iv (fun n s hI => ?_) n h
  show wpAny _ A ((compTurn (.ListComp elt [⟨target, iter, [], 0⟩] scope pos) 0 it acc env).onRaise (fun x => do noteFrame x env; theTreesLotGoes x)) _ _ s
  refine wpAny_noted ?_
  rw [compTurn_list]
  refine wpAny_bind (wpAny_standAt (wpAny_bind (wpAny_mono (turn n s hI) (fun r s₁ h₁ => ?_) fun _ _ z => z.elim)))
  cases r with
  | none => exact wpAny_pure h₁
  | some v =>
    refine wpAny_bind (wpAny_mono h₁ (fun _ s₂ h₂ => wpAny_bind (wpAny_mono h₂ (fun _ s₃ h₃ => wpAny_bind (wpAny_tests_nil ?_)) fun _ _ z => z.elim)) fun _ _ z => z.elim)
    exact wpAny_bind (wpAny_bind (wpAny_mono h₃ (fun x s₄ h₄ => wpAny_bind (wpAny_mono h₄ (fun _ s₅ h₅ => wpAny_pure (wpAny_pure ⟨rfl, h₅⟩)) fun _ _ z => z.elim)) fun _ _ z => z.elim))

noncomputable def CompBody (J : It) (g : TG) (te : TE) (τ0 : St) (H1 : Hp) (Q : VK) : Prop := ∀ D, H1 D = none → ∃ W : Nat → Nat → St → List V → Hp → Prop,
  (∃ m, W 0 m τ0 [] (upd H1 D (.lst []))) ∧
  ∀ i m τ ys H, W i m τ ys H → H D = some (.lst ys) ∧ ((J.stop i H ∧ Q (.ref D) H) ∨ (J.go i H ∧ ys.length < sizeLine ∧ ∀ x H', J.yld i H x H' → g x τ H' fun τ2 H2 => te τ2 H2 fun y H3 =>
    H3 D = some (.lst ys) ∧ ∃ m', m' < m ∧ W (i + 1) m' τ2 (ys ++ [y]) (upd H3 D (.lst (ys ++ [y])))))
noncomputable def tComp (wi : TI) (g : TG) (te : TE) (k : Nat) (caps : List (Str × Nat)) : TE := fun σ H Q => wi σ H fun J H1 => CompBody J g te (List.replicate k none ++ capt σ caps) H1 Q

theorem comp_core {tg elt iter : Expr} {wi : TI} {g : TG} {te : TE} {pos p2 : Pos} {use : Option (Value → Sem Unit)} {Q : VK} {Q' : Value → Shared → Prop} (S : CompScope X scope own caps) (hi : PI X tg iter wi) (hc : X.calm = true)
    (hg : ∀ fp s H, PG (cxComp X scope (own ++ caps.map (·.1)) fp s H) tg g) (he : ∀ fp s H, PE (cxComp X scope (own ++ caps.map (·.1)) fp s H) elt te)
    (I : Inv X pins σ H s) (h : tComp wi g te own.length caps σ H Q)
    (fin : ∀ D C H5 s5, Inv X pins σ H5 s5 → Q (.ref D) H5 → (∃ m, s5.heap.Ns C m) → H5 C = none → C ≠ X.env.locals → X.s₀.heap.objs.size ≤ C → (∀ x c, X.env.cells.lookup x = some c → c ≠ C) → (∀ p ∈ X.pn ++ pins, p.1 ≠ C) →
      compPost (model X.prog X.w) X.A X.xe use Q' (.ref D) C (.ok .next) s5)
    (hs : ∀ x, foldedSetIterable iter X.env x = pure x := by intro _; rfl) :
    wpAny (model X.prog X.w) X.A (comprehension (.ListComp elt [⟨tg, iter, [], 0⟩] scope pos) scope X.env p2 (newList []) false (eval iter X.env) use) Q' X.xe s := by
  have hclos : closureFor scope X.env = pure (capsOf X.env.cells scope.names []) := closure_caps fun y hy hk => I.ok.has y.1 (.inl (S.frees y hy hk))
  refine wpAny_comprehension_free (g := ⟨tg, iter, [], 0⟩) (gs := []) rfl hs hclos S.kind S.locs (thn (hi pins s σ H _ I h) fun v s1 h1 => thn h1 fun itv s2 h2 => ?_)
  obtain ⟨it, fp, tn, J, H2, e, I2, T, st2, f2, R⟩ := h2
  subst e
  refine wpAny_newObj_type (wpAny_newFunctionEnv S.nocell (by intro y hy; simp at hy) (fun h₁ hns₁ hsb₁ => ?_) S.kind)
  have fr2 : H2 s2.heap.objs.size = none := I2.hok.fresh (Nat.le_refl _)
  obtain ⟨W, ⟨m0, w0⟩, turn⟩ := R s2.heap.objs.size fr2
  have I3 : Inv X pins σ (upd H2 s2.heap.objs.size (.lst [])) { s2 with heap := s2.heap.push { cls := .type "list", dict := none, data := .seq ([] : List Value).toArray } } := I2.lnew (its := []) (t' := s2.toks) .nil (Nat.zero_le _)
  have lt2 : ∀ b ∈ fp, b < s2.heap.objs.size := fun b hb => by
    obtain ⟨o, ho, _⟩ := T.obj _ _ st2 b hb
    exact Heap.lt_size ho
  have f3 : ∀ b ∈ fp, FpOk X pins (upd H2 s2.heap.objs.size (.lst [])) b := fun b hb => ⟨by rw [upd_ne (Nat.ne_of_lt (lt2 b hb))]; exact (f2 b hb).1, (f2 b hb).2⟩
  generalize hs3 : ({ s2 with heap := s2.heap.push { cls := .type "list", dict := none, data := .seq ([] : List Value).toArray } } : Shared) = s3 at I3
  have hz3 : s3.heap.objs.size = s2.heap.objs.size + 1 := by rw [← hs3]; exact Heap.size_push _ _
  have kp23 : ∀ b o, s2.heap.get? b = some o → s3.heap.get? b = some o := fun b o e => by rw [← hs3]; exact Heap.get?_push_of_some _ e
  have lt3 : ∀ b ∈ fp, b < s3.heap.objs.size := fun b hb => by rw [hz3]; exact Nat.lt_succ_of_lt (lt2 b hb)
  have hns₁' : h₁.Ns s3.heap.objs.size (fun x => ([] : List (Str × Value)).reverse.lookup x) := by rw [← hs3]; exact hns₁
  have kp31 : ∀ b o, s3.heap.get? b = some o → h₁.get? b = some o := fun b o e => by
    have hb : b ≠ s3.heap.objs.size := Nat.ne_of_lt (Heap.lt_size e)
    rw [← hs3] at e hb
    exact hsb₁.extBut b o hb (Heap.get?_push_of_some _ e)
  have J1 := comp_start S I3 f3 lt3 (t := s2.toks + ([] : List (Str × Value)).length) hns₁' kp31
  have st1 : tn 0 h₁ := T.keep _ _ _ st2 fun b hb o e => kp31 b o (kp23 b o e)
  -- the loop
  have loop : ∀ s₃ : Shared, s₃ = { s3 with heap := h₁, toks := s2.toks + ([] : List (Str × Value)).length } →
      codeAny (model X.prog X.w) X.A (.compLoop (.ListComp elt [⟨tg, iter, [], 0⟩] scope pos) 0 (.ref it) (.ref s2.heap.objs.size) (cxComp X scope (own ++ caps.map (·.1)) fp s3 (upd H2 s2.heap.objs.size (.lst []))).env)
        (compPost (model X.prog X.w) X.A X.xe use Q' (.ref s2.heap.objs.size) s3.heap.objs.size) s₃ := by
    rintro s₃ rfl
    refine comp_go (fun n s' => ∃ i τ ys H', Inv (cxComp X scope (own ++ caps.map (·.1)) fp s3 (upd H2 s2.heap.objs.size (.lst []))) [] τ H' s' ∧ tn i s'.heap ∧ (∀ b ∈ fp, H' b = none) ∧ W i n τ ys H') ?_ m0
      ⟨0, _, [], _, J1, st1, fun b hb => (f3 b hb).1, w0⟩
    rintro n s' ⟨i, τ, ys, H', J', st', fr', w'⟩
    have fY : ∀ {H'' : Hp}, (∀ b ∈ fp, H'' b = none) → ∀ b ∈ fp, FpOk (cxComp X scope (own ++ caps.map (·.1)) fp s3 (upd H2 s2.heap.objs.size (.lst []))) [] H'' b := fun hn b hb =>
      ⟨hn b hb, Nat.ne_of_lt (lt3 b hb), fun z => by
          rcases List.mem_cons.mp (I3.stkSub b z) with e | e
          · exact (f3 b hb).2.1 e
          · exact (f3 b hb).2.2.1 e, .inl hb, fun x c e => (f3 b hb).2.2.2.2.1 x c (caps_cells e), (fun p hp => by cases hp)⟩
    obtain ⟨hD, tt⟩ := turn i n τ ys H' w'
    rcases tt with ⟨stop, qn⟩ | ⟨go, hlen, step⟩
    · refine thn (T.done (cxComp X scope (own ++ caps.map (·.1)) fp s3 (upd H2 s2.heap.objs.size (.lst []))) rfl rfl rfl hc i [] s' τ H' (fun _ _ => False) J' (fY fr') st' stop) fun r s4 ⟨hr, J4⟩ => ?_
      subst hr
      obtain ⟨m4, hn4, _⟩ := J4.loc
      have I5 := comp_back I3 J4 f3
      refine fin _ _ _ s4 I5 qn ⟨m4, hn4⟩ J4.free ?_ ?_ (fun x c e z => ?_) fun p hp z => ?_
      · exact Nat.ne_of_gt I3.lt
      · exact I3.sz
      · obtain ⟨v, q⟩ := I3.cell x c e
        rw [z] at q
        exact absurd q.lt (Nat.lt_irrefl _)
      · have q := (I3.pin p hp).1
        rw [z] at q
        exact absurd (Heap.lt_size q) (Nat.lt_irrefl _)
    · refine thn (T.item (cxComp X scope (own ++ caps.map (·.1)) fp s3 (upd H2 s2.heap.objs.size (.lst []))) rfl rfl rfl hc i [] s' τ H' (fun _ _ => False) J' (fY fr') st' go) fun r s4 ⟨u, hr, h4⟩ => ?_
      subst hr
      refine thn h4 fun _ s5 ⟨x, H5, J5, r5, y5, st5, fr5⟩ => ?_
      have J5' := J5.pinned (fY fr5) (T.obj _ _ st5)
      refine thn (hg fp s3 _ _ s5 τ H5 x u _ J5' r5 (step x H5 y5)) fun _ s6 ⟨τ6, H6, J6, q6⟩ => ?_
      refine thn (he fp s3 _ _ s6 τ6 H6 _ J6 q6) fun yv s7 ⟨y, H7, J7, r7, hD7, m', hm', w7⟩ => ?_
      refine thn (mt_append (X := cxComp X scope (own ++ caps.map (·.1)) fp s3 (upd H2 s2.heap.objs.size (.lst []))) _ s7 τ6 H7 (.ref s2.heap.objs.size) [y] _ [yv] (fun _ H8 => H8 = upd H7 s2.heap.objs.size (.lst (ys ++ [y]))) J7 rfl (.cons r7 .nil) ⟨_, ys, y, rfl, rfl, hD7, hlen, rfl⟩) fun _ s8 ⟨_, H8, J8, _, e8⟩ => ?_
      subst e8
      refine ⟨m', hm', i + 1, τ6, ys ++ [y], _, J8.unpinned, T.keep _ _ _ st5 fun b hb o e => (J8.pin (b, o) (List.mem_append_right _ (List.mem_append_right _ (mem_pinsAt hb e)))).1, fun b hb => ?_, w7⟩
      obtain ⟨o, e, d⟩ := T.obj _ _ st5 b hb
      exact (J8.pin (b, o) (List.mem_append_right _ (List.mem_append_right _ (mem_pinsAt hb e)))).2.1
  have hloop := loop _ rfl
  subst hs3
  exact codeAny_compStart_list hloop (T.self _ 0 _ _ _ st1 hloop)
theorem pe_comp {tg elt iter : Expr} {wi : TI} {g : TG} {te : TE} {pos : Pos} (S : CompScope X scope own caps) (hi : PI X tg iter wi) (hc : X.calm = true)
    (hg : ∀ fp s H, PG (cxComp X scope (own ++ caps.map (·.1)) fp s H) tg g) (he : ∀ fp s H, PE (cxComp X scope (own ++ caps.map (·.1)) fp s H) elt te)
    (hs : ∀ x, foldedSetIterable iter X.env x = pure x := by intro _; rfl) : PE X (.ListComp elt [⟨tg, iter, [], 0⟩] scope pos) (tComp wi g te own.length caps) := by
  intro pins s σ H Q I h
  rw [eval_ListComp]
  refine comp_core (use := none) (Q := Q) S hi hc hg he I h (fun D C H5 s5 I5 q ⟨m, hn⟩ hC hL hz hcell hpin => ?_) hs
  refine ⟨m, hn, fun h' hs' => ?_⟩
  exact ⟨.ref D, H5, I5.turned (t' := s5.toks) (fun b o hb e => (hs'.2 b hb).trans e) hC hL (.inr hz) hcell hpin, rfl, q⟩
theorem ps_setComp {i : Nat} {y : Str} {tg elt iter : Expr} {wi : TI} {g : TG} {te : TE} {pos spos py : Pos} (hN : X.N.Nodup) (hiN : X.N[i]? = some y) (hy : X.env.scope.names.lookup y = some .local) (S : CompScope X scope own caps) (hi : PI X tg iter wi) (hc : X.calm = true)
    (hg : ∀ fp s H, PG (cxComp X scope (own ++ caps.map (·.1)) fp s H) tg g) (he : ∀ fp s H, PE (cxComp X scope (own ++ caps.map (·.1)) fp s H) elt te)
    (hsw : swapsWith (.ListComp elt [⟨tg, iter, [], 0⟩] scope pos) (some (.Name y py)) spos.line X.env = pure true)
    (hs : ∀ x, foldedSetIterable iter X.env x = pure x := by intro _; rfl) : PS X (.Assign [.Name y py] (.ListComp elt [⟨tg, iter, [], 0⟩] scope pos) spos) (tAsg (tComp wi g te own.length caps) (gName i)) := by
  intro pins s σ H D I h
  rw [exec_Assign_Name_used _ _ _ _ hsw]
  refine wpAny_bind (wpAny_standAt (wpAny_bind ?_))
  show wpAny _ X.A (do let _ ← comprehension (.ListComp elt [⟨tg, iter, [], 0⟩] scope pos) scope X.env _ (newList []) false (eval iter X.env) (some (assign (.Name y py) X.env))) _ _ s
  refine wpAny_bind (wpAny_mono (comp_core (use := some (assign (.Name y py) X.env)) (Q := fun x H1 => D.nx (σ.set i (some x)) H1) (Q' := fun _ s' => SP X pins D .next s') S hi hc hg he I h (fun A C H5 s5 I5 q ⟨m, hn⟩ hC hL hz hcell hpin => ?_) hs)
    (fun _ s' hq => wpAny_pure (wpAny_pure hq)) fun _ _ e => e)
  show wpAny _ X.A (assign (.Name y py) X.env (.ref A)) _ _ _
  refine wpAny_assign_Name (store_ok2 I5 hN hiN (.inl hy) (v := .ref A) rfl (fun s6 I6 ⟨a, hsb, ha⟩ => ?_) (.inr hy))
  have haC : C ≠ a := by
    rcases ha with ha | ha
    · rw [ha]; exact hL
    · exact fun z => hcell y a ha z.symm
  refine ⟨m, hn.sameBut hsb haC, fun h' hs' => ?_⟩
  exact ⟨_, H5, I6.turned (t' := s6.toks) (fun b o hb e => (hs'.2 b hb).trans e) hC hL (.inr hz) hcell hpin, q⟩
end
end L2
namespace L2
open PySem PySem.Spec PyProof.Rows

structure Has (P : Program) (w : World) (K : PySem.W.Frag) (mg : Str → Option Value) (base : Heap) (k : Nat) (x : Str) (ps : List Str) (sp : Sp) : Prop where
  ex : ∃ f fd, FnOk P w K mg base CX0 k f fd ps sp ∧ mg x = some (.ref f) ∧ PySem.W.keepIn K (.ref f) = true ∧ Binds K fd ps []
section
variable {X : Cx} {k k' : Nat} {x : Str} {ps : List Str} {sp : Sp} {p pos : Pos} {e : Expr} {es : List Expr} {t : TA}
theorem pe_callH (h : Has X.prog X.w X.K X.mg X.base k x ps sp) (hr : Room k' X.A) (hk : k ≤ k') (hg : Gl X x) (ha : PA X (e :: es) t) (hdb : (x == ("__debug__" : Str)) = false := by decide)
    (he : starEach (e :: es) X.env = (false, eval e X.env) :: starEach es X.env := by rfl) (hpl : (backTo pos (starEach es X.env)).any (·.1) = false := by rfl) :
    PE X (.Call (.Name x p) (e :: es) [] pos) (tCall sp [] E0 t) := by
  obtain ⟨f, fd, F, hm, hkp, hb⟩ := h.ex
  exact pe_call F (hr.mono hk) hg hm hkp hb .nil pass0 ha hdb he hpl
end
structure Def (K : PySem.W.Frag) (mg : Str → Option Value) (x : Str) (st : Stmt) (ps : List Str) : Prop where
  ex : ∃ f fd, Fun K x x st f fd ∧ mg x = some (.ref f) ∧ Binds K fd ps []
theorem Def.has {P : Program} {w : World} {K : PySem.W.Frag} {mg : Str → Option Value} {base : Heap} {x : Str} {st : Stmt} {N ps : List Str} {k : Nat} {sp : Sp} (D : Def K mg x st ps) (S : FnScope N ps (defScope st)) (len : ∀ vs H Q E, sp vs H Q E → vs.length = ps.length)
    (hbody : ∀ (f : Addr) (cdv : Value) (A : Around) (outer : List Env) (s : Shared) (H : Hp) (vs : List V) (Q : VK) (E : XK), Room k (A.deeper (envOfC x (defScope st) s.heap.objs.size f cdv)) → sp vs H Q E →
      ∃ t, PSs (cxOf CX0 P w K mg base N x (defScope st) f cdv A outer s H E).nox (defBody st) t ∧ t { nx := fun _ H' => Q .non H', rt := Q } (start N vs) H) : Has P w K mg base (k + 1) x ps sp := by
  obtain ⟨f, fd, F, hm, hb⟩ := D.ex
  exact ⟨f, fd, F.ok S len (hbody f), hm, F.kp, hb⟩

theorem same_new {H : Hp} {p : Addr} (h : H p = none) (o : HO) : Same H (upd H p o) := fun b u q => by rw [upd_ne (ne_of_none q h)]; exact q
theorem Same.tup {K : PySem.W.Frag} {H H' : Hp} {a : Addr} {xs : List V} (e : Same H H') (h : SqT K H a xs) : SqT K H' a xs := by
  rcases h with (h | ⟨o, h⟩) | h
  · exact .inl (.inl (e _ _ h))
  · exact .inl (.inr ⟨o, e _ _ h⟩)
  · exact .inr h
theorem Same.put {H0 H : Hp} {p : Addr} {o : HO} (e : Same H0 H) (h : H0 p = none) : Same H0 (upd H p o) := fun b u q => by rw [upd_ne (ne_of_none q h)]; exact e b u q

noncomputable def checkComp (xsc : Scope) (xN : List Str) (scope : Scope) (own : List Str) (caps : List (Str × Nat)) : Bool :=
  scope.names.all (fun y => y.2 != .cell) && scope.names.all (fun y => y.2 != .local || scope.names.lookup y.1 == some .local) && scope.names.all (fun y => y.2 != .free || xsc.names.lookup y.1 == some .cell)
    && own.all (fun x => scope.names.lookup x == some .local) && caps.all (fun p => xN[p.2]? == some p.1 && xsc.names.lookup p.1 == some .cell && scope.names.lookup p.1 == some .free)
theorem comp_scope {X : Cx} {scope : Scope} {own : List Str} {caps : List (Str × Nat)} (xsc : Scope) (xN : List Str) (hx : X.env.scope = xsc) (hN : X.N = xN) (hk : scope.kind = .function) (c : checkComp xsc xN scope own caps = true) : CompScope X scope own caps := by
  unfold checkComp at c
  simp only [Bool.and_eq_true, List.all_eq_true, Bool.or_eq_true, bne_iff_ne, beq_iff_eq, ne_eq] at c
  obtain ⟨⟨⟨⟨c1, c2⟩, c3⟩, c4⟩, c5⟩ := c
  refine ⟨hk, c1, fun y hy e => ?_, fun y hy e => ?_, c4, fun p hp => ?_⟩
  · rcases c2 y hy with z | z
    · exact absurd e z
    · exact z
  · rcases c3 y hy with z | z
    · exact absurd e z
    · show X.env.scope.names.lookup y.1 = _
      rw [hx]; exact z
  · obtain ⟨⟨z1, z2⟩, z3⟩ := c5 p hp
    refine ⟨by rw [hN]; exact z1, ?_, z3⟩
    show X.env.scope.names.lookup p.1 = _
    rw [hx]; exact z2
structure Blt (mg : Str → Option Value) : Prop where
  len_ : mg "len" = none
  min_ : mg "min" = none
  max_ : mg "max" = none
  sum_ : mg "sum" = none
  range_ : mg "range" = none
  enumerate_ : mg "enumerate" = none
  isinstance_ : mg "isinstance" = none
  tuple_ : mg "tuple" = none
  int_ : mg "int" = none
  bool_ : mg "bool" = none
  str_ : mg "str" = none
  list_ : mg "list" = none
theorem boot_min_ : bootBuiltins "min" = some (.builtin "min") := by decide +kernel
theorem boot_max_ : bootBuiltins "max" = some (.builtin "max") := by decide +kernel
theorem boot_isinstance_ : bootBuiltins "isinstance" = some (.builtin "isinstance") := by decide +kernel
theorem boot_tuple_ : bootBuiltins "tuple" = some (.type "tuple") := by decide +kernel
theorem boot_int_ : bootBuiltins "int" = some (.type "int") := by decide +kernel
theorem boot_bool_ : bootBuiltins "bool" = some (.type "bool") := by decide +kernel
theorem boot_list_ : bootBuiltins "list" = some (.type "list") := by decide +kernel
theorem Paired.at {α β : Type} {F : α → β → Prop} : ∀ {l₁ : List α} {l₂ : List β} {i : Nat} {a : α}, Paired F l₁ l₂ → l₁[i]? = some a → ∃ b, l₂[i]? = some b ∧ F a b
  | _, _, _, _, .nil, e => by simp at e
  | _, _, 0, _, .cons h _, e => by simp at e; subst e; exact ⟨_, rfl, h⟩
  | _, _, i + 1, a, .cons _ t, e => by
    obtain ⟨b, h1, h2⟩ := Paired.at (i := i) (a := a) t (by simpa using e)
    exact ⟨b, by simpa using h1, h2⟩
theorem pos' {j : Int} (h : decide (0 < j) = true := by decide) : 0 < j := of_decide_eq_true h
theorem div' {i j : Int} (h : (decide (0 < j) && decide (j < 1073741824)) = true := by decide) : CDiv i j :=
  ⟨of_decide_eq_true (Bool.and_eq_true_iff.mp h).1, of_decide_eq_true (Bool.and_eq_true_iff.mp h).2⟩
theorem iteD {c A B : Prop} [Decidable c] (h1 : c → A) (h2 : ¬ c → B) : if decide c = true then A else B := by
  by_cases h : c
  · rw [decide_eq_true h]; exact iteT (h1 h)
  · rw [decide_eq_false h]; exact iteF (h2 h)
theorem iteDN {c A B : Prop} [Decidable c] (h1 : ¬ c → A) (h2 : c → B) : if (!decide c) = true then A else B := by
  by_cases h : c
  · rw [decide_eq_true h]; exact iteF (h2 h)
  · rw [decide_eq_false h]; exact iteT (h1 h)
end L2
namespace L2
open PySem PySem.Spec PyProof.Rows

noncomputable def F2 (h : Heap) (e : Addr) (x : Value) : Prop := ∃ o vs, h.get? e = some o ∧ o.data = .fields vs ∧ vs[2]? = some x
noncomputable def Ctx0 (h : Heap) (e : Addr) : Prop := F2 h e .none
theorem F2.other {h : Heap} {e b : Addr} {x : Value} {f : Obj → Obj} (c : F2 h e x) (n : b ≠ e) : F2 (h.update b f) e x := by
  obtain ⟨o, vs, a, d, i⟩ := c
  exact ⟨o, vs, (Heap.get?_update_other _ _ n).trans a, d, i⟩
section
variable {M : Model} {A : Around} {E : Value → Shared → Prop} {s : Shared}
inductive Entered (l : List Env) (e : Addr) (oe : Obj) (L : Addr) (h h' : Heap) : Prop
  | mk (T : Addr) (oT : Obj) (ts : Array Value) (old : ∀ b o, b ≠ e → b ∉ l.filterMap (·.frame) → h.get? b = some o → h'.get? b = some o) (slots : ∀ b o, b ≠ e → h.get? b = some o → ∃ sl, h'.get? b = some { o with slots := sl })
    (own : h'.get? e = some (oe.mapFields (·.setIfInBounds 1 (.ref T)))) (new : h.get? T = none) (ne : T ≠ e) (size : h.objs.size ≤ T) (there : h'.get? T = some oT) (data : oT.data = .fields ts) (fl : ts[3]? = some (rawInt L)) : Entered l e oe L h h'
theorem entry_on {base : Heap} {env : Env} {outer : List Env} {L e : Addr} {oe : Obj} {vs : Array Value} {hd : Value} {nx : Bool} {Q : Unit → Shared → Prop}
    (af : A.frames = some (env :: outer)) (ff : s.heap.FunFrames base (env :: outer)) (fL : env.frame = some L) (ge : s.heap.get? e = some oe) (gd : oe.data = .fields vs) (gz : 1 < vs.size)
    (k : ∀ h', Entered (env :: outer) e oe L s.heap h' → Q () { s with heap := h' }) :
    wpAny M A (do let a ← frameOf env; let pl ← entryPlaceOf L nx; let b ← EntryCells.newEntry hd a .none (rawInt L) .none pl; setField (.ref e) 1 b) Q E s := by
  have hne : e ∉ (env :: outer).filterMap (·.frame) := fun m => by
    obtain ⟨_, o, q, nf⟩ := ff.mem m
    rw [ge] at q
    cases q
    exact nf vs gd
  refine wpAny_bind (wpAny_frameOf_fun af ff fL fun h1 sl => ?_)
  refine wpAny_bind (wpAny_entryPlaceOf fun pl hp => ?_)
  unfold EntryCells.newEntry newFields
  refine wpAny_bind (wpAny_newObj_type ?_ (hp.sizeOk5 _ _ _ _ _))
  have g1 : h1.get? e = some oe := (sl.2.1 e hne).trans ge
  generalize hO : ({ cls := .type "traceback", dict := none, data := .fields ([hd, .ref L, .none, rawInt L, .none] ++ (if pl.isEmpty then List.replicate 6 Value.none else pl)).toArray } : Obj) = oT
  have g2 := Heap.get?_push_of_some (h := h1) oT g1
  refine wpAny_setField g2 gd gz (k _ ?_)
  have nT : h1.objs.size ≠ e := Nat.ne_of_gt (Heap.lt_size g1)
  have dd := Obj.data_mapFields gd (·.setIfInBounds 1 (Value.ref h1.objs.size))
  have up : ∀ b o, b ≠ e → h1.get? b = some o → ((h1.push oT).update e (Obj.mapFields (·.setIfInBounds 1 (Value.ref h1.objs.size)))).get? b = some o := fun b o n q => by
    rw [Heap.get?_update_other _ _ (Ne.symm n)]
    exact Heap.get?_push_of_some _ q
  refine ⟨h1.objs.size, oT, _, fun b o n m q => up b o n ((sl.2.1 b m).trans q), fun b o n q => ?_, Heap.get?_update_self _ g2 (Obj.isFreed_of_fields dd), Heap.get?_none_of_le (Nat.le_of_eq sl.1.symm), nT, Nat.le_of_eq sl.1.symm, ?_, (by rw [← hO]), ?_⟩
  · obtain ⟨x, q'⟩ := sl.2.2 b o q
    exact ⟨x, up b _ n q'⟩
  · rw [Heap.get?_update_other _ _ (Ne.symm nT)]
    exact Heap.get?_push_size h1 (by rw [← hO]; rfl)
  · first
      | (simp; done)
      | (rcases hp with rfl | ⟨_, _, _, _, _, _, _, rfl⟩ <;> simp)
theorem Entered.noted {base : Heap} {l : List Env} {e L : Addr} {oe : Obj} {vs : Array Value} {a0 : Value} {h h' : Heap} (x : Entered l e oe L h h') (kb : base.StaysIn h) (be : base.get? e = none) (ff : h.FunFrames base l) (gd : oe.data = .fields vs) (gz : 1 < vs.size) (g0 : vs[0]? = some a0) (ge : h.get? e = some oe) :
    Heap.NotedW base l e oe.cls a0 (rawInt L) h h' := by
  obtain ⟨T, oT, ts, old, slots, own, new, ne, size, there, data, fl⟩ := x
  have nr : ∀ b o, h.get? b = some o → (∀ ws, o.data ≠ .fields ws) → b ≠ e := fun b o q nf z => by
    rw [z, ge] at q
    cases q
    exact nf vs gd
  refine ⟨fun b o q => old b o (fun z => by rw [z, be] at q; cases q) (fun m => by rw [(ff.mem m).1] at q; cases q) (kb b o q), ff.of_keeps fun b o q nf => ?_, ?_, fun b o q nf => slots b o (nr b o q nf) q⟩
  · obtain ⟨sl, q'⟩ := slots b o (nr b o q nf) q
    exact ⟨_, q', rfl⟩
  · refine ⟨_, _, T, oT, ts, own, ⟨Obj.cls_mapFields _ _, ?_⟩, Obj.data_mapFields gd _, by simp [gz], ?_, ne, there, data, fl⟩
    · rw [Array.getElem?_setIfInBounds_ne (by decide)]; exact g0
    · cases q : base.get? T with
      | none => rfl
      | some o => have := kb _ _ q; rw [new] at this; cases this
theorem Entered.ctx {l : List Env} {e L : Addr} {oe : Obj} {vs : Array Value} {h h' : Heap} {y : Value} (x : Entered l e oe L h h') (gd : oe.data = .fields vs) (ge : h.get? e = some oe) (c : F2 h e y) : F2 h' e y := by
  obtain ⟨T, oT, ts, old, slots, own, new, ne, size, there, data, fl⟩ := x
  obtain ⟨o, ws, q1, q2, q3⟩ := c
  rw [ge] at q1
  cases q1
  rw [gd] at q2
  cases q2
  exact ⟨_, _, own, Obj.data_mapFields gd _, by rw [Array.getElem?_setIfInBounds_ne (by decide)]; exact q3⟩
theorem note_on {base : Heap} {env : Env} {outer : List Env} {L e : Addr} {cls a0 : Value} {Q : Unit → Shared → Prop} (af : A.frames = some (env :: outer)) (fL : env.frame = some L) (fl : Heap.FlyingW base (env :: outer) e cls a0 s.heap)
    (k : ∀ h', Heap.HeldW base (env :: outer) e cls a0 L h' → s.heap.UpToSlots h' → (∀ y, F2 s.heap e y → F2 h' e y) → Q () { s with heap := h' }) : wpAny M A (noteFrame (.ref e) env) Q E s := by
  obtain ⟨kb, be, ff, oe, vs, Tr, oT, ts, ge, ⟨gc, g0⟩, gd, g1, bT, nTe, gT, dT, g3⟩ := fl
  subst gc
  have gz := (Array.getElem?_eq_some_iff.mp g1).1
  unfold noteFrame
  simp only [fL]
  refine wpAny_bind (wpAny_field ge gd g1 ?_)
  rw [if_pos (show (Value.ref Tr != Value.none) = true by simp)]
  refine wpAny_bind (wpAny_field gT dT g3 ?_)
  rw [if_neg (show ¬ ((Value.none == rawInt L) = true) by simp [rawInt])]
  refine wpAny_bind (wpAny_setField gT dT (Array.getElem?_eq_some_iff.mp g3).1 ?_)
  have ot : ∀ b, b ≠ Tr → (s.heap.update Tr (Obj.mapFields (·.setIfInBounds 3 Value.none))).get? b = s.heap.get? b := fun b n => Heap.get?_update_other _ _ (Ne.symm n)
  have nr : ∀ b o, s.heap.get? b = some o → (∀ ws, o.data ≠ .fields ws) → b ≠ Tr := fun b o q nf z => by
    rw [z, gT] at q
    cases q
    exact nf ts dT
  have ff1 := ff.of_keeps (h' := s.heap.update Tr (Obj.mapFields (·.setIfInBounds 3 Value.none))) fun b o q nf => ⟨o, (ot b (nr b o q nf)).trans q, rfl⟩
  have kb1 : base.StaysIn (s.heap.update Tr (Obj.mapFields (·.setIfInBounds 3 Value.none))) := fun b o q => (ot b fun z => by rw [z, bT] at q; cases q).trans (kb b o q)
  have ge1 := (ot e (Ne.symm nTe)).trans ge
  refine entry_on (s := { s with heap := _ }) af ff1 fL ge1 gd gz fun h' x => ?_
  obtain ⟨n1, n2, n3, n4⟩ := x.noted kb1 be ff1 gd gz g0 ge1
  exact k h' ⟨n1, be, n2, n3⟩ (fun b o q nf => n4 b o ((ot b (nr b o q nf)).trans q) nf) fun y c => x.ctx gd ge1 (c.other nTe)
theorem flight_off {base : Heap} {l : List Env} {e : Addr} {cls a0 m : Value} {Q : Unit → Shared → Prop} (kb : base.StaysIn s.heap) (be : base.get? e = none) (ff : s.heap.FunFrames base l) (tr : s.heap.TracedAtW base e cls a0 m)
    (k : ∀ h', Heap.FlyingW base l e cls a0 h' → s.heap.UpToSlots h' → (∀ y, F2 s.heap e y → F2 h' e y) → Q () { s with heap := h' }) : wpAny M A (setFlight (.ref e) none) Q E s := by
  obtain ⟨oe, vs, Tr, oT, ts, ge, gc, gd, g1, bT, nTe, gT, dT, g3⟩ := tr
  have z3 := (Array.getElem?_eq_some_iff.mp g3).1
  have ot : ∀ b, b ≠ Tr → (s.heap.update Tr (Obj.mapFields (·.setIfInBounds 3 ((none : Option Addr).elim Value.none fun f => rawInt f)))).get? b = s.heap.get? b := fun b n => Heap.get?_update_other _ _ (Ne.symm n)
  have nr : ∀ b o, s.heap.get? b = some o → (∀ ws, o.data ≠ .fields ws) → b ≠ Tr := fun b o q nf z => by
    rw [z, gT] at q
    cases q
    exact nf ts dT
  unfold setFlight
  refine wpAny_bind (wpAny_field ge gd g1 ?_)
  rw [if_pos (show (Value.ref Tr != Value.none) = true by simp)]
  refine wpAny_setField gT dT z3 (k _ ⟨fun b o q => (ot b fun z => by rw [z, bT] at q; cases q).trans (kb b o q), be, ff.of_keeps fun b o q nf => ⟨o, (ot b (nr b o q nf)).trans q, rfl⟩, ?_⟩ (fun b o q nf => ⟨o.slots, (ot b (nr b o q nf)).trans q⟩) fun y c => c.other nTe)
  exact ⟨oe, vs, Tr, _, _, (ot e (Ne.symm nTe)).trans ge, gc, gd, g1, bT, nTe, Heap.get?_update_self _ gT (Obj.isFreed_of_fields (Obj.data_mapFields dT _)), Obj.data_mapFields dT _, by simp [z3]⟩
theorem leave_on {base : Heap} {env : Env} {outer : List Env} {L e : Addr} {cls a0 : Value} {Q : Unit → Shared → Prop} (af : A.frames = some (env :: outer)) (fL : env.frame = some L) (fl : Heap.FlyingW base (env :: outer) e cls a0 s.heap)
    (k : ∀ h', Heap.FlyingW base outer e cls a0 h' → s.heap.UpToSlots h' → (∀ y, F2 s.heap e y → F2 h' e y) → Q () { s with heap := h' }) : wpAny M A (leaving env (.ref e)) Q E s := by
  unfold leaving
  refine wpAny_bind (note_on af fL fl fun h1 hh sl c1 => ?_)
  obtain ⟨n1, n2, n3, n4⟩ := hh
  refine flight_off (s := { s with heap := h1 }) n1 n2 n3 n4 fun h2 f2 sl2 c2 => ?_
  obtain ⟨m1, m2, ⟨_, _, m3⟩, m4⟩ := f2
  exact k h2 ⟨m1, m2, m3, m4⟩ (sl.trans sl2) fun y c => c2 y (c1 y c)
end
end L2
namespace L2
open PySem PySem.Spec PyProof.Rows

section
variable {P : Program} {w : World} {H H' : Hp} {h h' : Heap} {a : Addr} {o : HO}
end
theorem Un.fly {fs : List Addr} {L : Addr} {H₀ H H' : Hp} {h0 h h1 h2 B : Heap} (U1 : Un fs [] H₀ H h0 h) (U2 : Un (L :: fs) [] H H' h h1) (hL : h0.get? L = none)
    (cov : ∀ b o, h.get? b = some o → b ∉ L :: fs → ∃ o', B.get? b = some o') (k1 : ∀ b o, B.get? b = some o → h1.get? b = some o) (k2 : ∀ b o, B.get? b = some o → h2.get? b = some o)
    (sl : h1.UpToSlots h2) (nf : ∀ b ∈ fs, ∃ o, h1.get? b = some o ∧ ∀ vs, o.data ≠ .fields vs) : Un fs [] H₀ H' h0 h2 := by
  have nL : ∀ b o, h0.get? b = some o → b ∉ fs → b ∉ L :: fs := fun b o q hb z => by
    rcases List.mem_cons.mp z with z | z
    · rw [z, hL] at q; cases q
    · exact hb z
  refine ⟨fun b o q n hb hx => ?_, fun b o q n hb hx => ?_, fun b o q n hx => ?_, fun b o q hx => ?_, fun b xs q => U2.tups _ _ (U1.tups _ _ q), fun b o u q => U2.frzs _ _ _ (U1.frzs _ _ _ q), fun b ps q => ?_⟩
  · have q1 := U1.keep b o q n hb hx
    have q2 := U2.keep b o q1 (U1.free b o q n hx) (nL b o q hb) hx
    obtain ⟨o', e⟩ := cov b o q1 (nL b o q hb)
    have e1 := k1 _ _ e
    rw [q2] at e1
    cases e1
    exact k2 _ _ e
  · obtain ⟨s1, q1⟩ := U1.slot b o q n hb hx
    obtain ⟨s2, q2⟩ := U2.slot b _ q1 (U1.free b o q n hx) (List.mem_cons_of_mem _ hb) hx
    obtain ⟨ob, q3, d⟩ := nf b hb
    rw [q2] at q3
    cases q3
    obtain ⟨s4, q4⟩ := sl b _ q2 d
    exact ⟨s4, q4⟩
  · obtain ⟨o1, q1⟩ := U1.there b o q hx
    exact U2.free b o1 q1 (U1.free b o q n hx) hx
  · by_cases hb : b ∈ fs
    · obtain ⟨ob, q3, d⟩ := nf b hb
      obtain ⟨s4, q4⟩ := sl b _ q3 d
      exact ⟨_, q4⟩
    · obtain ⟨o1, q1⟩ := U1.there b o q hx
      obtain ⟨o', e⟩ := cov b o1 q1 (nL b o q hb)
      exact ⟨_, k2 _ _ e⟩
  · obtain ⟨m1, e1⟩ := U1.tbls b ps q
    obtain ⟨m2, e2⟩ := U2.tbls b _ e1
    exact ⟨m1 ++ m2, by rw [e2, Array.append_assoc]⟩

noncomputable def CXE (P : Program) (w : World) : CXT := fun outer H s E e s' => ∃ (ea C : Addr) (a0 : Value) (B : Heap) (H' : Hp), e = .ref ea ∧ Heap.FlyingW B outer ea (.ref C) a0 s'.heap ∧ s'.os = s.os ∧ AllBare s'.gens ∧
  HOk P w H' B ∧ Un (frs outer) [] H H' s.heap s'.heap ∧ (∀ b o, s.heap.get? b = some o → b ∉ frs outer → ∃ o', B.get? b = some o') ∧ ∃ m : Option Addr, (m = none → Ctx0 s'.heap ea) ∧ E (.ref C) m H'

section
variable {P : Program} {w : World} {K : PySem.W.Frag} {mg : Str → Option Value} {base : Heap} {N : List Str} {qual : Str} {scope : Scope} {f : Addr} {cdv : Value} {A : Around} {outer : List Env} {s0 s : Shared} {H0 H : Hp} {E E' : XK}
  {pins : List (Addr × Obj)} {σ : St} {CX : CXT}
theorem stack_frs {e : Env} {L : Addr} {l : List Env} (h : e.frame = some L) : frs (e :: l) = L :: frs l := by
  unfold frs
  rw [List.filterMap_cons, h]
theorem passE (hE : ∀ c m H', E' c m H' → E c m H') : Passes (CXE P w) (cxOf (CXE P w) P w K mg base N qual scope f cdv A outer s0 H0 E) E' := by
  intro pins σ H s e s' I h
  obtain ⟨ea, C, a0, B, H', rfl, fl, os, bare, hok, un, cov, m, hm, q⟩ := h
  have es : frs (envOfC qual scope s0.heap.objs.size f cdv :: outer) = s0.heap.objs.size :: frs outer := stack_frs rfl
  have Ib : Un (frs outer) [] H0 H s0.heap s.heap := I.base
  have un' : Un (s0.heap.objs.size :: frs outer) [] H H' s.heap s'.heap := by rw [← es]; exact un
  have cov' : ∀ b o, s.heap.get? b = some o → b ∉ s0.heap.objs.size :: frs outer → ∃ o', B.get? b = some o' := fun b o z hb => cov b o z (by show b ∉ frs (envOfC qual scope s0.heap.objs.size f cdv :: outer); rw [es]; exact hb)
  show wpAny _ _ (leaving _ _) _ _ _
  refine leave_on I.ok.frames rfl fl fun h'' x1 x2 x3 => ?_
  refine ⟨ea, C, a0, B, H', rfl, x1, os.trans I.os, bare, hok, ?_, ?_, m, fun z => x3 _ (hm z), hE _ _ _ q⟩
  · refine Un.fly Ib un' (Heap.get?_none_of_le (Nat.le_refl _)) cov' fl.1 x1.1 x2 fun b hb => ?_
    obtain ⟨_, o, z, d⟩ := fl.2.2.1.mem (b := b) (by show b ∈ frs (envOfC qual scope s0.heap.objs.size f cdv :: outer); rw [es]; exact List.mem_cons_of_mem _ hb)
    exact ⟨o, z, d⟩
  · intro b o z hb
    obtain ⟨o1, z1⟩ := Ib.there b o z (by simp)
    refine cov' b o1 z1 fun hm => ?_
    rcases List.mem_cons.mp hm with y | y
    · rw [y, Heap.get?_none_of_le (Nat.le_refl _)] at z; cases z
    · exact hb y
end

end L2
namespace L2
open PySem PySem.Spec PyProof.Rows PySem.W

section
variable {prog : Program} {w : World} {A : Around} {E : Value → Shared → Prop} {h : Heap} {g : Array GenState} {d : Drawn} {t : Nat} {os : OsState} {a : Addr} {o : Obj}
  {nm q : Str} {C N : Addr} {bs bm : List Value} {hdct : Bool} {sn : List Str} {sub : List Value} {ab : Bool} {col : Option Bool} {dd : Option Addr} {k0 k1 k2 k3 k5 : Option Value} {newId : String}





end
end L2
namespace L2
open PySem PySem.Spec PyProof.Rows

section
variable {X : Cx} {pins : List (Addr × Obj)} {σ : St} {H : Hp} {s : Shared} {xe : Value → Shared → Prop} {A : Around}
end
section
variable {X : Cx} {pins : List (Addr × Obj)} {σ : St} {H0 H' : Hp} {s0 s' : Shared} {ea C : Addr} {a0 : Value} {B h5 : Heap} {env : Env} {outer : List Env}
end

section
variable {X : Cx} {k : Nat} {f : Addr} {fd : FuncData} {ps : List Str} {sp : Sp} {dvs : List V} {ds : List Value} {x : Str} {p pos : Pos} {e : Expr} {es : List Expr} {t : TA}
end


end L2
namespace L2
open PySem PySem.Spec PyProof.Rows

section
variable {X : Cx}
end

theorem Fun.okE {P : Program} {w : World} {K : PySem.W.Frag} {mg : Str → Option Value} {base : Heap} {x qual : Str} {st : Stmt} {f : Addr} {fd : FuncData} {N ps : List Str} {k : Nat} {sp : Sp} (F : Fun K x qual st f fd) (S : FnScope N ps (defScope st)) (len : ∀ vs H Q E, sp vs H Q E → vs.length = ps.length)
    (hbody : ∀ (cdv : Value) (A : Around) (outer : List Env) (s : Shared) (H : Hp) (vs : List V) (Q : VK) (E : XK), Room k (A.deeper (envOfC qual (defScope st) s.heap.objs.size f cdv)) → sp vs H Q E →
      ∃ t, PSs (cxOf (CXE P w) P w K mg base N qual (defScope st) f cdv A outer s H E) (defBody st) t ∧ t { nx := fun _ H' => Q .non H', rt := Q } (start N vs) H) : FnOk P w K mg base (CXE P w) (k + 1) f fd ps sp := by
  obtain ⟨oc, od, kV, doc, pm, an, cdv, ct, osl, rfl, lk, hcd⟩ := F.ex
  exact fn_of lk hcd S len fun A outer s H vs Q E hr hsp => hbody cdv A outer s H vs Q E hr hsp
structure HasM (P : Program) (w : World) (K : PySem.W.Frag) (mg : Str → Option Value) (base : Heap) (k : Nat) (C : Addr) (m : Str) (ps : List Str) (sp : Sp) : Prop where
  ex : ∃ f fd, FnOk P w K mg base (CXE P w) k f fd ps sp ∧ Meth K C m f ∧ Binds K fd ps []
structure HasC (P : Program) (w : World) (K : PySem.W.Frag) (mg : Str → Option Value) (base : Heap) (k : Nat) (x : Str) (C : Addr) (ps : List Str) (sp : Sp) : Prop where
  ex : ∃ f fd, FnOk P w K mg base (CXE P w) k f fd ps sp ∧ mg x = some (.ref C) ∧ Mk K C f ∧ Binds K fd ps []
structure DefM (K : PySem.W.Frag) (C : Addr) (m qual : Str) (st : Stmt) (ps : List Str) : Prop where
  ex : ∃ f fd, Fun K m qual st f fd ∧ Meth K C m f ∧ Binds K fd ps []
structure DefC (K : PySem.W.Frag) (mg : Str → Option Value) (x : Str) (C : Addr) (qual : Str) (st : Stmt) (ps : List Str) : Prop where
  ex : ∃ f fd, Fun K "__init__" qual st f fd ∧ mg x = some (.ref C) ∧ Mk K C f ∧ Binds K fd ps []
section
variable {P : Program} {w : World} {K : PySem.W.Frag} {mg : Str → Option Value} {base : Heap} {x m qual : Str} {C : Addr} {st : Stmt} {N ps : List Str} {k : Nat} {sp : Sp}
theorem DefM.has (D : DefM K C m qual st ps) (S : FnScope N ps (defScope st)) (len : ∀ vs H Q E, sp vs H Q E → vs.length = ps.length)
    (hbody : ∀ (f : Addr) (cdv : Value) (A : Around) (outer : List Env) (s : Shared) (H : Hp) (vs : List V) (Q : VK) (E : XK), Room k (A.deeper (envOfC qual (defScope st) s.heap.objs.size f cdv)) → sp vs H Q E →
      ∃ t, PSs (cxOf (CXE P w) P w K mg base N qual (defScope st) f cdv A outer s H E) (defBody st) t ∧ t { nx := fun _ H' => Q .non H', rt := Q } (start N vs) H) : HasM P w K mg base (k + 1) C m ps sp := by
  obtain ⟨f, fd, F, hm, hb⟩ := D.ex
  exact ⟨f, fd, F.okE S len (hbody f), hm, hb⟩
theorem DefC.has (D : DefC K mg x C qual st ps) (S : FnScope N ps (defScope st)) (len : ∀ vs H Q E, sp vs H Q E → vs.length = ps.length)
    (hbody : ∀ (f : Addr) (cdv : Value) (A : Around) (outer : List Env) (s : Shared) (H : Hp) (vs : List V) (Q : VK) (E : XK), Room k (A.deeper (envOfC qual (defScope st) s.heap.objs.size f cdv)) → sp vs H Q E →
      ∃ t, PSs (cxOf (CXE P w) P w K mg base N qual (defScope st) f cdv A outer s H E) (defBody st) t ∧ t { nx := fun _ H' => Q .non H', rt := Q } (start N vs) H) : HasC P w K mg base (k + 1) x C ps sp := by
  obtain ⟨f, fd, F, hm, hb⟩ := D.ex
  exact ⟨f, fd, F.okE S len (hbody f), hm, hb⟩
end
section
variable {X : Cx} {k k' : Nat} {x m : Str} {C : Addr} {ps : List Str} {sp : Sp} {p pos apos : Pos} {e o : Expr} {es : List Expr} {ta : TE} {t : TA} {E : XK}
theorem pe_mE {pl : Sem Bool} (h : HasM X.prog X.w X.K X.mg X.base k C m ps sp) (c : Cls X.K C) (hr : Room k' X.A) (hk : k ≤ k') (hx : Passes (CXE X.prog X.w) X E) (he : PE X o ta) (ha : PA X (e :: es) t)
    (hst : starEach (e :: es) X.env = (false, eval e X.env) :: starEach es X.env := by rfl) (hpl : (backTo pos (starEach es X.env)).any (·.1) = false := by rfl)
    (ht : eval (.Call (.Attribute o m apos) (e :: es) [] pos) X.env = (do
      let ov ← eval o X.env
      standAt apos.atName
      let (f, first) ← holding [ov] (getMethod ov m pl)
      callWith pos f first (backTo pos (starEach (e :: es) X.env)) (backToKw pos (keywordEach [] X.env))) := by rfl) :
    PE X (.Call (.Attribute o m apos) (e :: es) [] pos) (tMeth C m sp [] E ta t) := by
  obtain ⟨f, fd, F, hm, hb⟩ := h.ex
  exact pe_meth he c hm F (hr.mono hk) hb .nil hx ha hst hpl ht
theorem pe_makeE (h : HasC X.prog X.w X.K X.mg X.base k x C ps sp) (hr : Room k' X.A) (hk : k + 1 ≤ k') (hx : Passes (CXE X.prog X.w) X E) (hg : Gl X x) (ha : PA X (e :: es) t) (hdb : (x == ("__debug__" : Str)) = false := by decide)
    (he : starEach (e :: es) X.env = (false, eval e X.env) :: starEach es X.env := by rfl) (hpl : (backTo pos (starEach es X.env)).any (·.1) = false := by rfl) :
    PE X (.Call (.Name x p) (e :: es) [] pos) (tMake C sp [] E t) := by
  obtain ⟨f, fd, F, hm, M, hb⟩ := h.ex
  exact pe_make M F (hr.mono hk) hg hm hb .nil hx ha hdb he hpl
end
end L2
namespace L2
open PySem PySem.Spec PyProof.Rows
end L2
namespace L2
open PySem PySem.Spec PyProof.Rows
section
variable {X : Cx}
end
theorem comp_tupS {K : PySem.W.Frag} {a : Addr} {xs ys : List V} {te : TE} {σ : St} {caps : List (Str × Nat)} {H : Hp} {Q : VK} (hS : SqT K H a xs) (hz : xs.length ≤ 1000) (hy : ys.length = xs.length)
    (hel : ∀ (i : Nat) (x y : V), xs[i]? = some x → ys[i]? = some y → ∀ H', Same H H' → ∀ Q' : VK, (∀ H'', Same H' H'' → Q' y H'') → te (some x :: capt σ caps) H' Q') (hq : ∀ D H', H D = none → Same H H' → H' D = some (.lst ys) → Q (.ref D) H') :
    CompBody (Itt K a) (gName 0) te (List.replicate 1 none ++ capt σ caps) H Q := by
  intro D hD
  refine ⟨fun i m τ zs H' => m = xs.length - i ∧ i ≤ xs.length ∧ (∃ o, τ = o :: capt σ caps) ∧ zs = ys.take i ∧ Same H H' ∧ H' D = some (.lst zs), ⟨xs.length, by simp, Nat.zero_le _, ⟨none, rfl⟩, by simp, same_new hD _, upd_same⟩, ?_⟩
  rintro i m τ zs H' ⟨rfl, hi, ⟨o, rfl⟩, rfl, sm, hDl⟩
  refine ⟨hDl, ?_⟩
  by_cases hlt : i < xs.length
  · refine .inr ⟨⟨xs, xs[i], sm.tup hS, by simp [hlt]⟩, ?_, fun x H'' y => ?_⟩
    · rw [List.length_take]
      exact small1000 (by omega)
    obtain ⟨e, y⟩ := y
    subst e
    have hx := y xs (sm.tup hS)
    have hyi : ys[i]? = some ys[i] := List.getElem?_eq_getElem (by omega)
    show te (some x :: capt σ caps) _ _
    refine hel i x ys[i] hx hyi _ sm _ (fun H2 s2 => ?_)
    refine ⟨s2 _ _ hDl, xs.length - (i + 1), by omega, rfl, hlt, ⟨_, rfl⟩, ?_, (sm.trans s2).put hD, ?_⟩
    · rw [List.take_add_one, hyi]; rfl
    · rw [upd_same]
  · have e : i = xs.length := by omega
    subst e
    refine .inl ⟨⟨xs, sm.tup hS, Nat.le_refl _⟩, ?_⟩
    rw [← hy, List.take_length] at hDl
    exact hq D H' hD sm hDl
end L2
namespace L2
open PySem PySem.Spec PyProof.Rows
end L2
namespace L2
open PySem PySem.Spec PyProof.Rows

inductive D where
  | non | int (i : Int) | str (x : Str) | tup (ds : List D) | lst (ds : List D)
noncomputable instance : DecidableEq D := fun _ _ => Classical.propDecidable _
mutual
noncomputable def D.deep : D → Nat
  | .tup ds => D.deeps ds + 1
  | .lst ds => D.deeps ds + 1
  | .non => 0
  | .int _ => 0
  | .str _ => 0
noncomputable def D.deeps : List D → Nat
  | [] => 0
  | d :: ds => max d.deep (D.deeps ds)
end
theorem deeps_le : ∀ {ds : List D} {d : D}, d ∈ ds → d.deep ≤ D.deeps ds
  | e :: ds, d, h => by
    rw [D.deeps]
    rcases List.mem_cons.mp h with rfl | h
    · omega
    · have := deeps_le h; omega
mutual
noncomputable def DenR (h : Heap) : D → Value → Prop
  | .non, u => u = Value.none
  | .int i, u => (∃ t, u = Value.int i t) ∨ ∃ b, u = Value.bool b ∧ i = (if b then 1 else 0)
  | .str x, u => ∃ t, u = Value.str x t
  | .tup ds, u => ∃ a us, u = Value.ref a ∧ h.IsTuple a us.toArray ∧ DenRs h ds us
  | .lst ds, u => ∃ a us, u = Value.ref a ∧ h.IsList a us.toArray ∧ DenRs h ds us
noncomputable def DenRs (h : Heap) : List D → List Value → Prop
  | [], us => us = []
  | d :: ds, us => ∃ u us', us = u :: us' ∧ DenR h d u ∧ DenRs h ds us'
end
mutual
noncomputable def Den (H : Hp) : D → V → Prop
  | .non, v => v = .non
  | .int i, v => v = .int i ∨ ∃ b, v = .bl b ∧ i = (if b then 1 else 0)
  | .str x, v => v = .str x
  | .tup ds, v => ∃ a vs, v = .ref a ∧ H a = some (.tup vs) ∧ Dens H ds vs
  | .lst ds, v => ∃ a vs, v = .ref a ∧ H a = some (.lst vs) ∧ Dens H ds vs
noncomputable def Dens (H : Hp) : List D → List V → Prop
  | [], vs => vs = []
  | d :: ds, vs => ∃ v vs', vs = v :: vs' ∧ Den H d v ∧ Dens H ds vs'
end
theorem denRs_len {h : Heap} : ∀ {ds : List D} {us : List Value}, DenRs h ds us → us.length = ds.length
  | [], us, r => by rw [DenRs] at r; subst r; rfl
  | d :: ds, us, r => by
    rw [DenRs] at r
    obtain ⟨u, us', rfl, _, r⟩ := r
    rw [List.length_cons, List.length_cons, denRs_len r]
theorem denRs_at {h : Heap} : ∀ {ds : List D} {us : List Value} {j : Nat} {d : D}, DenRs h ds us → ds[j]? = some d → ∃ u, us[j]? = some u ∧ DenR h d u
  | [], us, j, d, r, e => by simp at e
  | c :: ds, us, 0, d, r, e => by
    rw [DenRs] at r
    obtain ⟨u, us', rfl, r1, _⟩ := r
    simp at e; subst e
    exact ⟨u, rfl, r1⟩
  | c :: ds, us, j + 1, d, r, e => by
    rw [DenRs] at r
    obtain ⟨u, us', rfl, _, r⟩ := r
    obtain ⟨u', e', r'⟩ := denRs_at (j := j) (d := d) r (by simpa using e)
    exact ⟨u', by simpa using e', r'⟩
theorem dens_cons {H : Hp} {d : D} {v : V} {ds : List D} {vs : List V} (r : Den H d v) (q : Dens H ds vs) : Dens H (d :: ds) (v :: vs) := by
  rw [Dens]; exact ⟨v, vs, rfl, r, q⟩
theorem dens_nil {H : Hp} : Dens H [] [] := by rw [Dens]
mutual
theorem den_raw {P : Program} {w : World} {H : Hp} {h : Heap} (ok : HOk P w H h) : ∀ {d : D} {v : V} {u : Value}, Den H d v → RelV v u → DenR h d u
  | .non, v, u, r, q => by rw [Den] at r; subst r; rw [DenR]; exact q
  | .int i, v, u, r, q => by
    rw [Den] at r
    rw [DenR]
    rcases r with rfl | ⟨b, rfl, e⟩
    · exact .inl q
    · exact .inr ⟨b, q, e⟩
  | .str x, v, u, r, q => by rw [Den] at r; subst r; rw [DenR]; exact q
  | .tup ds, v, u, r, q => by
    rw [Den] at r
    obtain ⟨a, vs, rfl, e, r⟩ := r
    rw [DenR]
    obtain ⟨_, its, rv, p⟩ := (show ObjOk P w H h a (.tup vs) from ok a _ e)
    exact ⟨a, its, q, p.tup, dens_raw ok r rv⟩
  | .lst ds, v, u, r, q => by
    rw [Den] at r
    obtain ⟨a, vs, rfl, e, r⟩ := r
    rw [DenR]
    obtain ⟨_, its, n, rv, p⟩ := (show ObjOk P w H h a (.lst vs) from ok a _ e)
    exact ⟨a, its, q, ⟨_, p, rfl, n, rfl⟩, dens_raw ok r rv⟩
theorem dens_raw {P : Program} {w : World} {H : Hp} {h : Heap} (ok : HOk P w H h) : ∀ {ds : List D} {vs : List V} {us : List Value}, Dens H ds vs → Vals vs us → DenRs h ds us
  | [], vs, us, r, q => by rw [Dens] at r; subst r; cases q; rw [DenRs]
  | d :: ds, vs, us, r, q => by
    rw [Dens] at r
    obtain ⟨v, vs', rfl, r1, r⟩ := r
    cases q with
    | cons q1 q2 =>
      rw [DenRs]
      exact ⟨_, _, rfl, den_raw ok r1 q1, dens_raw ok r q2⟩
end
theorem tup_seq {h : Heap} {a : Addr} {x y : Array Value} (p : h.IsTuple a x) (q : h.IsTuple a y) : x = y := by
  obtain ⟨o, e, _, n, d⟩ := p
  obtain ⟨o', e', _, n', d'⟩ := q
  rw [e] at e'; cases e'
  rw [d] at d'
  injection d'
theorem lst_seq {h : Heap} {a : Addr} {x y : Array Value} (p : h.IsList a x) (q : h.IsList a y) : x = y := by
  obtain ⟨o, e, _, n, d⟩ := p
  obtain ⟨o', e', _, n', d'⟩ := q
  rw [e] at e'; cases e'
  rw [d] at d'
  injection d'
theorem lst_tup {h : Heap} {a : Addr} {x y : Array Value} (p : h.IsList a x) (q : h.IsTuple a y) : False := by
  obtain ⟨o, e, c, n, d⟩ := p
  obtain ⟨o', e', c', n', d'⟩ := q
  rw [e] at e'; cases e'
  rw [c] at c'
  exact absurd (Value.type.inj c') (by decide)
mutual
theorem denR_inj {h : Heap} : ∀ {d e : D} {u : Value}, DenR h d u → DenR h e u → d = e
  | .non, e, u, r, q => by
    rw [DenR] at r; subst r
    cases e with
    | non => rfl
    | int i => rw [DenR] at q; rcases q with ⟨t, z⟩ | ⟨b, z, _⟩ <;> cases z
    | str x => rw [DenR] at q; obtain ⟨t, z⟩ := q; cases z
    | tup es => rw [DenR] at q; obtain ⟨a, us, z, _⟩ := q; cases z
    | lst es => rw [DenR] at q; obtain ⟨a, us, z, _⟩ := q; cases z
  | .int i, e, u, r, q => by
    rw [DenR] at r
    cases e with
    | non => rw [DenR] at q; subst q; rcases r with ⟨t, z⟩ | ⟨b, z, _⟩ <;> cases z
    | int j =>
      rw [DenR] at q
      rcases r with ⟨t, rfl⟩ | ⟨b, rfl, hb⟩ <;> rcases q with ⟨t', z⟩ | ⟨b', z, hb'⟩ <;> cases z
      · rfl
      · rw [hb, hb']
    | str x => rw [DenR] at q; obtain ⟨t, rfl⟩ := q; rcases r with ⟨t, z⟩ | ⟨b, z, _⟩ <;> cases z
    | tup es => rw [DenR] at q; obtain ⟨a, us, rfl, _⟩ := q; rcases r with ⟨t, z⟩ | ⟨b, z, _⟩ <;> cases z
    | lst es => rw [DenR] at q; obtain ⟨a, us, rfl, _⟩ := q; rcases r with ⟨t, z⟩ | ⟨b, z, _⟩ <;> cases z
  | .str x, e, u, r, q => by
    rw [DenR] at r
    obtain ⟨t, rfl⟩ := r
    cases e with
    | non => rw [DenR] at q; cases q
    | int i => rw [DenR] at q; rcases q with ⟨t, z⟩ | ⟨b, z, _⟩ <;> cases z
    | str x => rw [DenR] at q; obtain ⟨t, z⟩ := q; cases z; rfl
    | tup es => rw [DenR] at q; obtain ⟨a, us, z, _⟩ := q; cases z
    | lst es => rw [DenR] at q; obtain ⟨a, us, z, _⟩ := q; cases z
  | .tup ds, e, u, r, q => by
    rw [DenR] at r
    obtain ⟨a, us, rfl, p, r⟩ := r
    cases e with
    | non => rw [DenR] at q; cases q
    | int i => rw [DenR] at q; rcases q with ⟨t, z⟩ | ⟨b, z, _⟩ <;> cases z
    | str x => rw [DenR] at q; obtain ⟨t, z⟩ := q; cases z
    | tup es =>
      rw [DenR] at q; obtain ⟨a', us', z, p', q⟩ := q; cases z
      have e : us = us' := by have := tup_seq p p'; simpa using this
      subst e
      rw [denRs_inj r q]
    | lst es => rw [DenR] at q; obtain ⟨a', us', z, p', _⟩ := q; cases z; exact absurd p (fun p => lst_tup p' p)
  | .lst ds, e, u, r, q => by
    rw [DenR] at r
    obtain ⟨a, us, rfl, p, r⟩ := r
    cases e with
    | non => rw [DenR] at q; cases q
    | int i => rw [DenR] at q; rcases q with ⟨t, z⟩ | ⟨b, z, _⟩ <;> cases z
    | str x => rw [DenR] at q; obtain ⟨t, z⟩ := q; cases z
    | tup es => rw [DenR] at q; obtain ⟨a', us', z, p', _⟩ := q; cases z; exact absurd p (fun p => lst_tup p p')
    | lst es =>
      rw [DenR] at q; obtain ⟨a', us', z, p', q⟩ := q; cases z
      have e : us = us' := by have := lst_seq p p'; simpa using this
      subst e
      rw [denRs_inj r q]
theorem denRs_inj {h : Heap} : ∀ {ds es : List D} {us : List Value}, DenRs h ds us → DenRs h es us → ds = es
  | [], es, us, r, q => by
    rw [DenRs] at r; subst r
    cases es with
    | nil => rfl
    | cons e es => rw [DenRs] at q; obtain ⟨u, us', z, _⟩ := q; cases z
  | d :: ds, es, us, r, q => by
    rw [DenRs] at r
    obtain ⟨u, us', rfl, r1, r⟩ := r
    cases es with
    | nil => rw [DenRs] at q; cases q
    | cons e es =>
      rw [DenRs] at q; obtain ⟨u', us'', z, q1, q⟩ := q
      cases z
      rw [denR_inj r1 q1, denRs_inj r q]
end
theorem dec_true {p : Prop} [Decidable p] {b : Bool} (h : p ↔ b = true) : b = decide p := by
  cases b with
  | true => exact (decide_eq_true (h.mpr rfl)).symm
  | false => exact (decide_eq_false fun z => Bool.false_ne_true (h.mp z)).symm
theorem all_eq (ds es : List D) : ((List.range (min ds.length es.length)).all (fun j => decide (ds[j]? = es[j]?)) && ds.length == es.length) = decide (ds = es) := by
  refine dec_true ⟨fun h => by subst h; simp, fun h => ?_⟩
  rw [Bool.and_eq_true, List.all_eq_true] at h
  have hl : ds.length = es.length := eq_of_beq h.2
  refine List.ext_getElem? fun j => ?_
  by_cases hj : j < ds.length
  · exact of_decide_eq_true (h.1 j (List.mem_range.mpr (by omega)))
  · rw [List.getElem?_eq_none (by omega), List.getElem?_eq_none (by omega)]
theorem all_eq' (ds es : List D) (hl : ds.length = es.length) : (List.range ds.length).all (fun j => decide (ds[j]? = es[j]?)) = decide (ds = es) := by
  have := all_eq ds es
  rw [← hl, Nat.min_self] at this
  simpa using this
section
open SeqAt
variable {A : Around} {s : Shared}
theorem eqAt_cast {u v : Value} {b c : Bool} (h : EqAt A s u v b) (e : b = c) : EqAt A s u v c := e ▸ h
theorem eqAt_D : ∀ (n : Nat) {d e : D} {A : Around} {u v : Value}, d.deep ≤ n → DenR s.heap d u → DenR s.heap e v → A.units + n < cLine → EqAt A s u v (decide (d = e)) := by
  intro n
  induction n with
  | zero => ?_
  | succ n ih => ?_
  all_goals intro d e A u v hn r q hu
  all_goals have hu0 : A.units < cLine := by omega
  all_goals cases d with
    | non =>
      rw [DenR] at r; subst r
      cases e with
      | non => rw [DenR] at q; subst q; exact eqAt_cast (EqAt.same _) (decide_eq_true rfl).symm
      | int j =>
        rw [DenR] at q
        rcases q with ⟨t, rfl⟩ | ⟨b, rfl, _⟩
        · exact eqAt_cast (EqAt.none_int j t) (decide_eq_false (fun z => nomatch z)).symm
        · exact eqAt_cast (EqAt.none_bool b) (decide_eq_false (fun z => nomatch z)).symm
      | str y => rw [DenR] at q; obtain ⟨t, rfl⟩ := q; exact eqAt_cast (EqAt.none_str y t) (decide_eq_false (fun z => nomatch z)).symm
      | tup es => rw [DenR] at q; obtain ⟨a, us, rfl, p, _⟩ := q; exact eqAt_cast (EqAt.none_tuple p hu0) (decide_eq_false (fun z => nomatch z)).symm
      | lst es => rw [DenR] at q; obtain ⟨a, us, rfl, p, _⟩ := q; exact eqAt_cast (EqAt.none_list p hu0) (decide_eq_false (fun z => nomatch z)).symm
    | int i =>
      rw [DenR] at r
      cases e with
      | non =>
        rw [DenR] at q; subst q
        rcases r with ⟨t, rfl⟩ | ⟨b, rfl, _⟩
        · exact eqAt_cast (EqAt.int_none i t) (decide_eq_false (fun z => nomatch z)).symm
        · exact eqAt_cast (EqAt.bool_none b) (decide_eq_false (fun z => nomatch z)).symm
      | int j =>
        rw [DenR] at q
        have key : ∀ x y : Int, (x == y) = decide (D.int x = D.int y) := fun x y => dec_true ⟨fun z => by cases z; simp, fun z => by rw [eq_of_beq z]⟩
        rcases r with ⟨t, rfl⟩ | ⟨b, rfl, hb⟩ <;> rcases q with ⟨t', rfl⟩ | ⟨b', rfl, hb'⟩
        · exact eqAt_cast (EqAt.int_int i t j t') (key i j)
        · rw [hb']; exact eqAt_cast (EqAt.int_bool i t b') (key _ _)
        · rw [hb]; exact eqAt_cast (EqAt.bool_int b j t') (key _ _)
        · rw [hb, hb']; exact eqAt_cast (EqAt.bool_bool b b') (by rw [← key]; cases b <;> cases b' <;> rfl)
      | str y =>
        rw [DenR] at q; obtain ⟨t, rfl⟩ := q
        rcases r with ⟨t', rfl⟩ | ⟨b, rfl, _⟩
        · exact eqAt_cast (EqAt.int_str i t' y t) (decide_eq_false (fun z => nomatch z)).symm
        · exact eqAt_cast (EqAt.bool_str b y t) (decide_eq_false (fun z => nomatch z)).symm
      | tup es =>
        rw [DenR] at q; obtain ⟨a, us, rfl, p, _⟩ := q
        rcases r with ⟨t', rfl⟩ | ⟨b, rfl, _⟩
        · exact eqAt_cast (EqAt.int_tuple i t' p hu0) (decide_eq_false (fun z => nomatch z)).symm
        · exact eqAt_cast (EqAt.bool_tuple b p hu0) (decide_eq_false (fun z => nomatch z)).symm
      | lst es =>
        rw [DenR] at q; obtain ⟨a, us, rfl, p, _⟩ := q
        rcases r with ⟨t', rfl⟩ | ⟨b, rfl, _⟩
        · exact eqAt_cast (EqAt.int_list i t' p hu0) (decide_eq_false (fun z => nomatch z)).symm
        · exact eqAt_cast (EqAt.bool_list b p hu0) (decide_eq_false (fun z => nomatch z)).symm
    | str x =>
      rw [DenR] at r; obtain ⟨t', rfl⟩ := r
      cases e with
      | non => rw [DenR] at q; subst q; exact eqAt_cast (EqAt.str_none x t') (decide_eq_false (fun z => nomatch z)).symm
      | int j =>
        rw [DenR] at q
        rcases q with ⟨t, rfl⟩ | ⟨b, rfl, _⟩
        · exact eqAt_cast (EqAt.str_int x t' j t) (decide_eq_false (fun z => nomatch z)).symm
        · exact eqAt_cast (EqAt.str_bool x t' b) (decide_eq_false (fun z => nomatch z)).symm
      | str y =>
        rw [DenR] at q; obtain ⟨t, rfl⟩ := q
        exact eqAt_cast (EqAt.str_str x t' y t) (dec_true ⟨fun z => by cases z; simp, fun z => by rw [eq_of_beq z]⟩)
      | tup es => rw [DenR] at q; obtain ⟨a, us, rfl, p, _⟩ := q; exact eqAt_cast (EqAt.str_tuple x t' p hu0) (decide_eq_false (fun z => nomatch z)).symm
      | lst es => rw [DenR] at q; obtain ⟨a, us, rfl, p, _⟩ := q; exact eqAt_cast (EqAt.str_list x t' p hu0) (decide_eq_false (fun z => nomatch z)).symm
    | tup ds => ?_
    | lst ds => ?_
  · rw [D.deep] at hn; omega
  · rw [D.deep] at hn; omega
  · rw [D.deep] at hn
    have r0 := r
    rw [DenR] at r
    obtain ⟨a, us, rfl, p, r⟩ := r
    cases e with
    | non => rw [DenR] at q; subst q; exact eqAt_cast (EqAt.tuple_none p hu0) (decide_eq_false (fun z => nomatch z)).symm
    | int j =>
      rw [DenR] at q
      rcases q with ⟨t, rfl⟩ | ⟨b, rfl, _⟩
      · exact eqAt_cast (EqAt.tuple_int j t p hu0) (decide_eq_false (fun z => nomatch z)).symm
      · exact eqAt_cast (EqAt.tuple_bool b p hu0) (decide_eq_false (fun z => nomatch z)).symm
    | str y => rw [DenR] at q; obtain ⟨t, rfl⟩ := q; exact eqAt_cast (EqAt.tuple_str y t p hu0) (decide_eq_false (fun z => nomatch z)).symm
    | tup es =>
      have q0 := q
      rw [DenR] at q
      obtain ⟨b, us', rfl, p', q⟩ := q
      by_cases hab : a = b
      · subst hab
        rw [denR_inj r0 q0]
        exact eqAt_cast (EqAt.same _) (decide_eq_true rfl).symm
      · refine eqAt_cast (EqAt.of_refs hab (RcAt.tuples (e := fun j => decide (ds[j]? = es[j]?)) p p' hu0 fun j h1 h2 => ?_)) ?_
        · have l1 := denRs_len r
          have l2 := denRs_len q
          have h1' : j < us.length := by simpa using h1
          have h2' : j < us'.length := by simpa using h2
          have e1 := List.getElem?_eq_getElem (l := ds) (i := j) (by omega)
          have e2 := List.getElem?_eq_getElem (l := es) (i := j) (by omega)
          obtain ⟨u, f1, g1⟩ := denRs_at r e1
          obtain ⟨v, f2, g2⟩ := denRs_at q e2
          have z1 : us.toArray[j] = u := by rw [List.getElem?_eq_getElem h1'] at f1; simpa using f1
          have z2 : us'.toArray[j] = v := by rw [List.getElem?_eq_getElem h2'] at f2; simpa using f2
          rw [z1, z2]
          have := ih (d := ds[j]) (e := es[j]) (A := A.in1) (by have := deeps_le (List.getElem_mem (l := ds) (n := j) (by omega)); omega) g1 g2 (by show A.units + 1 + n < cLine; omega)
          refine eqAt_cast this ?_
          rw [e1, e2]
          exact decide_eq_decide.mpr ⟨fun z => by rw [z], fun z => Option.some.inj z⟩
        · have := all_eq ds es
          simp only [List.size_toArray, denRs_len r, denRs_len q]
          rw [this]
          exact decide_eq_decide.mpr ⟨fun z => by rw [z], fun z => by injection z⟩
    | lst es => rw [DenR] at q; obtain ⟨b, us', rfl, p', _⟩ := q; exact eqAt_cast (EqAt.tuple_list p p' hu0) (decide_eq_false (fun z => nomatch z)).symm
  · rw [D.deep] at hn
    have r0 := r
    rw [DenR] at r
    obtain ⟨a, us, rfl, p, r⟩ := r
    cases e with
    | non => rw [DenR] at q; subst q; exact eqAt_cast (EqAt.list_none p hu0) (decide_eq_false (fun z => nomatch z)).symm
    | int j =>
      rw [DenR] at q
      rcases q with ⟨t, rfl⟩ | ⟨b, rfl, _⟩
      · exact eqAt_cast (EqAt.list_int j t p hu0) (decide_eq_false (fun z => nomatch z)).symm
      · exact eqAt_cast (EqAt.list_bool b p hu0) (decide_eq_false (fun z => nomatch z)).symm
    | str y => rw [DenR] at q; obtain ⟨t, rfl⟩ := q; exact eqAt_cast (EqAt.list_str y t p hu0) (decide_eq_false (fun z => nomatch z)).symm
    | tup es => rw [DenR] at q; obtain ⟨b, us', rfl, p', _⟩ := q; exact eqAt_cast (EqAt.list_tuple p p' hu0) (decide_eq_false (fun z => nomatch z)).symm
    | lst es =>
      have q0 := q
      rw [DenR] at q
      obtain ⟨b, us', rfl, p', q⟩ := q
      have l1 := denRs_len r
      have l2 := denRs_len q
      by_cases hab : a = b
      · subst hab
        rw [denR_inj r0 q0]
        exact eqAt_cast (EqAt.same _) (decide_eq_true rfl).symm
      by_cases hl : ds.length = es.length
      · refine eqAt_cast (EqAt.of_refs hab (RcAt.lists (e := fun j => decide (ds[j]? = es[j]?)) p p' (by simp only [List.size_toArray]; omega) hu0 fun j h1 h2 => ?_)) ?_
        · have h1' : j < us.length := by simpa using h1
          have h2' : j < us'.length := by simpa using h2
          have e1 := List.getElem?_eq_getElem (l := ds) (i := j) (by omega)
          have e2 := List.getElem?_eq_getElem (l := es) (i := j) (by omega)
          obtain ⟨u, f1, g1⟩ := denRs_at r e1
          obtain ⟨v, f2, g2⟩ := denRs_at q e2
          have z1 : us.toArray[j] = u := by rw [List.getElem?_eq_getElem h1'] at f1; simpa using f1
          have z2 : us'.toArray[j] = v := by rw [List.getElem?_eq_getElem h2'] at f2; simpa using f2
          rw [z1, z2]
          have := ih (d := ds[j]) (e := es[j]) (A := A.in1) (by have := deeps_le (List.getElem_mem (l := ds) (n := j) (by omega)); omega) g1 g2 (by show A.units + 1 + n < cLine; omega)
          refine eqAt_cast this ?_
          rw [e1, e2]
          exact decide_eq_decide.mpr ⟨fun z => by rw [z], fun z => Option.some.inj z⟩
        · have := all_eq' ds es hl
          simp only [List.size_toArray, l1]
          rw [this]
          exact decide_eq_decide.mpr ⟨fun z => by rw [z], fun z => by injection z⟩
      · refine eqAt_cast (EqAt.of_refs hab (RcAt.lists_lengths p p' (by simp only [List.size_toArray]; simp; omega) hu0)) ?_
        exact (decide_eq_false (fun z => hl (by injection z with z; rw [z]))).symm
end
section
variable {X : Cx}
inductive J_rNeD (x : V) (y : V) (H : Hp) (Q : VK) : Prop
  | mk : ∀ ds es, (((Den H (.tup ds) x ∧ Den H (.tup es) y) ∨ (Den H (.lst ds) x ∧ Den H (.lst es) y))) → (D.deeps ds ≤ 150) → (Q (.bl (!decide (ds = es))) H) → J_rNeD x y H Q
noncomputable def rNeD : R2 := fun x y H Q => J_rNeD x y H Q
theorem deep_items {A : Around} {s : Shared} {ds es : List D} {us us' : List Value} (hu : A.units + 151 < cLine) (hd : D.deeps ds ≤ 150) (r : DenRs s.heap ds us) (q : DenRs s.heap es us') (j : Nat) (h1 : j < us.toArray.size) (h2 : j < us'.toArray.size) :
    SeqAt.EqAt A.in1 s us.toArray[j] us'.toArray[j] (decide (ds[j]? = es[j]?)) := by
  have l1 := denRs_len r
  have l2 := denRs_len q
  have h1' : j < us.length := by simpa using h1
  have h2' : j < us'.length := by simpa using h2
  have e1 := List.getElem?_eq_getElem (l := ds) (i := j) (by omega)
  have e2 := List.getElem?_eq_getElem (l := es) (i := j) (by omega)
  obtain ⟨u, f1, g1⟩ := denRs_at r e1
  obtain ⟨v, f2, g2⟩ := denRs_at q e2
  have z1 : us.toArray[j] = u := by rw [List.getElem?_eq_getElem h1'] at f1; simpa using f1
  have z2 : us'.toArray[j] = v := by rw [List.getElem?_eq_getElem h2'] at f2; simpa using f2
  rw [z1, z2]
  refine eqAt_cast (eqAt_D 150 (by have := deeps_le (List.getElem_mem (l := ds) (n := j) (by omega)); omega) g1 g2 (by show A.units + 1 + 150 < cLine; omega)) ?_
  rw [e1, e2]
  exact decide_eq_decide.mpr ⟨fun z => by rw [z], fun z => Option.some.inj z⟩
theorem op_neD (hu : X.A.units + 151 < cLine) : OpR X (compareOp .NotEq) rNeD := by
  intro pins s σ H x y v u Q I rx ry h
  obtain ⟨ds, es, hh, hd, q⟩ := h
  have hu0 : X.A.units < cLine := by omega
  rcases hh with ⟨h1, h2⟩ | ⟨h1, h2⟩
  · have g1 := den_raw I.hok h1 rx
    have g2 := den_raw I.hok h2 ry
    rw [DenR] at g1 g2
    obtain ⟨a, us, rfl, p, r⟩ := g1
    obtain ⟨b, us', rfl, p', r'⟩ := g2
    refine SeqAt.RcNeAt.tuples (e := fun j => decide (ds[j]? = es[j]?)) p p' hu0 (deep_items hu hd r r') _ _ _ _ ?_
    refine ⟨.bl (!decide (ds = es)), H, I, ?_, q⟩
    have := all_eq ds es
    simp only [List.size_toArray, denRs_len r, denRs_len r']
    rw [this]
    rfl
  · have g1 := den_raw I.hok h1 rx
    have g2 := den_raw I.hok h2 ry
    rw [DenR] at g1 g2
    obtain ⟨a, us, rfl, p, r⟩ := g1
    obtain ⟨b, us', rfl, p', r'⟩ := g2
    have l1 := denRs_len r
    have l2 := denRs_len r'
    by_cases hl : ds.length = es.length
    · refine SeqAt.RcNeAt.lists (e := fun j => decide (ds[j]? = es[j]?)) p p' (by simp only [List.size_toArray]; omega) hu0 (deep_items hu hd r r') _ _ _ _ ?_
      refine ⟨.bl (!decide (ds = es)), H, I, ?_, q⟩
      have := all_eq' ds es hl
      simp only [List.size_toArray, l1]
      rw [this]
      rfl
    · refine SeqAt.RcNeAt.lists_lengths p p' (by simp only [List.size_toArray]; simp; omega) hu0 _ _ _ _ ⟨.bl (!decide (ds = es)), H, I, ?_, q⟩
      rw [decide_eq_false (fun z => hl (by rw [z]))]
      rfl
inductive J_rInD (neg : Bool) (x : V) (y : V) (H : Hp) (Q : VK) : Prop
  | mk : ∀ d ds, (Den H d x) → ((Den H (.lst ds) y ∨ Den H (.tup ds) y)) → (D.deeps ds ≤ 150) → (Q (.bl (if neg then !decide (d ∈ ds) else decide (d ∈ ds))) H) → J_rInD neg x y H Q
noncomputable def rInD (neg : Bool) : R2 := fun x y H Q => J_rInD neg x y H Q
noncomputable def eqR (h : Heap) (d : D) (y : Value) : Bool := @decide (DenR h d y) (Classical.propDecidable _)
theorem eqR_eq {h : Heap} {d e : D} {y : Value} (r : DenR h e y) : eqR h d y = decide (e = d) := by
  unfold eqR
  by_cases z : e = d
  · subst z; rw [decide_eq_true rfl]; exact @decide_eq_true _ (Classical.propDecidable _) r
  · rw [decide_eq_false z]; exact @decide_eq_false _ (Classical.propDecidable _) fun q => z (denR_inj r q)
theorem denRs_mem {h : Heap} : ∀ {ds : List D} {us : List Value} {u : Value}, DenRs h ds us → u ∈ us → ∃ d ∈ ds, DenR h d u
  | [], us, u, r, m => by rw [DenRs] at r; subst r; cases m
  | d :: ds, us, u, r, m => by
    rw [DenRs] at r
    obtain ⟨v, us', rfl, r1, r⟩ := r
    rcases List.mem_cons.mp m with rfl | m
    · exact ⟨d, List.mem_cons_self, r1⟩
    · obtain ⟨e, he, q⟩ := denRs_mem r m
      exact ⟨e, List.mem_cons_of_mem _ he, q⟩
theorem any_eqR {h : Heap} {d : D} : ∀ {ds : List D} {us : List Value}, DenRs h ds us → us.any (eqR h d) = decide (d ∈ ds)
  | [], us, r => by rw [DenRs] at r; subst r; simp
  | e :: ds, us, r => by
    rw [DenRs] at r
    obtain ⟨v, us', rfl, r1, r⟩ := r
    rw [List.any_cons, any_eqR r, eqR_eq r1]
    refine dec_true ⟨fun z => ?_, fun z => ?_⟩
    · rcases List.mem_cons.mp z with rfl | z
      · simp
      · rw [decide_eq_true z]; simp
    · rw [Bool.or_eq_true] at z
      rcases z with z | z
      · rw [of_decide_eq_true z]; exact List.mem_cons_self
      · exact List.mem_cons_of_mem _ (of_decide_eq_true z)
theorem op_notInD (hu : X.A.units + 151 < cLine) : OpR X (compareOp .NotIn) (rInD true) := by
  intro pins s σ H x y v u Q I rx ry h
  obtain ⟨d, ds, h1, h2, hd, q⟩ := h
  have g1 := den_raw I.hok h1 rx
  have el : ∀ us : List Value, DenRs s.heap ds us → ∀ y, y ∈ us.toArray → SeqAt.EqAt X.A.in1 s y v (eqR s.heap d y) := fun us r y hy => by
    obtain ⟨e, he, r1⟩ := denRs_mem r (by simpa using hy)
    refine eqAt_cast (eqAt_D 150 (by have := deeps_le he; omega) r1 g1 (by show X.A.units + 1 + 150 < cLine; omega)) (eqR_eq r1).symm
  rcases h2 with h2 | h2
  · have g2 := den_raw I.hok h2 ry
    rw [DenR] at g2
    obtain ⟨b, us', rfl, p', r'⟩ := g2
    refine SeqAt.notIn_listAt (eqR s.heap d) p' (el us' r') ⟨.bl (!decide (d ∈ ds)), H, I, ?_, q⟩
    rw [← any_eqR r']
    show Value.bool _ = Value.bool _
    rw [List.any_toArray]
  · have g2 := den_raw I.hok h2 ry
    rw [DenR] at g2
    obtain ⟨b, us', rfl, p', r'⟩ := g2
    refine SeqAt.notIn_tupleAt (eqR s.heap d) p' (el us' r') ⟨.bl (!decide (d ∈ ds)), H, I, ?_, q⟩
    rw [← any_eqR r']
    show Value.bool _ = Value.bool _
    rw [List.any_toArray]
end
end L2
namespace L2
open PySem PySem.Spec PyProof.Rows

section
variable {κ : Type} [DecidableEq κ]
noncomputable def valV (kvs : List (κ × V)) (k : κ) : Option V := (kvs.find? fun kv => decide (kv.1 = k)).map (·.2)
noncomputable def putK (kvs : List (κ × V)) (k : κ) (v : V) : List (κ × V) :=
  if (kvs.any fun kv => decide (kv.1 = k)) = true then kvs.map (fun kv => if kv.1 = k then (kv.1, v) else kv) else kvs ++ [(k, v)]

theorem valV_nil {k : κ} : valV ([] : List (κ × V)) k = none := rfl
theorem valV_pos {p : κ × V} {r : List (κ × V)} {k : κ} (e : p.1 = k) : valV (p :: r) k = some p.2 := by simp [valV, List.find?_cons, e]
theorem valV_neg {p : κ × V} {r : List (κ × V)} {k : κ} (e : ¬ p.1 = k) : valV (p :: r) k = valV r k := by simp [valV, List.find?_cons, e]
theorem valV_any (k : κ) : ∀ kvs : List (κ × V), (kvs.any fun kv => decide (kv.1 = k)) = (valV kvs k).isSome
  | [] => rfl
  | p :: r => by
    rw [List.any_cons]
    by_cases e : p.1 = k
    · simp only [valV_pos e, decide_eq_true e, Bool.true_or, Option.isSome_some]
    · rw [valV_neg e, decide_eq_false e, Bool.false_or]; exact valV_any k r
theorem valV_map (k j : κ) (y : V) : ∀ kvs : List (κ × V), valV (kvs.map fun kv => if kv.1 = k then (kv.1, y) else kv) j = (valV kvs j).map fun x => if j = k then y else x
  | [] => rfl
  | p :: r => by
    have ih := valV_map k j y r
    rw [List.map_cons]
    by_cases h : p.1 = k
    · rw [if_pos h]
      by_cases e : p.1 = j
      · rw [valV_pos (p := (p.1, y)) e, valV_pos e, Option.map_some, if_pos (e.symm.trans h)]
      · rw [valV_neg (p := (p.1, y)) e, valV_neg e, ih]
    · rw [if_neg h]
      by_cases e : p.1 = j
      · rw [valV_pos (p := p) e, valV_pos e, Option.map_some, if_neg (fun z => h (e.trans z))]
      · rw [valV_neg (p := p) e, valV_neg e, ih]
theorem valV_snoc (k j : κ) (y : V) : ∀ kvs : List (κ × V), valV kvs k = none → valV (kvs ++ [(k, y)]) j = if j = k then some y else valV kvs j
  | [], _ => by
    by_cases e : k = j
    · rw [if_pos e.symm]; exact valV_pos (p := (k, y)) e
    · rw [if_neg (fun z => e z.symm)]; exact valV_neg (p := (k, y)) e
  | p :: r, hn => by
    rw [List.cons_append]
    have hk : ¬ p.1 = k := fun z => by rw [valV_pos z] at hn; cases hn
    rw [valV_neg hk] at hn
    have ih := valV_snoc k j y r hn
    by_cases e : p.1 = j
    · rw [valV_pos e, valV_pos e, if_neg (fun z => hk (e.trans z))]
    · rw [valV_neg e, valV_neg e, ih]
theorem valV_put (kvs : List (κ × V)) (k j : κ) (y : V) : valV (putK kvs k y) j = if j = k then some y else valV kvs j := by
  unfold putK
  by_cases a : (kvs.any fun kv => decide (kv.1 = k)) = true
  · rw [if_pos a, valV_map]
    rw [valV_any] at a
    by_cases e : j = k
    · obtain ⟨x, hx⟩ := Option.isSome_iff_exists.mp a
      rw [if_pos e, e, hx, Option.map_some, if_pos rfl]
    · rw [if_neg e]
      cases valV kvs j with
      | none => rfl
      | some x => rw [Option.map_some, if_neg e]
  · rw [if_neg a]
    refine valV_snoc k j y kvs ?_
    rw [valV_any] at a
    cases q : valV kvs k with
    | none => rfl
    | some x => rw [q] at a; exact (a rfl).elim
theorem length_putK (kvs : List (κ × V)) (k : κ) (v : V) : (putK kvs k v).length ≤ kvs.length + 1 := by
  unfold putK
  split
  · rw [List.length_map]; omega
  · rw [List.length_append, List.length_cons, List.length_nil]; omega
theorem putK_new {kvs : List (κ × V)} {k : κ} (v : V) (h : valV kvs k = none) : putK kvs k v = kvs ++ [(k, v)] := by
  unfold putK
  rw [valV_any, h]
  exact if_neg (by decide)

theorem RelO.isSome_eq {o : Option V} {u : Option Value} (r : RelO o u) : o.isSome = u.isSome := by
  cases o with
  | none => cases u with
    | none => rfl
    | some _ => exact (show False from r).elim
  | some _ => cases u with
    | none => exact (show False from r).elim
    | some _ => rfl
theorem RelO.getD {o : Option V} {u : Option Value} {d : V} {d' : Value} (r : RelO o u) (rd : RelV d d') : RelV (o.getD d) (u.getD d') := by
  cases o with
  | none => cases u with
    | none => exact rd
    | some _ => exact (show False from r).elim
  | some _ => cases u with
    | none => exact (show False from r).elim
    | some _ => exact r

theorem KV.val {kvs : List (κ × V)} {vs : List (κ × Value)} (r : KV kvs vs) (k : κ) : RelO (valV kvs k) (valueAt vs k) := by
  unfold KV at r
  induction r with
  | nil => exact True.intro
  | @cons p q ps qs h t ih =>
    obtain ⟨h1, h2⟩ := h
    by_cases e : p.1 = k
    · have e' : q.1 = k := h1.symm.trans e
      have b : valueAt (q :: qs) k = some q.2 := by simp [valueAt, List.find?_cons, e']
      rw [valV_pos e, b]; exact h2
    · have e' : ¬ q.1 = k := fun z => e (h1.trans z)
      have b : valueAt (q :: qs) k = valueAt qs k := by simp [valueAt, List.find?_cons, e']
      rw [valV_neg e, b]; exact ih
theorem KV.any {kvs : List (κ × V)} {vs : List (κ × Value)} (r : KV kvs vs) (k : κ) : (kvs.any fun kv => decide (kv.1 = k)) = vs.any fun kv => decide (kv.1 = k) := by
  unfold KV at r
  induction r with
  | nil => rfl
  | cons h t ih => rw [List.any_cons, List.any_cons, ih, h.1]
theorem KV.repl {kvs : List (κ × V)} {vs : List (κ × Value)} (r : KV kvs vs) (k : κ) {y : V} {u : Value} (ry : RelV y u) :
    KV (kvs.map fun kv => if kv.1 = k then (kv.1, y) else kv) (vs.map fun kv => if kv.1 = k then (kv.1, u) else kv) := by
  unfold KV at r ⊢
  induction r with
  | nil => exact .nil
  | @cons p q ps qs h t ih =>
    rw [List.map_cons, List.map_cons]
    refine .cons ?_ ih
    obtain ⟨h1, h2⟩ := h
    by_cases e : p.1 = k
    · rw [if_pos e, if_pos (h1.symm.trans e)]; exact ⟨h1, ry⟩
    · rw [if_neg e, if_neg (fun z => e (h1.trans z))]; exact ⟨h1, h2⟩
theorem KV.put {kvs : List (κ × V)} {vs : List (κ × Value)} (r : KV kvs vs) (k : κ) {y : V} {u : Value} (ry : RelV y u) : KV (putK kvs k y) (stored vs k u) := by
  unfold putK stored
  rw [r.any k]
  by_cases e : (vs.any fun kv => decide (kv.1 = k)) = true
  · rw [if_pos e, if_pos e]; exact r.repl k ry
  · rw [if_neg e, if_neg e]; exact Paired.snoc r ⟨rfl, ry⟩
theorem KV.keys {kvs : List (κ × V)} {vs : List (κ × Value)} (r : KV kvs vs) : kvs.map (·.1) = vs.map (·.1) := by
  unfold KV at r
  induction r with
  | nil => rfl
  | cons h t ih => rw [List.map_cons, List.map_cons, ih, h.1]
theorem KV.length {kvs : List (κ × V)} {vs : List (κ × Value)} (r : KV kvs vs) : kvs.length = vs.length := Paired.length r
end


theorem kV_is {P : Program} {w : World} {k : Key} {u : Value} (r : RelV (kV k) u) : (mixKind P w).is k u = true := by
  cases k with
  | inl i => obtain ⟨t, e⟩ := (show ∃ t, u = Value.int i t from r); subst e; exact mixKind_int P w i t
  | inr x => obtain ⟨t, e⟩ := (show ∃ t, u = Value.str x t from r); subst e; exact mixKind_str P w x t
theorem items_are {P : Program} {w : World} : ∀ {ks : List Key} {us : List Value}, Vals (ks.map kV) us → ItemsAre (mixKind P w) ks us
  | [], _, r => by rw [List.map_nil] at r; cases r; exact .nil
  | k :: ks, _, r => by
    rw [List.map_cons] at r
    cases r with
    | cons h t => exact .cons (kV_is h) (items_are t)

noncomputable abbrev KT (H : Hp) : List (List Key × V) → List (List Key × Addr × Value) → Prop := Paired fun p q => p.1 = q.1 ∧ H q.2.1 = some (.tup (p.1.map kV)) ∧ RelV p.2 q.2.2
theorem KT.val {H : Hp} {kvs : List (List Key × V)} {xs : List (List Key × Addr × Value)} (r : KT H kvs xs) (k : List Key) : RelO (valV kvs k) ((atKey xs k).map (·.2)) := by
  induction r with
  | nil => exact True.intro
  | @cons p q ps qs h t ih =>
    obtain ⟨h1, _, h2⟩ := h
    by_cases e : p.1 = k
    · have e' : q.1 = k := h1.symm.trans e
      have b : atKey (q :: qs) k = some q.2 := by simp [atKey, List.find?_cons, e']
      rw [valV_pos e, b]; exact h2
    · have e' : ¬ q.1 = k := fun z => e (h1.trans z)
      have b : atKey (q :: qs) k = atKey qs k := by simp [atKey, List.find?_cons, e']
      rw [valV_neg e, b]; exact ih
theorem KT.repl {H : Hp} {kvs : List (List Key × V)} {xs : List (List Key × Addr × Value)} (r : KT H kvs xs) (k : List Key) {y : V} {u : Value} (ry : RelV y u) :
    KT H (kvs.map fun kv => if kv.1 = k then (kv.1, y) else kv) (xs.map (putAt k u)) := by
  induction r with
  | nil => exact .nil
  | @cons p q ps qs h t ih =>
    rw [List.map_cons, List.map_cons]
    refine .cons ?_ ih
    obtain ⟨h1, h2, h3⟩ := h
    unfold putAt
    by_cases e : p.1 = k
    · rw [if_pos e, if_pos (h1.symm.trans e)]; exact ⟨h1, h2, ry⟩
    · rw [if_neg e, if_neg (fun z => e (h1.trans z))]; exact ⟨h1, h2, h3⟩
theorem KT.put {H : Hp} {kvs : List (List Key × V)} {xs : List (List Key × Addr × Value)} (r : KT H kvs xs) (k : List Key) {b : Addr} {y : V} {u : Value} (hb : H b = some (.tup (k.map kV))) (ry : RelV y u) :
    KT H (putK kvs k y) (storedH xs k b u) := by
  have e : (kvs.any fun kv => decide (kv.1 = k)) = (atKey xs k).isSome := by
    rw [valV_any, (r.val k).isSome_eq, Option.isSome_map]
  unfold putK storedH
  rw [e]
  by_cases q : (atKey xs k).isSome = true
  · rw [if_pos q, if_pos q]; exact r.repl k ry
  · rw [if_neg q, if_neg q]; exact Paired.snoc r ⟨rfl, hb, ry⟩
theorem KT.keeps {H H' : Hp} {kvs : List (List Key × V)} {xs : List (List Key × Addr × Value)} (r : KT H kvs xs) (ht : ∀ b ys, H b = some (.tup ys) → H' b = some (.tup ys)) : KT H' kvs xs :=
  Paired.mapP r fun _ _ z => ⟨z.1, ht _ _ z.2.1, z.2.2⟩

section
variable {P : Program} {w : World} {H : Hp} {h : Heap} {a : Addr}
theorem rd_of {u : HO} (ok : HOk P w H h) (e : Rd H a u) : ObjOk P w H h a u := e.ok ok
theorem dk_rd {kvs : List (Key × V)} (ok : HOk P w H h) (e : Rd H a (.dK kvs)) : kvs.length ≤ sizeLine ∧ (a == sysModules) = false ∧ ∃ vs, KV kvs vs ∧ h.DictOf (mixKind P w) a vs :=
  show ObjOk P w H h a (.dK kvs) from rd_of ok e
theorem dk_of {kvs : List (Key × V)} (ok : HOk P w H h) (e : H a = some (.dK kvs)) : kvs.length ≤ sizeLine ∧ (a == sysModules) = false ∧ ∃ vs, KV kvs vs ∧ h.DictOf (mixKind P w) a vs := dk_rd ok (.inl e)
theorem key_of {ks : List Key} (ok : HOk P w H h) (e : H a = some (.tup (ks.map kV))) : (tupleKind (mixKind P w)).is h ks a := by
  obtain ⟨_, its, r, o, h1, h2, n, h3, _⟩ := (show ObjOk P w H h a (.tup (ks.map kV)) from ok a _ e)
  exact ⟨o, its.toArray, n, h1, h2, h3, by simpa using items_are r⟩
theorem dt_rd {kvs : List (List Key × V)} (ok : HOk P w H h) (e : Rd H a (.dT kvs)) : kvs.length ≤ sizeLine ∧ (a == sysModules) = false ∧
    ∃ xs, KT H kvs xs ∧ h.DictOfH (tupleKind (mixKind P w)) a xs := by
  obtain ⟨z, y, xs, r, o, es, ep, h1, h2, h3, h4, h5⟩ := (show ObjOk P w H h a (.dT kvs) from rd_of ok e)
  refine ⟨z, y, xs, r, o, es, ep, h1, h2, h3, h4, fun x hx => ?_, h5⟩
  have all : ∀ {l : List (List Key × V)} {m : List (List Key × Addr × Value)}, KT H l m → ∀ x ∈ m, (tupleKind (mixKind P w)).is h x.1 x.2.1 := by
    intro l m q
    induction q with
    | nil => intro x hx; exact nomatch hx
    | @cons p q ps qs hq t ih =>
      intro x hx
      rcases List.mem_cons.mp hx with e | hx
      · subst e
        exact key_of ok (by rw [← hq.1]; exact hq.2.1)
      · exact ih x hx
  exact all r x hx
theorem dt_of {kvs : List (List Key × V)} (ok : HOk P w H h) (e : H a = some (.dT kvs)) : kvs.length ≤ sizeLine ∧ (a == sysModules) = false ∧
    ∃ xs, KT H kvs xs ∧ h.DictOfH (tupleKind (mixKind P w)) a xs := dt_rd ok (.inl e)
end

noncomputable def DGet (H : Hp) (a : Addr) (y : V) (r : Option V) : Prop :=
  (∃ kvs k, Rd H a (.dK kvs) ∧ y = kV k ∧ r = valV kvs k) ∨ ∃ kvs k b, Rd H a (.dT kvs) ∧ y = .ref b ∧ H b = some (.tup (k.map kV)) ∧ r = valV kvs k
noncomputable def DPut (H : Hp) (a : Addr) (y v : V) (H' : Hp) : Prop :=
  (∃ kvs k, H a = some (.dK kvs) ∧ y = kV k ∧ kvs.length < sizeLine ∧ H' = upd H a (.dK (putK kvs k v))) ∨
  ∃ kvs k b, H a = some (.dT kvs) ∧ y = .ref b ∧ H b = some (.tup (k.map kV)) ∧ kvs.length < sizeLine ∧ H' = upd H a (.dT (putK kvs k v))
theorem DGet.k {H : Hp} {a : Addr} {kvs : List (Key × V)} {k : Key} (e : H a = some (.dK kvs)) : DGet H a (kV k) (valV kvs k) := .inl ⟨kvs, k, .inl e, rfl, rfl⟩
theorem DPut.k {H : Hp} {a : Addr} {kvs : List (Key × V)} {k : Key} {v : V} (e : H a = some (.dK kvs)) (hl : kvs.length < sizeLine) : DPut H a (kV k) v (upd H a (.dK (putK kvs k v))) := .inl ⟨kvs, k, e, rfl, hl, rfl⟩


section
variable {X : Cx} {pins : List (Addr × Obj)} {σ : St} {H : Hp} {s : Shared} {a : Addr} {y v : V} {u r : Value} {o : Option V} {A : Around} {E : Value → Shared → Prop}

theorem Inv.big (I : Inv X pins σ H s) : sysModules < s.heap.objs.size := by
  have h : mainGlobals < s.heap.objs.size := (I.mod.glob.keeps I.bk).lt
  exact Nat.lt_trans (by decide) h

theorem d_getItem {Q : Value → Shared → Prop} (hu : A.units + 1 < cLine) (I : Inv X pins σ H s) (g : DGet H a y (some v)) (ry : RelV y u) (h : ∀ w' s', Inv X pins σ H s' → RelV v w' → Q w' s') :
    wpAny (model X.prog X.w) A (getItem (.ref a) u) Q E s := by
  rcases g with ⟨kvs, k, e, ey, l⟩ | ⟨kvs, k, b, e, ey, eb, l⟩
  · subst ey
    obtain ⟨z, hd, vs, rel, dd⟩ := dk_rd I.hok e
    obtain ⟨w', hw, rw'⟩ := RelO.some_of (v := v) (o := valueAt vs k) (by rw [l]; exact rel.val k)
    exact wpAny_getItem_of (kV_is ry) dd.mapOf hw (h w' _ (I.tok _) rw')
  · subst ey
    cases (show u = Value.ref b from ry)
    obtain ⟨z, hd, xs, rel, dd⟩ := dt_rd I.hok e
    obtain ⟨w', hw, rw'⟩ := RelO.some_of (v := v) (o := (atKey xs k).map (·.2)) (by rw [l]; exact rel.val k)
    obtain ⟨p, hp, hp2⟩ := Option.map_eq_some_iff.mp hw
    refine wpAny_getItem_heap (tupleKind_room_in1 hu) (key_of I.hok eb) dd hp ?_
    rw [hp2]
    exact h w' _ (I.tok _) rw'
theorem d_in {Q : Value → Shared → Prop} (hu : A.units + 1 < cLine) (I : Inv X pins σ H s) (g : DGet H a y o) (ry : RelV y u) (h : ∀ s', Inv X pins σ H s' → Q (.bool o.isSome) s') :
    wpAny (model X.prog X.w) A (compareOp .In u (.ref a)) Q E s := by
  rcases g with ⟨kvs, k, e, ey, l⟩ | ⟨kvs, k, b, e, ey, eb, l⟩
  · subst ey
    obtain ⟨z, hd, vs, rel, dd⟩ := dk_rd I.hok e
    refine wpAny_in_of (kV_is ry) hd dd.mapOf ?_
    rw [← (rel.val k).isSome_eq, ← l]
    exact h _ (I.tok _)
  · subst ey
    cases (show u = Value.ref b from ry)
    obtain ⟨z, hd, xs, rel, dd⟩ := dt_rd I.hok e
    refine wpAny_in_heap (tupleKind_room_in1 hu) (key_of I.hok eb) hd dd ?_
    have q := (rel.val k).isSome_eq
    rw [Option.isSome_map] at q
    rw [← q, ← l]
    exact h _ (I.tok _)
theorem d_notIn {Q : Value → Shared → Prop} (hu : A.units + 1 < cLine) (I : Inv X pins σ H s) (g : DGet H a y o) (ry : RelV y u) (h : ∀ s', Inv X pins σ H s' → Q (.bool (!o.isSome)) s') :
    wpAny (model X.prog X.w) A (compareOp .NotIn u (.ref a)) Q E s := by
  rcases g with ⟨kvs, k, e, ey, l⟩ | ⟨kvs, k, b, e, ey, eb, l⟩
  · subst ey
    obtain ⟨z, hd, vs, rel, dd⟩ := dk_rd I.hok e
    refine wpAny_notIn_of (kV_is ry) hd dd.mapOf ?_
    rw [← (rel.val k).isSome_eq, ← l]
    exact h _ (I.tok _)
  · subst ey
    cases (show u = Value.ref b from ry)
    obtain ⟨z, hd, xs, rel, dd⟩ := dt_rd I.hok e
    refine wpAny_notIn_heap (tupleKind_room_in1 hu) (key_of I.hok eb) hd dd ?_
    have q := (rel.val k).isSome_eq
    rw [Option.isSome_map] at q
    rw [← q, ← l]
    exact h _ (I.tok _)
theorem d_write {h' : Heap} {t' : Nat} {ob : HO} (I : Inv X pins σ H s) (mu : Mut (H a)) (hs : Heap.SameBut a s.heap h') (he : ∃ q, h'.get? a = some q) (new : ObjOk X.prog X.w (upd H a ob) h' a ob) :
    Inv X pins σ (upd H a ob) { s with heap := h', toks := t' } :=
  I.write (x := a) (e := a) mu (.inl rfl) (fun b q hb z => (hs.2 b hb).trans z) he new
theorem dk_new {P : Program} {w : World} {H' : Hp} {h' : Heap} {kvs : List (Key × V)} {vs : List (Key × Value)} (z : kvs.length ≤ sizeLine) (hd : (a == sysModules) = false) (rel : KV kvs vs) (dd : h'.DictOf (mixKind P w) a vs) :
    ObjOk P w H' h' a (.dK kvs) := ⟨z, hd, vs, rel, dd⟩
theorem d_setItem {H' : Hp} {Q : Unit → Shared → Prop} (hu : A.units + 1 < cLine) (I : Inv X pins σ H s) (g : DPut H a y v H') (ry : RelV y u) (rv : RelV v r) (h : ∀ s', Inv X pins σ H' s' → Q () s') :
    wpAny (model X.prog X.w) A (setItem (.ref a) u r) Q E s := by
  rcases g with ⟨kvs, k, e, ey, l, eH⟩ | ⟨kvs, k, b, e, ey, eb, l, eH⟩
  · subst ey eH
    obtain ⟨z, hd, vs, rel, dd⟩ := dk_of I.hok e
    have hz : vs.length ≤ sizeLine := by rw [← rel.length]; exact z
    have hl : (putK kvs k v).length ≤ sizeLine := by have := length_putK kvs k v; omega
    refine wpAny_setItem_pairs (hsz := hz) (kV_is ry) dd fun h' dd' hs => h _ ?_
    have he : ∃ q, h'.get? a = some q := let ⟨q, _, _, hq, _⟩ := dd'; ⟨q, hq⟩
    exact d_write I (by rw [e]; exact True.intro) hs he (dk_new hl hd (rel.put k rv) dd')
  · subst ey eH
    cases (show u = Value.ref b from ry)
    obtain ⟨z, hd, xs, rel, dd⟩ := dt_of I.hok e
    have hz : xs.length ≤ sizeLine := by rw [← Paired.length rel]; exact z
    have hl : (putK kvs k v).length ≤ sizeLine := by have := length_putK kvs k v; omega
    refine wpAny_setItem_heap (hsz := hz) (tupleKind_room_in1 hu) (key_of I.hok eb) dd fun h' dd' hs => h _ ?_
    obtain ⟨q, es, ep, hq, h2, h3, h4, _, h5⟩ := dd'
    refine d_write I (by rw [e]; exact True.intro) hs ⟨q, hq⟩ ⟨hl, hd, _, (rel.put k eb rv).keeps fun c ys ec => ?_, q, es, ep, hq, h2, h3, h4, h5⟩
    rw [upd_ne (ne_of ec e (fun z => nomatch z))]
    exact ec
end

section
variable {X : Cx} {pins : List (Addr × Obj)} {σ : St} {H : Hp} {s : Shared} {a : Addr} {kvs : List (Key × V)} {k : Key} {u : Value} {A : Around} {E : Value → Shared → Prop}
theorem d_len {Q : Value → Shared → Prop} (I : Inv X pins σ H s) (e : Rd H a (.dK kvs)) (h : ∀ t s', Inv X pins σ H s' → Q (.int kvs.length t) s') : wpAny (model X.prog X.w) A (call (.builtin "len") [.ref a]) Q E s := by
  obtain ⟨z, hd, vs, rel, dd⟩ := dk_rd I.hok e
  refine call_len_dict hd dd (by rw [← rel.length]; rw [sizeLine_eq] at z; omega) ?_
  rw [← rel.length]
  exact h _ _ (I.tok _)
end


noncomputable def NoSl (i : Expr) : Prop := ∀ ov iv, subscripted i false ov iv = operate [ov, iv] (getItem ov iv)
theorem subD_of {prog : Program} {w : World} {A : Around} {E : Value → Shared → Prop} {s : Shared} {env : Env} {value slice : Expr} {pos : Pos} {T id : String} {Q : Value → Shared → Prop}
    (hl : typeLookup (.type T) "__getitem__" = pure (some (.builtin id))) (hs : NoSl slice)
    (h : wpAny (model prog w) A (eval value env) (fun o s₁ => wpAny (model prog w) A (eval slice env) (fun i s₂ => s₂.TypeIs o T ∧ wpAny (model prog w) A (getItem o i) Q E s₂) E s₁) E s) :
    wpAny (model prog w) A (eval (.Subscript value slice pos) env) Q E s := by
  refine Subscript_ (wpAny_mono h (fun o s₁ h₁ => wpAny_mono h₁ (fun i s₂ h₂ => ?_) fun _ _ x => x) fun _ _ x => x)
  obtain ⟨hT, h₂⟩ := h₂
  unfold subscriptTail
  refine wpAny_bind ?_
  rw [getitemInPython_of_ne hT.not_modules]
  refine wpAny_bind (wpAny_specialOf hT hl ?_)
  have fin : wpAny (model prog w) A (subscripted slice false o i) (fun r s₃ => wpAny (model prog w) A (letTemporaryGo value o r >>= fun _ => pure r) Q E s₃) E s₂ := by
    rw [hs o i]
    exact wpAny_operating (wpAny_mono h₂ (fun r s₃ h₃ => wpAny_bind (wpAny_letTemporaryGo (wpAny_pure h₃))) fun _ _ x => x)
  first
    | exact wpAny_pure (wpAny_bind fin)
    | exact wpAny_bind (wpAny_pure (wpAny_bind fin))
    | exact wpAny_bind fin

theorem dict_typeIs {X : Cx} {pins : List (Addr × Obj)} {σ : St} {H : Hp} {s : Shared} {a : Addr} {y : V} {o : Option V} (I : Inv X pins σ H s) (g : DGet H a y o) : s.TypeIs (.ref a) "dict" := by
  rcases g with ⟨kvs, k, e, _, _⟩ | ⟨kvs, k, b, e, _, _, _⟩
  · obtain ⟨_, _, vs, _, dd⟩ := dk_rd I.hok e
    exact dd.typeIs
  · obtain ⟨_, _, xs, _, dd⟩ := dt_rd I.hok e
    exact dd.typeIs

inductive J_tDGet (Q : VK) (x : V) (y : V) (H2 : Hp) : Prop
  | mk : ∀ a v, (x = .ref a) → (DGet H2 a y (some v)) → (Q v H2) → J_tDGet Q x y H2
noncomputable def tDGet (td ty : TE) : TE := fun σ H Q => td σ H fun x H1 => ty σ H1 fun y H2 => J_tDGet Q x y H2
inductive J_tDIn (Q : VK) (y : V) (x : V) (H2 : Hp) : Prop
  | mk : ∀ a o, (x = .ref a) → (DGet H2 a y o) → (Q (.bl o.isSome) H2) → J_tDIn Q y x H2
noncomputable def tDIn (ty td : TE) : TE := fun σ H Q => ty σ H fun y H1 => td σ H1 fun x H2 => J_tDIn Q y x H2
inductive J_tDNotIn (Q : VK) (y : V) (x : V) (H2 : Hp) : Prop
  | mk : ∀ a o, (x = .ref a) → (DGet H2 a y o) → (Q (.bl (!o.isSome)) H2) → J_tDNotIn Q y x H2
noncomputable def tDNotIn (ty td : TE) : TE := fun σ H Q => ty σ H fun y H1 => td σ H1 fun x H2 => J_tDNotIn Q y x H2
inductive J_sDPut (D : Ends) (σ : St) (v : V) (x : V) (y : V) (H3 : Hp) : Prop
  | mk : ∀ a H4, (x = .ref a) → (DPut H3 a y v H4) → (D.nx σ H4) → J_sDPut D σ v x y H3
noncomputable def sDPut (td ty tv : TE) : TS := fun D σ H => tv σ H fun v H1 => td σ H1 fun x H2 => ty σ H2 fun y H3 => J_sDPut D σ v x y H3

section
variable {X : Cx} {o i e value : Expr} {pos pos' tpos : Pos} {td ty tv : TE}
theorem pe_dget (hu : X.A.units + 1 < cLine) (ho : PE X o td) (hi : PE X i ty) (hs : NoSl i) : PE X (.Subscript o i pos) (tDGet td ty) := by
  intro pins s σ H Q I h
  refine subD_of PySem.F.slot_dict_getitem.lookup hs (thn (ho pins s σ H _ I h) fun u s1 ⟨x, H1, I1, rx, q1⟩ => thn (hi pins s1 σ H1 _ I1 q1) fun iv s2 ⟨y, H2, I2, ry, a, v, ex, g, q2⟩ => ?_)
  subst ex
  obtain rfl : u = Value.ref a := rx
  exact ⟨dict_typeIs I2 g, d_getItem hu I2 g ry fun w' s3 I3 rw' => ⟨v, H2, I3, rw', q2⟩⟩
theorem pc_din (hu : X.A.units + 1 < cLine) (hi : PE X i ty) (ho : PE X o td) : PC X .In i o (tDIn ty td) := by
  intro pins s σ H Q I h
  refine thn (hi pins s σ H _ I h) fun iv s1 ⟨y, H1, I1, ry, q1⟩ => thn (ho pins s1 σ H1 _ I1 q1) fun u s2 ⟨x, H2, I2, rx, a, ov, ex, g, q2⟩ => ?_
  subst ex
  obtain rfl : u = Value.ref a := rx
  exact d_in hu I2 g ry fun s3 I3 => ⟨.bl ov.isSome, H2, I3, rfl, q2⟩
theorem pc_dnotin (hu : X.A.units + 1 < cLine) (hi : PE X i ty) (ho : PE X o td) : PC X .NotIn i o (tDNotIn ty td) := by
  intro pins s σ H Q I h
  refine thn (hi pins s σ H _ I h) fun iv s1 ⟨y, H1, I1, ry, q1⟩ => thn (ho pins s1 σ H1 _ I1 q1) fun u s2 ⟨x, H2, I2, rx, a, ov, ex, g, q2⟩ => ?_
  subst ex
  obtain rfl : u = Value.ref a := rx
  exact d_notIn hu I2 g ry fun s3 I3 => ⟨.bl (!ov.isSome), H2, I3, rfl, q2⟩
theorem ps_dput (hu : X.A.units + 1 < cLine) (ho : PE X o td) (hi : PE X i ty) (hv : PE X value tv) (hs : swapsWith value (some (.Subscript o i pos')) pos.line X.env = pure false) :
    PS X (.Assign [.Subscript o i pos'] value pos) (sDPut td ty tv) := by
  intro pins s σ H D I h
  refine wpAny_Assign_Subscript (thn (hv pins s σ H _ I h) fun r s1 ⟨v, H1, I1, rv, q1⟩ => thn (ho pins s1 σ H1 _ I1 q1) fun u s2 ⟨x, H2, I2, rx, q2⟩ => thn (hi pins s2 σ H2 _ I2 q2) fun iv s3 ⟨y, H3, I3, ry, a, H4, ex, g, q3⟩ => ?_) hs
  subst ex
  obtain rfl : u = Value.ref a := rx
  exact d_setItem hu I3 g ry rv fun s4 I4 => ⟨σ, H4, I4, q3⟩
end


theorem dk_empty {P : Program} {w : World} {H : Hp} (h : Heap) (hb : sysModules < h.objs.size) : ObjOk P w H (h.push { cls := .type "dict", data := .dict #[] }) h.objs.size (.dK []) :=
  ⟨Nat.zero_le _, beq_eq_false_iff_ne.mpr (Ne.symm (Nat.ne_of_lt hb)), [], .nil, Heap.DictOf.new h⟩
noncomputable def tDNewK : TE := fun _ H Q => ∀ p, H p = none → Q (.ref p) (upd H p (.dK []))
section
variable {X : Cx} {pos : Pos}
theorem pe_dnewK : PE X (.Dict [] [] pos) tDNewK := fun pins s σ H Q I h =>
  wpAny_Dict_empty ⟨.ref s.heap.objs.size, _, I.laid (a := s.heap.objs.size) (o := .dK []) (t' := s.toks) (fun _ _ q => Heap.get?_push_of_some _ q) (Nat.le_refl _) (dk_empty s.heap I.big), rfl, h _ (I.hok.fresh (Nat.le_refl _))⟩
end




structure M1 (X : Cx) (o : Expr) (m : Str) (apos : Pos) (e : Expr) (cpos : Pos) : Prop where
  base : attributeBase o m X.env (eval o X.env) = eval o X.env
  few : ((backTo cpos (starEach [e] X.env)).all (fun x => !x.1) && (backToKw cpos (keywordEach [] X.env)).all (fun x => x.1.isSome)
    && decide (([e] : List Expr).length + ([] : List Keyword).length + (if ([] : List Keyword).isEmpty then 0 else 1) < 30)) = true
  line : (apos.endLine == cpos.line) = true
  trees : backTo cpos (starEach [e] X.env) = [(false, eval e X.env)]
structure M2 (X : Cx) (o : Expr) (m : Str) (apos : Pos) (e f : Expr) (cpos : Pos) : Prop where
  base : attributeBase o m X.env (eval o X.env) = eval o X.env
  few : ((backTo cpos (starEach [e, f] X.env)).all (fun x => !x.1) && (backToKw cpos (keywordEach [] X.env)).all (fun x => x.1.isSome)
    && decide (([e, f] : List Expr).length + ([] : List Keyword).length + (if ([] : List Keyword).isEmpty then 0 else 1) < 30)) = true
  line : (apos.endLine == cpos.line) = true
  trees : backTo cpos (starEach [e, f] X.env) = [(false, eval e X.env), (false, eval f X.env)]

noncomputable def IsD (H : Hp) (a : Addr) : Prop := (∃ kvs, Rd H a (.dK kvs)) ∨ ∃ kvs, Rd H a (.dT kvs)
theorem isD_at {X : Cx} {pins : List (Addr × Obj)} {σ : St} {H : Hp} {s : Shared} {a : Addr} (I : Inv X pins σ H s) (d : IsD H a) :
    s.TypeIs (.ref a) "dict" ∧ (∀ b, Value.ref a = .ref b → ∃ ob, s.heap.get? b = some ob ∧ ob.dict = none) ∧ (a == sysModules) = false := by
  rcases d with ⟨kvs, e⟩ | ⟨kvs, e⟩
  · obtain ⟨_, hd, vs, _, dd⟩ := dk_rd I.hok e
    refine ⟨dd.typeIs, fun b q => ?_, hd⟩
    cases q
    obtain ⟨ob, _, _, h1, h2, _⟩ := dd
    exact ⟨ob, h1, h2.2.1⟩
  · obtain ⟨_, hd, xs, _, dd⟩ := dt_rd I.hok e
    refine ⟨dd.typeIs, fun b q => ?_, hd⟩
    cases q
    obtain ⟨ob, _, _, h1, h2, _⟩ := dd
    exact ⟨ob, h1, h2.2.1⟩

section
variable {X : Cx} {pins : List (Addr × Obj)} {σ : St} {H : Hp} {s : Shared} {a : Addr} {y d : V} {u r : Value} {o : Option V} {A : Around} {E : Value → Shared → Prop}
end

section
variable {X : Cx} {o e f : Expr} {apos cpos : Pos} {td ty tx : TE}
end

section
variable {X : Cx} {pins : List (Addr × Obj)} {σ : St} {H : Hp} {s : Shared} {a : Addr} {kvs : List (Key × V)} {A : Around} {E : Value → Shared → Prop}
end


section
variable {X : Cx} {pins : List (Addr × Obj)} {σ : St} {H : Hp} {s : Shared} {a : Addr} {y : V} {u : Value} {A : Around} {E : Value → Shared → Prop}
end
end L2
namespace L2
open PySem PySem.Spec PyProof.Rows

noncomputable abbrev NK := List (Sum Key (List Key))
noncomputable def kD : Key → D
  | .inl i => .int i
  | .inr x => .str x
noncomputable def iD : Sum Key (List Key) → D
  | .inl k => kD k
  | .inr l => .tup (l.map kD)
noncomputable def nkD (k : NK) : D := .tup (k.map iD)
theorem kD_inj {a b : Key} (e : kD a = kD b) : a = b := by
  cases a with
  | inl i => cases b with
    | inl j => have e' : D.int i = D.int j := e; injection e' with e'; rw [e']
    | inr y => exact nomatch (show D.int i = D.str y from e)
  | inr x => cases b with
    | inl j => exact nomatch (show D.str x = D.int j from e)
    | inr y => have e' : D.str x = D.str y := e; injection e' with e'; rw [e']
theorem map_inj_of {α β : Type} {f : α → β} (hf : ∀ a b, f a = f b → a = b) : ∀ {x y : List α}, x.map f = y.map f → x = y
  | [], [], _ => rfl
  | [], _ :: _, e => by simp at e
  | _ :: _, [], e => by simp at e
  | a :: xs, b :: ys, e => by
    rw [List.map_cons, List.map_cons] at e
    injection e with e1 e2
    rw [hf _ _ e1, map_inj_of hf e2]
theorem iD_inj {a b : Sum Key (List Key)} (e : iD a = iD b) : a = b := by
  cases a with
  | inl i => cases b with
    | inl j => rw [kD_inj e]
    | inr y => cases i <;> exact nomatch e
  | inr x => cases b with
    | inl j => cases j <;> exact nomatch e
    | inr y =>
      have e' : D.tup (x.map kD) = D.tup (y.map kD) := e
      injection e' with e'
      rw [map_inj_of (fun _ _ => kD_inj) e']
theorem nkD_inj {a b : NK} (e : nkD a = nkD b) : a = b := by
  have e' : D.tup (a.map iD) = D.tup (b.map iD) := e
  injection e' with e'
  exact map_inj_of (fun _ _ => iD_inj) e'
section
variable (P : Program) (w : World)
noncomputable def NIt (h : Heap) : NK → List Value → Prop
  | [], us => us = []
  | .inl k :: ks, us => ∃ u us', us = u :: us' ∧ (mixKind P w).is k u = true ∧ NIt h ks us'
  | .inr l :: ks, us => ∃ b us', us = Value.ref b :: us' ∧ IsTupleKey (mixKind P w) h l b ∧ NIt h ks us'
noncomputable def IsNK (h : Heap) (k : NK) (a : Addr) : Prop := ∃ us : List Value, IsTup h a us.toArray ∧ NIt P w h k us
noncomputable def iHash : Sum Key (List Key) → Int
  | .inl k => (mixKind P w).hash k
  | .inr l => tupleKeyHash (mixKind P w) l
noncomputable def iDraws : Sum Key (List Key) → Nat
  | .inl _ => 1
  | .inr l => l.length + 1
noncomputable def nkHash (k : NK) : Int := reduceHash (Builtin.Tuple.tupleHashOf (k.map (iHash P w)))
noncomputable def nkDraws (k : NK) : Nat := (k.map iDraws).sum + 1
end
section
variable {P : Program} {w : World} {h h' : Heap}
theorem NIt.inj : ∀ {x y : NK} {us : List Value}, NIt P w h x us → NIt P w h y us → x = y
  | [], [], us, _, _ => rfl
  | [], .inl k :: ks, us, r, q => by rw [NIt] at r; rw [NIt] at q; subst r; obtain ⟨_, _, z, _⟩ := q; cases z
  | [], .inr k :: ks, us, r, q => by rw [NIt] at r; rw [NIt] at q; subst r; obtain ⟨_, _, z, _⟩ := q; cases z
  | .inl k :: ks, [], us, r, q => by rw [NIt] at r; rw [NIt] at q; subst q; obtain ⟨_, _, z, _⟩ := r; cases z
  | .inr k :: ks, [], us, r, q => by rw [NIt] at r; rw [NIt] at q; subst q; obtain ⟨_, _, z, _⟩ := r; cases z
  | .inl k :: ks, .inl l :: ls, us, r, q => by
    rw [NIt] at r; rw [NIt] at q
    obtain ⟨u, us', rfl, r1, r⟩ := r
    obtain ⟨u', us'', z, q1, q⟩ := q
    cases z
    rw [(mixKind P w).inj _ _ _ r1 q1, NIt.inj r q]
  | .inr k :: ks, .inr l :: ls, us, r, q => by
    rw [NIt] at r; rw [NIt] at q
    obtain ⟨u, us', rfl, r1, r⟩ := r
    obtain ⟨u', us'', z, q1, q⟩ := q
    cases z
    rw [r1.inj q1, NIt.inj r q]
  | .inl k :: ks, .inr l :: ls, us, r, q => by
    rw [NIt] at r; rw [NIt] at q
    obtain ⟨u, us', rfl, r1, r⟩ := r
    obtain ⟨u', us'', z, q1, q⟩ := q
    cases z
    rcases keyIs_shape r1 with ⟨i, t, _, e⟩ | ⟨x, t, _, e⟩ <;> cases e
  | .inr k :: ks, .inl l :: ls, us, r, q => by
    rw [NIt] at r; rw [NIt] at q
    obtain ⟨u, us', rfl, r1, r⟩ := r
    obtain ⟨u', us'', z, q1, q⟩ := q
    cases z
    rcases keyIs_shape q1 with ⟨i, t, _, e⟩ | ⟨x, t, _, e⟩ <;> cases e
theorem NIt.keeps {d : Addr} {o : Obj} {es ep} (ho : h.get? d = some o) (hd : o.data = .dict es ep) (hs : Heap.SameBut d h h') : ∀ {k : NK} {us : List Value}, NIt P w h k us → NIt P w h' k us
  | [], us, r => by rw [NIt] at r ⊢; exact r
  | .inl k :: ks, us, r => by
    rw [NIt] at r ⊢
    obtain ⟨u, us', e, r1, r⟩ := r
    exact ⟨u, us', e, r1, NIt.keeps ho hd hs r⟩
  | .inr k :: ks, us, r => by
    rw [NIt] at r ⊢
    obtain ⟨u, us', e, r1, r⟩ := r
    exact ⟨u, us', e, r1.keeps ho hd hs, NIt.keeps ho hd hs r⟩
theorem IsNK.inj {x y : NK} {a : Addr} (r : IsNK P w h x a) (q : IsNK P w h y a) : x = y := by
  obtain ⟨us, p, r⟩ := r
  obtain ⟨us', p', q⟩ := q
  have e : us = us' := by have := tup_seq p p'; simpa using this
  subst e
  exact r.inj q
theorem IsNK.keeps {k : NK} {a d : Addr} {o : Obj} {es ep} (r : IsNK P w h k a) (ho : h.get? d = some o) (hd : o.data = .dict es ep) (hs : Heap.SameBut d h h') : IsNK P w h' k a := by
  obtain ⟨us, ⟨o', e', c', n', d'⟩, r⟩ := r
  have hne : a ≠ d := by
    rintro rfl
    rw [ho] at e'; cases e'
    rw [hd] at d'; cases d'
  exact ⟨us, ⟨o', (hs.2 a hne).trans e', c', n', d'⟩, r.keeps ho hd hs⟩
theorem key_denR {k : Key} {u : Value} (r : (mixKind P w).is k u = true) : DenR h (kD k) u := by
  rcases keyIs_shape r with ⟨i, t, rfl, rfl⟩ | ⟨x, t, rfl, rfl⟩
  · show DenR h (.int i) _
    rw [DenR]; exact .inl ⟨t, rfl⟩
  · show DenR h (.str x) _
    rw [DenR]; exact ⟨t, rfl⟩
theorem items_denR {ks : List Key} {us : List Value} (r : ItemsAre (mixKind P w) ks us) : DenRs h (ks.map kD) us := by
  induction r with
  | nil => rw [List.map_nil, DenRs]
  | cons r1 _ ih => rw [List.map_cons, DenRs]; exact ⟨_, _, rfl, key_denR r1, ih⟩
theorem NIt.denR : ∀ {k : NK} {us : List Value}, NIt P w h k us → DenRs h (k.map iD) us
  | [], us, r => by rw [NIt] at r; rw [List.map_nil, DenRs]; exact r
  | .inl k :: ks, us, r => by
    rw [NIt] at r
    obtain ⟨u, us', e, r1, r⟩ := r
    rw [List.map_cons, DenRs]
    exact ⟨u, us', e, key_denR r1, NIt.denR r⟩
  | .inr k :: ks, us, r => by
    rw [NIt] at r
    obtain ⟨b, us', e, ⟨o, its, n, g, c, d, i⟩, r⟩ := r
    rw [List.map_cons, DenRs]
    refine ⟨_, us', e, ?_, NIt.denR r⟩
    show DenR h (.tup (k.map kD)) _
    rw [DenR]
    exact ⟨b, its.toList, rfl, ⟨o, g, c, n, by simpa using d⟩, items_denR i⟩
theorem IsNK.denR {k : NK} {a : Addr} (r : IsNK P w h k a) : DenR h (nkD k) (.ref a) := by
  obtain ⟨us, p, r⟩ := r
  rw [nkD, DenR]
  exact ⟨a, us, rfl, p, r.denR⟩
theorem kDs_deep : ∀ l : List Key, D.deeps (l.map kD) = 0
  | [] => by rw [List.map_nil, D.deeps]
  | .inl k :: ks => by rw [List.map_cons, D.deeps, kDs_deep ks]; show max (D.deep (.int k)) 0 = 0; rw [D.deep]; rfl
  | .inr k :: ks => by rw [List.map_cons, D.deeps, kDs_deep ks]; show max (D.deep (.str k)) 0 = 0; rw [D.deep]; rfl
theorem nk_deeps : ∀ l : NK, D.deeps (l.map iD) ≤ 1
  | [] => by rw [List.map_nil, D.deeps]; omega
  | .inl (.inl k) :: ks => by rw [List.map_cons, D.deeps]; have := nk_deeps ks; show max (D.deep (.int k)) _ ≤ 1; rw [D.deep]; omega
  | .inl (.inr k) :: ks => by rw [List.map_cons, D.deeps]; have := nk_deeps ks; show max (D.deep (.str k)) _ ≤ 1; rw [D.deep]; omega
  | .inr l :: ks => by rw [List.map_cons, D.deeps]; have := nk_deeps ks; show max (D.deep (.tup (l.map kD))) _ ≤ 1; rw [D.deep, kDs_deep]; omega
theorem nk_deep (k : NK) : (nkD k).deep ≤ 2 := by rw [nkD, D.deep]; have := nk_deeps k; omega
end
section
variable {P : Program} {w : World} {A : Around} {E : Value → Shared → Prop} {s : Shared}
theorem wpAny_eqBool_nk {x y : NK} {a b : Addr} {Q : Bool → Shared → Prop} (hu : A.units + 5 < cLine) (hx : IsNK P w s.heap x a) (hy : IsNK P w s.heap y b) (h : Q (decide (x = y)) s) :
    wpAny (model P w) A (eqBool (.ref a) (.ref b)) Q E s := by
  refine eqAt_D 2 (nk_deep x) hx.denR hy.denR (by omega) P w E Q ?_
  have e : decide (nkD x = nkD y) = decide (x = y) := decide_eq_decide.mpr ⟨nkD_inj, fun z => by rw [z]⟩
  rw [e]; exact h
theorem quiet_flat {K : Type} [DecidableEq K] {knd : KeyKind P w K} (n : Nat) {ks : List K} {a : Addr} {Q : Bool → Shared → Prop} (hk : IsTupleKey knd s.heap ks a) (h : Q true s) : wpAny (model P w) A (eqIsQuiet (n + 1) (.ref a)) Q E s := by
  have hT := hk.typeIs
  obtain ⟨o, items, m, ho, _, hd, hi⟩ := hk
  unfold eqIsQuiet
  refine wpAny_bind (wpAny_specialOf hT F.slot_tuple_eq.lookup ?_)
  show wpAny _ _ (isInstance (.ref a) (.type "tuple") >>= _) _ _ s
  refine wpAny_bind (wpAny_isInstance hT isSubtype_tuple_tuple ?_)
  simp only [Bool.not_true, Bool.false_eq_true, if_false]
  refine wpAny_bind (wpAny_seqItems ho hd ?_)
  refine wpAny_bind ?_
  show wpAny _ _ (forIn items _ _) _ _ s
  rw [← Array.forIn_toList]
  refine wpAny_forIn_list _ (fun rest r s' => r.1 = none ∧ s' = s ∧ ∀ v ∈ rest, carriedByValue v = true) _ ?_ ?_ _ _ ⟨rfl, rfl, hi.byValue⟩
  · rintro v rest r s' ⟨hr, rfl, hall⟩
    rw [eqIsQuiet_byValue _ (hall v List.mem_cons_self)]
    refine wpAny_bind (wpAny_pure ?_)
    simp only [Bool.not_true, Bool.false_eq_true, if_false]
    exact wpAny_pure ⟨rfl, rfl, fun u hu' => hall u (List.mem_cons_of_mem _ hu')⟩
  · rintro ⟨r1, r2⟩ s' ⟨hr, rfl, _⟩
    simp only at hr
    subst hr
    exact wpAny_pure h
theorem quiet_nk {k : NK} {a : Addr} {Q : Bool → Shared → Prop} (hk : IsNK P w s.heap k a) (h : Q true s) : wpAny (model P w) A (eqIsQuiet 8 (.ref a)) Q E s := by
  obtain ⟨us, p, hi⟩ := hk
  have hT : s.TypeIs (.ref a) "tuple" := p.typeIs
  obtain ⟨o, ho, _, m, hd⟩ := p
  unfold eqIsQuiet
  refine wpAny_bind (wpAny_specialOf hT F.slot_tuple_eq.lookup ?_)
  show wpAny _ _ (isInstance (.ref a) (.type "tuple") >>= _) _ _ s
  refine wpAny_bind (wpAny_isInstance hT isSubtype_tuple_tuple ?_)
  simp only [Bool.not_true, Bool.false_eq_true, if_false]
  refine wpAny_bind (wpAny_seqItems ho hd ?_)
  refine wpAny_bind ?_
  show wpAny _ _ (forIn us.toArray _ _) _ _ s
  rw [← Array.forIn_toList]
  refine wpAny_forIn_list _ (fun rest r s' => r.1 = none ∧ s' = s ∧ ∃ left, NIt P w s.heap left rest) _ ?_ ?_ _ _ ⟨rfl, rfl, k, by simpa using hi⟩
  · rintro v rest r s' ⟨hr, rfl, left, hl⟩
    cases left with
    | nil => rw [NIt] at hl; cases hl
    | cons i left =>
      cases i with
      | inl k =>
        rw [NIt] at hl
        obtain ⟨u, us', e, r1, hl⟩ := hl
        cases e
        rw [eqIsQuiet_byValue _ ((mixKind P w).byValue _ _ r1)]
        refine wpAny_bind (wpAny_pure ?_)
        simp only [Bool.not_true, Bool.false_eq_true, if_false]
        exact wpAny_pure ⟨rfl, rfl, left, hl⟩
      | inr l =>
        rw [NIt] at hl
        obtain ⟨b, us', e, r1, hl⟩ := hl
        cases e
        refine wpAny_bind (quiet_flat 6 r1 ?_)
        simp only [Bool.not_true, Bool.false_eq_true, if_false]
        exact wpAny_pure ⟨rfl, rfl, left, hl⟩
  · rintro ⟨r1, r2⟩ s' ⟨hr, rfl, _⟩
    simp only at hr
    subst hr
    exact wpAny_pure h
theorem wpAny_pyHash_nk {k : NK} {a : Addr} {Q : Int → Shared → Prop} (hu : A.units + 5 < cLine) (hk : IsNK P w s.heap k a) (h : Q (nkHash P w k) { s with toks := s.toks + nkDraws k }) :
    wpAny (model P w) A (pyHash (.ref a)) Q E s := by
  obtain ⟨us, p, hi⟩ := hk
  have hT : s.TypeIs (.ref a) "tuple" := p.typeIs
  obtain ⟨o, ho, _, n, hd⟩ := p
  unfold pyHash
  first | unfold pyHashByItsType | skip
  first | refine wpAny_bind (wpAny_cRoomFor_or (.inr (by omega)) ?_) | skip
  refine wpAny_bind (wpAny_specialOf hT F.slot_tuple_hash.lookup ?_)
  show wpAny _ _ (if (some (Value.builtin "tuple.__hash__") == some Value.none) = true then _ else _) Q E s
  rw [if_neg (by rw [beq_builtin_none]; exact Bool.false_ne_true)]
  refine wpAny_bind (wpAny_specialOf hT F.slot_tuple_hash.lookup ?_)
  show wpAny _ _ (callSpecialIfBoundUnlessNone? (.ref a) "__hash__" _ >>= _) Q E s
  refine wpAny_bind (wpAny_callSpecialIfBoundUnlessNone?_slot hT F.slot_tuple_hash (wpAny_call_entry F.slot_tuple_hash hT F.entry_tuple_hash ?_ (F.args_tuple_hash_1 _)))
  show wpAny _ _ (Builtin.Tuple.tupleItemsOf (.ref a) >>= _) _ _ s
  refine wpAny_bind (wpAny_tupleItemsOf ho hd ?_)
  refine wpAny_bind ?_
  rw [← Array.forIn_toList]
  refine wpAny_forIn_list _
    (fun rest (b : Array Int) s' => ∃ done left : NK, k = done ++ left ∧ NIt P w s.heap left rest ∧ b.toList = done.map (iHash P w) ∧ s' = { s with toks := s.toks + (done.map iDraws).sum })
    _ ?_ ?_ _ _ ⟨[], k, rfl, by simpa using hi, rfl, rfl⟩
  · rintro x rest b s' ⟨done, left, rfl, hl, hb, rfl⟩
    cases left with
    | nil => rw [NIt] at hl; cases hl
    | cons i left =>
      cases i with
      | inl k =>
        rw [NIt] at hl
        obtain ⟨u, us', e, r1, hl⟩ := hl
        cases e
        refine wpAny_bind ((mixKind P w).pyHash r1 ?_)
        first
          | exact wpAny_pure ⟨done ++ [.inl k], left, by simp, hl, by simp [hb, iHash], by simp [Nat.add_assoc, iDraws]⟩
          | exact wpAny_bind (wpAny_pure (wpAny_pure ⟨done ++ [.inl k], left, by simp, hl, by simp [hb, iHash], by simp [Nat.add_assoc, iDraws]⟩))
      | inr l =>
        rw [NIt] at hl
        obtain ⟨c, us', e, r1, hl⟩ := hl
        cases e
        refine wpAny_bind (wpAny_pyHash_tuple (by show A.units + 1 < cLine; omega) r1 ?_)
        first
          | exact wpAny_pure ⟨done ++ [.inr l], left, by simp, hl, by simp [hb, iHash], by simp [Nat.add_assoc, iDraws]⟩
          | exact wpAny_bind (wpAny_pure (wpAny_pure ⟨done ++ [.inr l], left, by simp, hl, by simp [hb, iHash], by simp [Nat.add_assoc, iDraws]⟩))
  · rintro b s' ⟨done, left, rfl, hl, hb, rfl⟩
    have e : left = [] := by
      cases left with
      | nil => rfl
      | cons i left => cases i <;> rw [NIt] at hl <;> obtain ⟨_, _, z, _⟩ := hl <;> cases z
    subst e
    rw [List.append_nil] at h
    show wpAny _ _ (retInt (Builtin.Tuple.tupleHashOf b.toList)) _ _ _
    rw [hb]
    refine wpAny_ret_mkInt ?_
    show wpAny _ _ (if (decide (-(2 : Int) ^ 63 ≤ Builtin.Tuple.tupleHashOf (done.map (iHash P w))) && decide (Builtin.Tuple.tupleHashOf (done.map (iHash P w)) < 2 ^ 63)) = true then _ else _) Q E _
    unfold nkHash reduceHash nkDraws at h
    by_cases hr : (decide (-(2 : Int) ^ 63 ≤ Builtin.Tuple.tupleHashOf (done.map (iHash P w))) && decide (Builtin.Tuple.tupleHashOf (done.map (iHash P w)) < 2 ^ 63)) = true
    · rw [if_pos hr]
      rw [if_pos hr] at h
      exact wpAny_pure (by simpa [Nat.add_assoc] using h)
    · rw [if_neg hr]
      rw [if_neg hr] at h
      exact wpAny_bind (wpAny_rule (wpAny_pure (by simpa [Nat.add_assoc] using h)))
end
noncomputable def nkKind (P : Program) (w : World) : HeapKind P w NK where
  is := IsNK P w
  hash := nkHash P w
  draws := nkDraws
  room := fun A => A.units + 5 < cLine
  inj := fun hx hy => hx.inj hy
  keeps := fun x ho hd hs => x.keeps ho hd hs
  pyHash := fun hu hk h => wpAny_pyHash_nk hu hk h
  eqBool := fun hu hx hy h => wpAny_eqBool_nk hu hx hy h
  quiet := fun hk h => quiet_nk hk h

section
variable {prog : Program} {w : World} {K : Type} [DecidableEq K] {knd : HeapKind prog w K} {A : Around} {E : Value → Shared → Prop} {s : Shared} {d a : Addr} {k : K} {xs : List (K × Addr × Value)}
theorem wpAny_dictSetDefault_heap {dflt : Value} {Q : Value → Shared → Prop} (hu : knd.room A) (hkey : knd.is s.heap k a) (hm : s.heap.DictOfH knd d xs)
    (hthere : ∀ p, atKey xs k = some p → Q p.2 { s with toks := s.toks + knd.draws k })
    (hnew : atKey xs k = none → ∀ h', h'.DictOfH knd d (xs ++ [(k, a, dflt)]) → Heap.SameBut d s.heap h' → Q dflt { s with heap := h', toks := s.toks + knd.draws k })
    (hsz : xs.length ≤ sizeLine) : wpAny (model prog w) A (dictSetDefault d (.ref a) dflt) Q E s := by
  obtain ⟨o, es, ep, ho, hc, hd, he, his, hn⟩ := hm
  unfold dictSetDefault
  try with_reducible refine wpAny_holding ?_
  refine wpAny_bind (knd.pyHash hu hkey ?_)
  refine wpAny_bind (wpAny_dictFind_heap (s := { s with toks := s.toks + knd.draws k }) hu hkey ho hd he his hn ?_ ?_)
  · intro hno
    have hnot : k ∉ xs.map (·.1) := not_mem_keys_of_get hno
    refine wpAny_bind (wpAny_rule (wpAny_bind (wpAny_updateDictKeys (hz := by have e := size_of_entries he; omega) (s := { s with toks := s.toks + knd.draws k }) ho hd (wpAny_pure (hnew (atKey_none_of_get hno) _ ⟨_, _, ep + 1, Heap.get?_update_self _ ho (Obj.isFreed_of_dict (Obj.data_mapDictKeys hd _)),
      hc.mapDictKeys _, Obj.data_mapDictKeys hd _, ?_, ?_, ?_⟩ (Heap.SameBut.update ..))))))
    · simp [he, entryOfKey]
    · intro x hx
      rcases List.mem_append.mp hx with hx | hx
      · exact knd.keeps (his x hx) ho hd (Heap.SameBut.update ..)
      · simp only [List.mem_singleton] at hx
        subst hx
        exact knd.keeps hkey ho hd (Heap.SameBut.update ..)
    · rw [List.map_append, List.nodup_append]
      refine ⟨hn, by simp, ?_⟩
      intro x hx y hy
      simp only [List.map_cons, List.map_nil, List.mem_singleton] at hy
      subst hy
      exact fun e => hnot (e ▸ hx)
  · intro j p hj
    refine wpAny_bind (wpAny_dictEntries (s := { s with toks := s.toks + knd.draws k }) ho hd ?_)
    rw [entry_at he j, hj]
    exact wpAny_bind (wpAny_rule (wpAny_pure (hthere p (atKey_of_get hn hj))))
end
section
variable {prog : Program} {w : World} {K : Type} [DecidableEq K] (knd : HeapKind prog w K) (d a : Addr)
theorem meetsH_dict_setdefault (hd : (d == sysModules) = false) (dflt : Value) :
    MeetsIn prog w (Builtin.«dict.setdefault» ⟨[.ref d, .ref a, dflt], []⟩) (fun A R s => knd.room A.in1 ∧ ∃ k xs, knd.is s.heap k a ∧ s.heap.DictOfH knd d xs ∧ xs.length ≤ sizeLine ∧
      (∀ p, atKey xs k = some p → R (.ok (.ret p.2)) { s with toks := s.toks + knd.draws k }) ∧
      (atKey xs k = none → ∀ h', h'.DictOfH knd d (xs ++ [(k, a, dflt)]) → Heap.SameBut d s.heap h' → R (.ok (.ret dflt)) { s with heap := h', toks := s.toks + knd.draws k })) :=
  .of_wp fun A R s ⟨hu, k, xs, hkey, hm, hz, h1, h2⟩ => by
    unfold Builtin.«dict.setdefault»
    refine wpAny_bind ?_
    unfold Builtin.Dict.keyAndDefault
    refine wpAny_bind (wpAny_notOrdered_dict hm.typeIs ?_)
    show wpAny _ _ (pure (d, Value.ref a, some dflt)) _ _ s
    refine wpAny_pure ?_
    show wpAny _ _ (if (d == sysModules) = true then _ else (dictSetDefault d (.ref a) dflt >>= _)) _ _ s
    rw [if_neg (by rw [hd]; exact Bool.false_ne_true)]
    exact wpAny_bind (wpAny_dictSetDefault_heap hu hkey hm (fun p hp => wpAny_pure ⟨p.2, rfl, h1 p hp⟩) (fun hn h' hm' hs' => wpAny_pure ⟨dflt, rfl, h2 hn h' hm' hs'⟩) hz)
end
end L2
namespace L2
open PySem PySem.Spec PyProof.Rows

section
variable {X : Cx} {scope : Scope} {own : List Str} {caps : List (Str × Nat)} {pins : List (Addr × Obj)} {σ : St} {H : Hp} {s : Shared} {fp : List Addr}
theorem comp_goI {prog : Program} {w : World} {A : Around} {R : Result → Shared → Prop} {elt target iter tst : Expr} {pos : Pos} {it acc : Value} {env : Env} (Iv : Nat → Shared → Prop)
    (turn : ∀ n s, Iv n s → wpAny (model prog w) A (pyNext it) (fun r s₁ => match r with
      | none => R (.ok .next) s₁
      | some v => wpAny (model prog w) A (letOwnedTupleGo target it v) (fun _ s₂ => wpAny (model prog w) A (assign target env v) (fun _ s₃ => wpAny (model prog w) A (isTrue tst env (eval tst env)) (fun ok s₆ => if ok = true then wpAny (model prog w) A (eval elt env) (fun x s₄ =>
              wpAny (model prog w) A (call (.builtin "list.append") [acc, x]) (fun _ s₅ => ∃ m, m < n ∧ Iv m s₅) (fun _ _ => False) s₄) (fun _ _ => False) s₆ else ∃ m, m < n ∧ Iv m s₆) (fun _ _ => False) s₃) (fun _ _ => False) s₂) (fun _ _ => False) s₁) (fun _ _ => False) s)
    (n : Nat) (h : Iv n s) : codeAny (model prog w) A (.compLoop (.ListComp elt [⟨target, iter, [tst], 0⟩] scope pos) 0 it acc env) R s := by
  refine codeAny_loop rfl Iv (fun n s hI => ?_) n h
  show wpAny _ A ((compTurn (.ListComp elt [⟨target, iter, [tst], 0⟩] scope pos) 0 it acc env).onRaise (fun x => do noteFrame x env; theTreesLotGoes x)) _ _ s
  refine wpAny_noted ?_
  rw [compTurn_list]
  refine wpAny_bind (wpAny_standAt (wpAny_bind (wpAny_mono (turn n s hI) (fun r s₁ h₁ => ?_) fun _ _ z => z.elim)))
  cases r with
  | none => exact wpAny_pure h₁
  | some v =>
    refine wpAny_bind (wpAny_mono h₁ (fun _ s₂ h₂ => wpAny_bind (wpAny_mono h₂ (fun _ s₃ h₃ => wpAny_bind (wpAny_tests_one (wpAny_mono h₃ (fun ok s₆ h₆ => ?_) fun _ _ z => z.elim))) fun _ _ z => z.elim)) fun _ _ z => z.elim)
    cases ok with
    | true =>
      have h₆' := (if_pos rfl : (if true = true then _ else _) = _) ▸ h₆
      exact wpAny_bind (wpAny_bind (wpAny_mono h₆' (fun x s₄ h₄ => wpAny_bind (wpAny_mono h₄ (fun _ s₅ h₅ => wpAny_pure (wpAny_pure ⟨rfl, h₅⟩)) fun _ _ z => z.elim)) fun _ _ z => z.elim))
    | false =>
      have h₆' : ∃ m, m < n ∧ Iv m s₆ := h₆
      exact wpAny_bind (wpAny_pure (wpAny_pure ⟨rfl, h₆'⟩))

noncomputable def CompBodyI (J : It) (g : TG) (ct : TT) (te : TE) (τ0 : St) (H1 : Hp) (Q : VK) : Prop := ∀ D, H1 D = none → ∃ W : Nat → Nat → St → List V → Hp → Prop,
  (∃ m, W 0 m τ0 [] (upd H1 D (.lst []))) ∧
  ∀ i m τ ys H, W i m τ ys H → H D = some (.lst ys) ∧ ((J.stop i H ∧ Q (.ref D) H) ∨ (J.go i H ∧ ys.length < sizeLine ∧ ∀ x H', J.yld i H x H' → g x τ H' fun τ2 H2 => ct τ2 H2 fun b H4 => if b = true then te τ2 H4 fun y H3 =>
    H3 D = some (.lst ys) ∧ ∃ m', m' < m ∧ W (i + 1) m' τ2 (ys ++ [y]) (upd H3 D (.lst (ys ++ [y]))) else ∃ m', m' < m ∧ W (i + 1) m' τ2 ys H4))
noncomputable def tCompI (wi : TI) (g : TG) (ct : TT) (te : TE) (k : Nat) (caps : List (Str × Nat)) : TE := fun σ H Q => wi σ H fun J H1 => CompBodyI J g ct te (List.replicate k none ++ capt σ caps) H1 Q

theorem comp_coreI {tg elt iter tst : Expr} {wi : TI} {g : TG} {ct : TT} {te : TE} {pos p2 : Pos} {use : Option (Value → Sem Unit)} {Q : VK} {Q' : Value → Shared → Prop} (S : CompScope X scope own caps) (hi : PI X tg iter wi) (hc : X.calm = true)
    (hg : ∀ fp s H, PG (cxComp X scope (own ++ caps.map (·.1)) fp s H) tg g) (hct : ∀ fp s H, PT (cxComp X scope (own ++ caps.map (·.1)) fp s H) tst ct) (he : ∀ fp s H, PE (cxComp X scope (own ++ caps.map (·.1)) fp s H) elt te)
    (I : Inv X pins σ H s) (h : tCompI wi g ct te own.length caps σ H Q)
    (fin : ∀ D C H5 s5, Inv X pins σ H5 s5 → Q (.ref D) H5 → (∃ m, s5.heap.Ns C m) → H5 C = none → C ≠ X.env.locals → X.s₀.heap.objs.size ≤ C → (∀ x c, X.env.cells.lookup x = some c → c ≠ C) → (∀ p ∈ X.pn ++ pins, p.1 ≠ C) →
      compPost (model X.prog X.w) X.A X.xe use Q' (.ref D) C (.ok .next) s5)
    (hs : ∀ x, foldedSetIterable iter X.env x = pure x := by intro _; rfl) :
    wpAny (model X.prog X.w) X.A (comprehension (.ListComp elt [⟨tg, iter, [tst], 0⟩] scope pos) scope X.env p2 (newList []) false (eval iter X.env) use) Q' X.xe s := by
  have hclos : closureFor scope X.env = pure (capsOf X.env.cells scope.names []) := closure_caps fun y hy hk => I.ok.has y.1 (.inl (S.frees y hy hk))
  refine wpAny_comprehension_free (g := ⟨tg, iter, [tst], 0⟩) (gs := []) rfl hs hclos S.kind S.locs (thn (hi pins s σ H _ I h) fun v s1 h1 => thn h1 fun itv s2 h2 => ?_)
  obtain ⟨it, fp, tn, J, H2, e, I2, T, st2, f2, R⟩ := h2
  subst e
  refine wpAny_newObj_type (wpAny_newFunctionEnv S.nocell (by intro y hy; simp at hy) (fun h₁ hns₁ hsb₁ => ?_) S.kind)
  have fr2 : H2 s2.heap.objs.size = none := I2.hok.fresh (Nat.le_refl _)
  obtain ⟨W, ⟨m0, w0⟩, turn⟩ := R s2.heap.objs.size fr2
  have I3 : Inv X pins σ (upd H2 s2.heap.objs.size (.lst [])) { s2 with heap := s2.heap.push { cls := .type "list", dict := none, data := .seq ([] : List Value).toArray } } := I2.lnew (its := []) (t' := s2.toks) .nil (Nat.zero_le _)
  have lt2 : ∀ b ∈ fp, b < s2.heap.objs.size := fun b hb => by
    obtain ⟨o, ho, _⟩ := T.obj _ _ st2 b hb
    exact Heap.lt_size ho
  have f3 : ∀ b ∈ fp, FpOk X pins (upd H2 s2.heap.objs.size (.lst [])) b := fun b hb => ⟨by rw [upd_ne (Nat.ne_of_lt (lt2 b hb))]; exact (f2 b hb).1, (f2 b hb).2⟩
  generalize hs3 : ({ s2 with heap := s2.heap.push { cls := .type "list", dict := none, data := .seq ([] : List Value).toArray } } : Shared) = s3 at I3
  have hz3 : s3.heap.objs.size = s2.heap.objs.size + 1 := by rw [← hs3]; exact Heap.size_push _ _
  have kp23 : ∀ b o, s2.heap.get? b = some o → s3.heap.get? b = some o := fun b o e => by rw [← hs3]; exact Heap.get?_push_of_some _ e
  have lt3 : ∀ b ∈ fp, b < s3.heap.objs.size := fun b hb => by rw [hz3]; exact Nat.lt_succ_of_lt (lt2 b hb)
  have hns₁' : h₁.Ns s3.heap.objs.size (fun x => ([] : List (Str × Value)).reverse.lookup x) := by rw [← hs3]; exact hns₁
  have kp31 : ∀ b o, s3.heap.get? b = some o → h₁.get? b = some o := fun b o e => by
    have hb : b ≠ s3.heap.objs.size := Nat.ne_of_lt (Heap.lt_size e)
    rw [← hs3] at e hb
    exact hsb₁.extBut b o hb (Heap.get?_push_of_some _ e)
  have J1 := comp_start S I3 f3 lt3 (t := s2.toks + ([] : List (Str × Value)).length) hns₁' kp31
  have st1 : tn 0 h₁ := T.keep _ _ _ st2 fun b hb o e => kp31 b o (kp23 b o e)
  -- the loop
  have loop : ∀ s₃ : Shared, s₃ = { s3 with heap := h₁, toks := s2.toks + ([] : List (Str × Value)).length } →
      codeAny (model X.prog X.w) X.A (.compLoop (.ListComp elt [⟨tg, iter, [tst], 0⟩] scope pos) 0 (.ref it) (.ref s2.heap.objs.size) (cxComp X scope (own ++ caps.map (·.1)) fp s3 (upd H2 s2.heap.objs.size (.lst []))).env)
        (compPost (model X.prog X.w) X.A X.xe use Q' (.ref s2.heap.objs.size) s3.heap.objs.size) s₃ := by
    rintro s₃ rfl
    refine comp_goI (fun n s' => ∃ i τ ys H', Inv (cxComp X scope (own ++ caps.map (·.1)) fp s3 (upd H2 s2.heap.objs.size (.lst []))) [] τ H' s' ∧ tn i s'.heap ∧ (∀ b ∈ fp, H' b = none) ∧ W i n τ ys H') ?_ m0
      ⟨0, _, [], _, J1, st1, fun b hb => (f3 b hb).1, w0⟩
    rintro n s' ⟨i, τ, ys, H', J', st', fr', w'⟩
    have fY : ∀ {H'' : Hp}, (∀ b ∈ fp, H'' b = none) → ∀ b ∈ fp, FpOk (cxComp X scope (own ++ caps.map (·.1)) fp s3 (upd H2 s2.heap.objs.size (.lst []))) [] H'' b := fun hn b hb =>
      ⟨hn b hb, Nat.ne_of_lt (lt3 b hb), fun z => by
          rcases List.mem_cons.mp (I3.stkSub b z) with e | e
          · exact (f3 b hb).2.1 e
          · exact (f3 b hb).2.2.1 e, .inl hb, fun x c e => (f3 b hb).2.2.2.2.1 x c (caps_cells e), (fun p hp => by cases hp)⟩
    obtain ⟨hD, tt⟩ := turn i n τ ys H' w'
    rcases tt with ⟨stop, qn⟩ | ⟨go, hlen, step⟩
    · refine thn (T.done (cxComp X scope (own ++ caps.map (·.1)) fp s3 (upd H2 s2.heap.objs.size (.lst []))) rfl rfl rfl hc i [] s' τ H' (fun _ _ => False) J' (fY fr') st' stop) fun r s4 ⟨hr, J4⟩ => ?_
      subst hr
      obtain ⟨m4, hn4, _⟩ := J4.loc
      have I5 := comp_back I3 J4 f3
      refine fin _ _ _ s4 I5 qn ⟨m4, hn4⟩ J4.free ?_ ?_ (fun x c e z => ?_) fun p hp z => ?_
      · exact Nat.ne_of_gt I3.lt
      · exact I3.sz
      · obtain ⟨v, q⟩ := I3.cell x c e
        rw [z] at q
        exact absurd q.lt (Nat.lt_irrefl _)
      · have q := (I3.pin p hp).1
        rw [z] at q
        exact absurd (Heap.lt_size q) (Nat.lt_irrefl _)
    · refine thn (T.item (cxComp X scope (own ++ caps.map (·.1)) fp s3 (upd H2 s2.heap.objs.size (.lst []))) rfl rfl rfl hc i [] s' τ H' (fun _ _ => False) J' (fY fr') st' go) fun r s4 ⟨u, hr, h4⟩ => ?_
      subst hr
      refine thn h4 fun _ s5 ⟨x, H5, J5, r5, y5, st5, fr5⟩ => ?_
      have J5' := J5.pinned (fY fr5) (T.obj _ _ st5)
      have keepsT : ∀ {τ6 : St} {H8 : Hp} {s8 : Shared}, Inv (cxComp X scope (own ++ caps.map (·.1)) fp s3 (upd H2 s2.heap.objs.size (.lst []))) ([] ++ pinsAt fp s5.heap) τ6 H8 s8 → tn (i + 1) s8.heap ∧ ∀ b ∈ fp, H8 b = none := fun {τ6 H8 s8} J8 => by
        refine ⟨T.keep _ _ _ st5 fun b hb o e => (J8.pin (b, o) (List.mem_append_right _ (List.mem_append_right _ (mem_pinsAt hb e)))).1, fun b hb => ?_⟩
        obtain ⟨o, e, d⟩ := T.obj _ _ st5 b hb
        exact (J8.pin (b, o) (List.mem_append_right _ (List.mem_append_right _ (mem_pinsAt hb e)))).2.1
      refine thn (hg fp s3 _ _ s5 τ H5 x u _ J5' r5 (step x H5 y5)) fun _ s6 ⟨τ6, H6, J6, q6⟩ => ?_
      refine thn (hct fp s3 _ _ s6 τ6 H6 _ J6 q6) fun ok s9 ⟨H9, J9, q9⟩ => ?_
      cases ok with
      | false =>
        obtain ⟨m', hm', w9⟩ := (show ∃ m', m' < n ∧ W (i + 1) m' τ6 ys H9 from q9)
        exact ⟨m', hm', i + 1, τ6, ys, _, J9.unpinned, (keepsT J9).1, (keepsT J9).2, w9⟩
      | true =>
        refine thn (he fp s3 _ _ s9 τ6 H9 _ J9 q9) fun yv s7 ⟨y, H7, J7, r7, hD7, m', hm', w7⟩ => ?_
        refine thn (mt_append (X := cxComp X scope (own ++ caps.map (·.1)) fp s3 (upd H2 s2.heap.objs.size (.lst []))) _ s7 τ6 H7 (.ref s2.heap.objs.size) [y] _ [yv] (fun _ H8 => H8 = upd H7 s2.heap.objs.size (.lst (ys ++ [y]))) J7 rfl (.cons r7 .nil) ⟨_, ys, y, rfl, rfl, hD7, hlen, rfl⟩) fun _ s8 ⟨_, H8, J8, _, e8⟩ => ?_
        subst e8
        exact ⟨m', hm', i + 1, τ6, ys ++ [y], _, J8.unpinned, (keepsT J8).1, (keepsT J8).2, w7⟩
  have hloop := loop _ rfl
  subst hs3
  exact codeAny_compStart_list hloop (T.self _ 0 _ _ _ st1 hloop)
theorem pe_compI {tg elt iter tst : Expr} {wi : TI} {g : TG} {ct : TT} {te : TE} {pos : Pos} (S : CompScope X scope own caps) (hi : PI X tg iter wi) (hc : X.calm = true)
    (hg : ∀ fp s H, PG (cxComp X scope (own ++ caps.map (·.1)) fp s H) tg g) (hct : ∀ fp s H, PT (cxComp X scope (own ++ caps.map (·.1)) fp s H) tst ct) (he : ∀ fp s H, PE (cxComp X scope (own ++ caps.map (·.1)) fp s H) elt te)
    (hs : ∀ x, foldedSetIterable iter X.env x = pure x := by intro _; rfl) : PE X (.ListComp elt [⟨tg, iter, [tst], 0⟩] scope pos) (tCompI wi g ct te own.length caps) := by
  intro pins s σ H Q I h
  rw [eval_ListComp]
  refine comp_coreI (use := none) (Q := Q) S hi hc hg hct he I h (fun D C H5 s5 I5 q ⟨m, hn⟩ hC hL hz hcell hpin => ?_) hs
  refine ⟨m, hn, fun h' hs' => ?_⟩
  exact ⟨.ref D, H5, I5.turned (t' := s5.toks) (fun b o hb e => (hs'.2 b hb).trans e) hC hL (.inr hz) hcell hpin, rfl, q⟩
theorem ps_setCompI {i : Nat} {y : Str} {tg elt iter tst : Expr} {wi : TI} {g : TG} {ct : TT} {te : TE} {pos spos py : Pos} (hN : X.N.Nodup) (hiN : X.N[i]? = some y) (hy : X.env.scope.names.lookup y = some .local) (S : CompScope X scope own caps) (hi : PI X tg iter wi) (hc : X.calm = true)
    (hg : ∀ fp s H, PG (cxComp X scope (own ++ caps.map (·.1)) fp s H) tg g) (hct : ∀ fp s H, PT (cxComp X scope (own ++ caps.map (·.1)) fp s H) tst ct) (he : ∀ fp s H, PE (cxComp X scope (own ++ caps.map (·.1)) fp s H) elt te)
    (hsw : swapsWith (.ListComp elt [⟨tg, iter, [tst], 0⟩] scope pos) (some (.Name y py)) spos.line X.env = pure true)
    (hs : ∀ x, foldedSetIterable iter X.env x = pure x := by intro _; rfl) : PS X (.Assign [.Name y py] (.ListComp elt [⟨tg, iter, [tst], 0⟩] scope pos) spos) (tAsg (tCompI wi g ct te own.length caps) (gName i)) := by
  intro pins s σ H D I h
  rw [exec_Assign_Name_used _ _ _ _ hsw]
  refine wpAny_bind (wpAny_standAt (wpAny_bind ?_))
  show wpAny _ X.A (do let _ ← comprehension (.ListComp elt [⟨tg, iter, [tst], 0⟩] scope pos) scope X.env _ (newList []) false (eval iter X.env) (some (assign (.Name y py) X.env))) _ _ s
  refine wpAny_bind (wpAny_mono (comp_coreI (use := some (assign (.Name y py) X.env)) (Q := fun x H1 => D.nx (σ.set i (some x)) H1) (Q' := fun _ s' => SP X pins D .next s') S hi hc hg hct he I h (fun A C H5 s5 I5 q ⟨m, hn⟩ hC hL hz hcell hpin => ?_) hs)
    (fun _ s' hq => wpAny_pure (wpAny_pure hq)) fun _ _ e => e)
  show wpAny _ X.A (assign (.Name y py) X.env (.ref A)) _ _ _
  refine wpAny_assign_Name (store_ok2 I5 hN hiN (.inl hy) (v := .ref A) rfl (fun s6 I6 ⟨a, hsb, ha⟩ => ?_) (.inr hy))
  have haC : C ≠ a := by
    rcases ha with ha | ha
    · rw [ha]; exact hL
    · exact fun z => hcell y a ha z.symm
  refine ⟨m, hn.sameBut hsb haC, fun h' hs' => ?_⟩
  exact ⟨_, H5, I6.turned (t' := s6.toks) (fun b o hb e => (hs'.2 b hb).trans e) hC hL (.inr hz) hcell hpin, q⟩
end
end L2
namespace L2
open PySem PySem.Spec PyProof.Rows

noncomputable def NKs (H : Hp) : NK → List V → Prop
  | [], vs => vs = []
  | .inl k :: ks, vs => ∃ vs', vs = kV k :: vs' ∧ NKs H ks vs'
  | .inr l :: ks, vs => ∃ b vs', vs = V.ref b :: vs' ∧ H b = some (.tup (l.map kV)) ∧ NKs H ks vs'
noncomputable def NKey (H : Hp) (k : NK) (a : Addr) : Prop := ∃ vs, H a = some (.tup vs) ∧ NKs H k vs
theorem NKs.keep {H H' : Hp} (ht : ∀ b ys, H b = some (.tup ys) → H' b = some (.tup ys)) : ∀ {k : NK} {vs : List V}, NKs H k vs → NKs H' k vs
  | [], vs, r => by rw [NKs] at r ⊢; exact r
  | .inl k :: ks, vs, r => by
    rw [NKs] at r ⊢
    obtain ⟨vs', e, r⟩ := r
    exact ⟨vs', e, NKs.keep ht r⟩
  | .inr l :: ks, vs, r => by
    rw [NKs] at r ⊢
    obtain ⟨b, vs', e, q, r⟩ := r
    exact ⟨b, vs', e, ht _ _ q, NKs.keep ht r⟩
theorem NKey.keep {H H' : Hp} {k : NK} {a : Addr} (ht : ∀ b ys, H b = some (.tup ys) → H' b = some (.tup ys)) (r : NKey H k a) : NKey H' k a := by
  obtain ⟨vs, e, r⟩ := r
  exact ⟨vs, ht _ _ e, r.keep ht⟩
section
variable {P : Program} {w : World} {H : Hp} {h : Heap}
theorem nks_of (ok : HOk P w H h) : ∀ {k : NK} {vs : List V} {us : List Value}, NKs H k vs → Vals vs us → NIt P w h k us
  | [], vs, us, r, q => by rw [NKs] at r; subst r; cases q; rw [NIt]
  | .inl k :: ks, vs, us, r, q => by
    rw [NKs] at r
    obtain ⟨vs', rfl, r⟩ := r
    cases q with
    | cons q1 q2 => rw [NIt]; exact ⟨_, _, rfl, kV_is q1, nks_of ok r q2⟩
  | .inr l :: ks, vs, us, r, q => by
    rw [NKs] at r
    obtain ⟨b, vs', rfl, e, r⟩ := r
    cases q with
    | cons q1 q2 =>
      rw [NIt]
      cases (show _ = Value.ref b from q1)
      exact ⟨b, _, rfl, key_of ok e, nks_of ok r q2⟩
theorem nkey_of {k : NK} {a : Addr} (ok : HOk P w H h) (r : NKey H k a) : IsNK P w h k a := by
  obtain ⟨vs, e, r⟩ := r
  obtain ⟨_, its, rv, p⟩ := (show ObjOk P w H h a (.tup vs) from ok a _ e)
  exact ⟨its, p.tup, nks_of ok r rv⟩
end
noncomputable abbrev KN (H : Hp) : List (NK × V) → List (NK × Addr × Value) → Prop := Paired fun p q => p.1 = q.1 ∧ NKey H p.1 q.2.1 ∧ RelV p.2 q.2.2
theorem KN.val {H : Hp} {kvs : List (NK × V)} {xs : List (NK × Addr × Value)} (r : KN H kvs xs) (k : NK) : RelO (valV kvs k) ((atKey xs k).map (·.2)) := by
  induction r with
  | nil => exact True.intro
  | @cons p q ps qs h t ih =>
    obtain ⟨h1, _, h2⟩ := h
    by_cases e : p.1 = k
    · have e' : q.1 = k := h1.symm.trans e
      have b : atKey (q :: qs) k = some q.2 := by simp [atKey, List.find?_cons, e']
      rw [valV_pos e, b]; exact h2
    · have e' : ¬ q.1 = k := fun z => e (h1.trans z)
      have b : atKey (q :: qs) k = atKey qs k := by simp [atKey, List.find?_cons, e']
      rw [valV_neg e, b]; exact ih
theorem KN.keeps {H H' : Hp} {kvs : List (NK × V)} {xs : List (NK × Addr × Value)} (r : KN H kvs xs) (ht : ∀ b ys, H b = some (.tup ys) → H' b = some (.tup ys)) : KN H' kvs xs :=
  Paired.mapP r fun _ _ z => ⟨z.1, z.2.1.keep ht, z.2.2⟩
noncomputable def DN (P : Program) (w : World) (H : Hp) (a : Addr) (kvs : List (NK × V)) : Prop := kvs.length ≤ sizeLine ∧ (a == sysModules) = false ∧ ∃ (xs : List (NK × Addr × Value)) (o : Obj) (es : Array DictEntry) (ep : Nat),
  H a = some (.ext fun h => h.get? a = some o) ∧ KN H kvs xs ∧ o.ExactDict ∧ o.data = .dict es ep ∧ es.toList = xs.map (entryOfKey (nkKind P w)) ∧ (xs.map (·.1)).Nodup
theorem DN.keep {P : Program} {w : World} {H H' : Hp} {a : Addr} {kvs : List (NK × V)} (d : DN P w H a kvs) (ha : ∀ φ, H a = some (.ext φ) → H' a = some (.ext φ)) (ht : ∀ b ys, H b = some (.tup ys) → H' b = some (.tup ys)) : DN P w H' a kvs := by
  obtain ⟨z, hd, xs, o, es, ep, e, r, q⟩ := d
  exact ⟨z, hd, xs, o, es, ep, ha _ e, r.keeps ht, q⟩
theorem DN.same {P : Program} {w : World} {H H' : Hp} {a : Addr} {kvs : List (NK × V)} (d : DN P w H a kvs) (sm : Same H H') : DN P w H' a kvs := d.keep (fun φ => sm _ _) (fun b ys => sm _ _)
theorem DN.ext {P : Program} {w : World} {H : Hp} {a : Addr} {kvs : List (NK × V)} (d : DN P w H a kvs) : ∃ φ, H a = some (.ext φ) := by
  obtain ⟨_, _, xs, o, es, ep, e, _⟩ := d
  exact ⟨_, e⟩
theorem dn_rd {P : Program} {w : World} {H : Hp} {h : Heap} {a : Addr} {kvs : List (NK × V)} (ok : HOk P w H h) (d : DN P w H a kvs) : kvs.length ≤ sizeLine ∧ (a == sysModules) = false ∧
    ∃ xs, KN H kvs xs ∧ h.DictOfH (nkKind P w) a xs := by
  obtain ⟨z, hd, xs, o, es, ep, e, r, h2, h3, h4, h5⟩ := d
  obtain ⟨h1, _⟩ := (show ObjOk P w H h a (.ext fun h => h.get? a = some o) from ok a _ e)
  refine ⟨z, hd, xs, r, o, es, ep, h1, h2, h3, h4, fun x hx => ?_, h5⟩
  have all : ∀ {l : List (NK × V)} {m : List (NK × Addr × Value)}, KN H l m → ∀ x ∈ m, (nkKind P w).is h x.1 x.2.1 := by
    intro l m q
    induction q with
    | nil => intro x hx; exact nomatch hx
    | @cons p q ps qs hq t ih =>
      intro x hx
      rcases List.mem_cons.mp hx with e | hx
      · subst e
        exact nkey_of ok (by rw [← hq.1]; exact hq.2.1)
      · exact ih x hx
  exact all r x hx
theorem ext_ok {P : Program} {w : World} {H : Hp} {h : Heap} {a : Addr} {o : Obj} (e : h.get? a = some o) : ObjOk P w H h a (.ext fun h => h.get? a = some o) := ⟨e, ⟨o, e⟩, fun h1 h2 e1 k => k o e1⟩
section
variable {X : Cx} {pins : List (Addr × Obj)} {σ : St} {H : Hp} {s : Shared} {a b : Addr} {kvs kvs' : List (NK × V)} {k : NK} {y v : V} {u r : Value} {A : Around} {E : Value → Shared → Prop}
theorem dn_write {h' : Heap} {t' : Nat} {xs' : List (NK × Addr × Value)} (I : Inv X pins σ H s) (d : DN X.prog X.w H a kvs) (hs : Heap.SameBut a s.heap h') (dd : h'.DictOfH (nkKind X.prog X.w) a xs') (rel : KN H kvs' xs') (hl : kvs'.length ≤ sizeLine) :
    ∃ φ, Inv X pins σ (upd H a (.ext φ)) { s with heap := h', toks := t' } ∧ DN X.prog X.w (upd H a (.ext φ)) a kvs' := by
  obtain ⟨φ0, e0⟩ := d.ext
  have hd := d.2.1
  obtain ⟨q, es, ep, hq, h2, h3, h4, _, h5⟩ := dd
  have ht : ∀ c ys, H c = some (.tup ys) → (upd H a (.ext fun h => h.get? a = some q)) c = some (.tup ys) := fun c ys ec => by
    rw [upd_ne (ne_of ec e0 (fun z => nomatch z))]
    exact ec
  exact ⟨_, d_write I (by rw [e0]; exact True.intro) hs ⟨q, hq⟩ (ext_ok hq), hl, hd, xs', q, es, ep, upd_same, rel.keeps ht, h2, h3, h4, h5⟩
theorem KN.snoc {xs : List (NK × Addr × Value)} (rel : KN H kvs xs) (nk : NKey H k b) (rv : RelV v r) : KN H (kvs ++ [(k, v)]) (xs ++ [(k, b, r)]) := Paired.snoc rel ⟨rfl, nk, rv⟩
theorem dn_setdefault {Q : Value → Shared → Prop} (hu : A.units + 10 < cLine) (I : Inv X pins σ H s) (d : DN X.prog X.w H a kvs) (nk : NKey H k b) (rv : RelV v r) (hl : kvs.length < sizeLine)
    (h1 : ∀ v' w' s', valV kvs k = some v' → RelV v' w' → Inv X pins σ H s' → Q w' s') (h2 : valV kvs k = none → ∀ φ s', Inv X pins σ (upd H a (.ext φ)) s' → DN X.prog X.w (upd H a (.ext φ)) a (kvs ++ [(k, v)]) → Q r s') :
    wpAny (model X.prog X.w) A (call (.builtin "dict.setdefault") [.ref a, .ref b, r]) Q E s := by
  obtain ⟨z, hd, xs, rel, dd⟩ := dn_rd I.hok d
  have hz : xs.length ≤ sizeLine := by rw [← Paired.length rel]; exact z
  have ro := rel.val k
  refine call_meetsIn PySem.F.slot_dict_setdefault dd.typeIs PySem.F.entry_dict_setdefault (PySem.F.args_dict_setdefault_3 _ _ _) (meetsH_dict_setdefault (nkKind X.prog X.w) a b hd r)
    ⟨(show A.units + 1 + 5 < cLine by omega), k, xs, nkey_of I.hok nk, dd, hz, fun p hp => ?_, fun hn h' dd' hs => ?_⟩
  · rw [hp] at ro
    cases e : valV kvs k with
    | none => rw [e] at ro; exact ro.elim
    | some v' => rw [e] at ro; exact h1 v' _ _ e ro (I.tok _)
  · rw [hn] at ro
    cases e : valV kvs k with
    | some v' => rw [e] at ro; exact ro.elim
    | none =>
      obtain ⟨φ, I', d'⟩ := dn_write (t' := s.toks + (nkKind X.prog X.w).draws k) I d hs dd' (rel.snoc nk rv) (by rw [List.length_append]; exact hl)
      exact h2 e φ _ I' d'
end
noncomputable def tSetD (P : Program) (w : World) (td ty tx : TE) : TE := fun σ H Q => td σ H fun x H1 => ∃ a, x = .ref a ∧ (∃ kvs, DN P w H1 a kvs) ∧ ty σ H1 fun y H2 => tx σ H2 fun z H3 => ∃ kvs k b, DN P w H3 a kvs ∧ y = .ref b ∧ NKey H3 k b ∧ kvs.length < sizeLine ∧
  (∀ v, valV kvs k = some v → Q v H3) ∧ (valV kvs k = none → ∀ φ, DN P w (upd H3 a (.ext φ)) a (kvs ++ [(k, z)]) → Q z (upd H3 a (.ext φ)))
theorem isN_at {X : Cx} {pins : List (Addr × Obj)} {σ : St} {H : Hp} {s : Shared} {a : Addr} (I : Inv X pins σ H s) (d : ∃ kvs, DN X.prog X.w H a kvs) :
    s.TypeIs (.ref a) "dict" ∧ (∀ b, Value.ref a = .ref b → ∃ ob, s.heap.get? b = some ob ∧ ob.dict = none) ∧ (a == sysModules) = false := by
  obtain ⟨kvs, e⟩ := d
  obtain ⟨_, hd, xs, _, dd⟩ := dn_rd I.hok e
  refine ⟨dd.typeIs, fun b q => ?_, hd⟩
  cases q
  obtain ⟨ob, _, _, h1, h2, _⟩ := dd
  exact ⟨ob, h1, h2.2.1⟩
section
variable {X : Cx} {o e f : Expr} {apos cpos : Pos} {td ty tx : TE}
theorem pe_setD (hu : X.A.units + 10 < cLine) (ho : PE X o td) (he : PE X e ty) (hf : PE X f tx) (m : M2 X o "setdefault" apos e f cpos) : PE X (.Call (.Attribute o "setdefault" apos) [e, f] [] cpos) (tSetD X.prog X.w td ty tx) := by
  intro pins s σ H Q I h
  refine wpAny_Call_method m.base m.few m.line PySem.F.plainAttrs_dict PySem.F.slot_dict_setdefault PySem.F.type_dict_setdefault (thn (ho pins s σ H _ I h) fun u s1 ⟨x, H1, I1, rx, a, ex, d, q1⟩ => ?_)
  subst ex
  obtain rfl : u = Value.ref a := rx
  obtain ⟨t1, t2, _⟩ := isN_at I1 d
  refine ⟨t1, t2, ?_⟩
  rw [m.trees]
  refine Calls.callWith_builtin rfl (Calls.evalArgs_plain (Calls.spliced_cons (thn (he pins s1 σ H1 _ I1 q1) fun iv s2 ⟨y, H2, I2, ry, q2⟩ =>
    Calls.spliced_cons (thn (hf pins s2 σ H2 _ I2 q2) fun fv s3 ⟨z, H3, I3, rz, kvs, k, b, d3, ey, nk, hl, q3, q4⟩ => Calls.spliced_nil ?_))))
  subst ey
  obtain rfl : iv = Value.ref b := ry
  exact dn_setdefault hu I3 d3 nk rz hl (fun v' w' s4 e4 r4 I4 => ⟨v', H3, I4, r4, q3 v' e4⟩) fun hn φ s4 I4 d4 => ⟨z, _, I4, rz, q4 hn φ d4⟩
noncomputable def tDNewN (P : Program) (w : World) : TE := fun _ H Q => ∀ p φ, H p = none → DN P w (upd H p (.ext φ)) p [] → Q (.ref p) (upd H p (.ext φ))
theorem pe_dnewN {pos : Pos} : PE X (.Dict [] [] pos) (tDNewN X.prog X.w) := by
  intro pins s σ H Q I h
  have hd : (s.heap.objs.size == sysModules) = false := beq_eq_false_iff_ne.mpr (Ne.symm (Nat.ne_of_lt I.big))
  refine wpAny_Dict_empty ⟨.ref s.heap.objs.size, _, I.laid (a := s.heap.objs.size) (o := .ext fun h => h.get? s.heap.objs.size = some { cls := .type "dict", data := .dict #[] }) (t' := s.toks) (fun _ _ q => Heap.get?_push_of_some _ q) (Nat.le_refl _) (ext_ok (Heap.get?_push_size _ rfl)), rfl, h _ _ (I.hok.fresh (Nat.le_refl _)) ?_⟩
  exact ⟨Nat.zero_le _, hd, [], _, #[], 0, upd_same, .nil, ⟨rfl, rfl, rfl⟩, rfl, rfl, List.nodup_nil⟩
end
end L2
namespace Sw
inductive TM (S : Type) where
  | num (n : Int) | name (x : S) | of (x : S) (as : List Nat)
section
variable {S : Type}
inductive Eqv (ts : List (TM S)) (es : List (Nat × Nat)) : Nat → Nat → Prop where
  | refl (i : Nat) : Eqv ts es i i
  | symm {i j : Nat} : Eqv ts es i j → Eqv ts es j i
  | trans {i j k : Nat} : Eqv ts es i j → Eqv ts es j k → Eqv ts es i k
  | edge {i j : Nat} : (i, j) ∈ es → Eqv ts es i j
  | same {i j : Nat} {t : TM S} : ts[i]? = some t → ts[j]? = some t → Eqv ts es i j
  | cong {i j : Nat} {x : S} {as bs : List Nat} : ts[i]? = some (.of x as) → ts[j]? = some (.of x bs) → as.length = bs.length → (∀ (k a b : Nat), as[k]? = some a → bs[k]? = some b → Eqv ts es a b) → Eqv ts es i j
noncomputable def GoodL (ls : List Nat) : Prop := ∀ k v : Nat, ls[k]? = some v → v ≤ k ∧ ls[v]? = some v
noncomputable def ren (hi lo v : Nat) : Nat := if v = hi then lo else v
noncomputable def jn (ls : List Nat) (hi lo : Nat) : List Nat := ls.map (ren hi lo)
theorem jn_at {ls : List Nat} {hi lo k : Nat} : (jn ls hi lo)[k]? = (ls[k]?).map (ren hi lo) := by unfold jn; rw [List.getElem?_map]
theorem jn_len {ls : List Nat} {hi lo : Nat} : (jn ls hi lo).length = ls.length := by unfold jn; rw [List.length_map]
theorem good_jn {ls : List Nat} {hi lo : Nat} (g : GoodL ls) (hlo : ls[lo]? = some lo) (hl : lo < hi) : GoodL (jn ls hi lo) := by
  intro k v h
  rw [jn_at] at h
  cases e : ls[k]? with
  | none => rw [e] at h; cases h
  | some u =>
    rw [e] at h
    have h' : ren hi lo u = v := Option.some.inj h
    obtain ⟨g1, g2⟩ := g k u e
    unfold ren at h'
    by_cases hu : u = hi
    · rw [if_pos hu] at h'
      subst h'
      refine ⟨by omega, ?_⟩
      rw [jn_at, hlo]
      show some (ren hi lo lo) = some lo
      unfold ren
      rw [if_neg (by omega)]
    · rw [if_neg hu] at h'
      subst h'
      refine ⟨g1, ?_⟩
      rw [jn_at, g2]
      show some (ren hi lo u) = some u
      unfold ren
      rw [if_neg hu]
noncomputable def Sound (ts : List (TM S)) (es : List (Nat × Nat)) (ls : List Nat) : Prop := ∀ k v : Nat, ls[k]? = some v → Eqv ts es k v
theorem sound_jn {ts : List (TM S)} {es : List (Nat × Nat)} {ls : List Nat} {hi lo : Nat} (h : Sound ts es ls) (e : Eqv ts es hi lo) : Sound ts es (jn ls hi lo) := by
  intro k v q
  rw [jn_at] at q
  cases z : ls[k]? with
  | none => rw [z] at q; cases q
  | some u =>
    rw [z] at q
    have h' : ren hi lo u = v := Option.some.inj q
    have := h k u z
    unfold ren at h'
    by_cases hu : u = hi
    · rw [if_pos hu] at h'
      subst h' hu
      exact .trans this e
    · rw [if_neg hu] at h'
      subst h'
      exact this
noncomputable def Keeps (ls ls' : List Nat) : Prop := ∀ i j v : Nat, ls[i]? = some v → ls[j]? = some v → ∃ u, ls'[i]? = some u ∧ ls'[j]? = some u
theorem keeps_refl (ls : List Nat) : Keeps ls ls := fun i j v h1 h2 => ⟨v, h1, h2⟩
theorem Keeps.trans {a b c : List Nat} (h : Keeps a b) (h' : Keeps b c) : Keeps a c := fun i j v h1 h2 => by
  obtain ⟨u, e1, e2⟩ := h i j v h1 h2
  exact h' i j u e1 e2
theorem keeps_jn (ls : List Nat) (hi lo : Nat) : Keeps ls (jn ls hi lo) := fun i j v h1 h2 => ⟨ren hi lo v, by rw [jn_at, h1]; rfl, by rw [jn_at, h2]; rfl⟩
theorem sum_ren {hi lo : Nat} (hl : lo ≤ hi) : ∀ ls : List Nat, (ls.map (ren hi lo)).sum ≤ ls.sum
  | [] => Nat.le_refl _
  | v :: ls => by
    have := sum_ren hl ls
    rw [List.map_cons, List.sum_cons, List.sum_cons]
    have h1 : ren hi lo v ≤ v := by unfold ren; split <;> omega
    omega
theorem sum_jn {hi lo : Nat} (hl : lo < hi) : ∀ {ls : List Nat}, hi ∈ ls → (jn ls hi lo).sum < ls.sum
  | v :: ls, h => by
    unfold jn
    rw [List.map_cons, List.sum_cons, List.sum_cons]
    have h1 : ren hi lo v ≤ v := by unfold ren; split <;> omega
    have h2 := sum_ren (hi := hi) (lo := lo) (by omega) ls
    rcases List.mem_cons.mp h with e | e
    · have : ren hi lo v < v := by unfold ren; rw [if_pos e.symm]; omega
      omega
    · have := sum_jn hl e
      unfold jn at this
      omega
noncomputable def mix (ls : List Nat) (hi lo m : Nat) : List Nat := ls.mapIdx fun k v => if k < m then ren hi lo v else v
theorem mix_at {ls : List Nat} {hi lo m k : Nat} : (mix ls hi lo m)[k]? = (ls[k]?).map fun v => if k < m then ren hi lo v else v := by unfold mix; rw [List.getElem?_mapIdx]
theorem mix_len {ls : List Nat} {hi lo m : Nat} : (mix ls hi lo m).length = ls.length := by unfold mix; rw [List.length_mapIdx]
theorem mix_start {ls : List Nat} {hi lo : Nat} (g : GoodL ls) : mix ls hi lo hi = ls := by
  refine List.ext_getElem? fun k => ?_
  rw [mix_at]
  cases e : ls[k]? with
  | none => rfl
  | some v =>
    have := (g k v e).1
    show some _ = some _
    dsimp only
    by_cases hk : k < hi
    · rw [if_pos hk]; unfold ren; rw [if_neg (by omega)]
    · rw [if_neg hk]
theorem mix_set {ls : List Nat} {hi lo m v : Nat} (h : ls[m]? = some v) : (mix ls hi lo m).set m (ren hi lo v) = mix ls hi lo (m + 1) := by
  have hm := (List.getElem?_eq_some_iff.mp h).1
  refine List.ext_getElem? fun k => ?_
  rw [List.getElem?_set, mix_at, mix_at, mix_len]
  by_cases hk : m = k
  · subst hk
    rw [if_pos rfl, if_pos hm, h]
    show some _ = some _
    dsimp only
    rw [if_pos (by omega)]
  · rw [if_neg hk]
    cases e : ls[k]? with
    | none => rfl
    | some u =>
      show some _ = some _
      dsimp only
      by_cases h1 : k < m
      · rw [if_pos h1, if_pos (by omega)]
      · rw [if_neg h1, if_neg (by omega)]
theorem mix_stay {ls : List Nat} {hi lo m v : Nat} (h : ls[m]? = some v) (hv : v ≠ hi) : mix ls hi lo (m + 1) = mix ls hi lo m := by
  refine List.ext_getElem? fun k => ?_
  rw [mix_at, mix_at]
  by_cases hk : k = m
  · subst hk
    rw [h]
    show some _ = some _
    dsimp only
    rw [if_pos (by omega), if_neg (by omega)]
    unfold ren
    rw [if_neg hv]
  · cases e : ls[k]? with
    | none => rfl
    | some u =>
      show some _ = some _
      dsimp only
      by_cases h1 : k < m
      · rw [if_pos h1, if_pos (by omega)]
      · rw [if_neg h1, if_neg (by omega)]
theorem mix_end {ls : List Nat} {hi lo m : Nat} (h : ls.length ≤ m) : mix ls hi lo m = jn ls hi lo := by
  refine List.ext_getElem? fun k => ?_
  rw [mix_at, jn_at]
  cases e : ls[k]? with
  | none => rfl
  | some u =>
    have := (List.getElem?_eq_some_iff.mp e).1
    show some _ = some _
    dsimp only
    rw [if_pos (by omega)]
noncomputable def mk (ls : List Nat) : TM S → TM S
  | .num n => .num n
  | .name x => .name x
  | .of x as => .of x (as.map fun a => ls.getD a 0)
noncomputable def Stands (ts : List (TM S)) (es : List (Nat × Nat)) : TM S → TM S → Prop
  | .of x as, .of y vs => x = y ∧ as.length = vs.length ∧ ∀ k a v : Nat, as[k]? = some a → vs[k]? = some v → Eqv ts es a v
  | t, m => t = m
theorem stands_mk {ts : List (TM S)} {es : List (Nat × Nat)} {ls : List Nat} (h : Sound ts es ls) : ∀ {t : TM S}, (∀ x as, t = .of x as → ∀ a ∈ as, a < ls.length) → Stands ts es t (mk ls t)
  | .num n, _ => rfl
  | .name x, _ => rfl
  | .of x as, hb => by
    refine ⟨rfl, by rw [List.length_map], fun k a v h1 h2 => ?_⟩
    rw [List.getElem?_map, h1] at h2
    have e : ls.getD a 0 = v := Option.some.inj h2
    have ha := hb x as rfl a (List.mem_of_getElem? h1)
    rw [List.getD_eq_getElem?_getD, List.getElem?_eq_getElem ha] at e
    refine h a v ?_
    rw [List.getElem?_eq_getElem ha, ← e]
    rfl
theorem stands_eqv {ts : List (TM S)} {es : List (Nat × Nat)} {i j : Nat} {t u m : TM S} (hi : ts[i]? = some t) (hj : ts[j]? = some u) (h1 : Stands ts es t m) (h2 : Stands ts es u m) : Eqv ts es i j := by
  cases t with
  | num n =>
    have e : TM.num n = m := h1
    subst e
    cases u with
    | num k => cases (show TM.num k = TM.num n from h2); exact .same hi hj
    | name y => cases (show TM.name y = TM.num n from h2)
    | of y bs => cases (show TM.of y bs = TM.num n from h2)
  | name x =>
    have e : TM.name x = m := h1
    subst e
    cases u with
    | num k => cases (show TM.num k = TM.name x from h2)
    | name y => cases (show TM.name y = TM.name x from h2); exact .same hi hj
    | of y bs => cases (show TM.of y bs = TM.name x from h2)
  | of x as =>
    cases m with
    | num k => cases (show TM.of x as = TM.num k from h1)
    | name y => cases (show TM.of x as = TM.name y from h1)
    | of y vs =>
      obtain ⟨rfl, l1, q1⟩ := h1
      cases u with
      | num k => cases (show TM.num k = TM.of x vs from h2)
      | name z => cases (show TM.name z = TM.of x vs from h2)
      | of z bs =>
        obtain ⟨rfl, l2, q2⟩ := h2
        refine .cong hi hj (by omega) fun k a b ha hb => ?_
        have hk : k < vs.length := by have := (List.getElem?_eq_some_iff.mp ha).1; omega
        exact .trans (q1 k a _ ha (List.getElem?_eq_getElem hk)) (.symm (q2 k b _ hb (List.getElem?_eq_getElem hk)))
noncomputable def Closed (ts : List (TM S)) (es : List (Nat × Nat)) (ls : List Nat) : Prop :=
  ls.length = ts.length ∧ GoodL ls ∧ Sound ts es ls ∧ ∀ i j : Nat, i < ts.length → j < ts.length → Eqv ts es i j → ls[i]? = ls[j]?
noncomputable def Arms (ts : List (TM S)) : Prop := ∀ (i : Nat) (x : S) (as : List Nat), ts[i]? = some (.of x as) → ∀ a ∈ as, a < i
theorem complete {ts : List (TM S)} {es : List (Nat × Nat)} {ls : List Nat} (ha : Arms ts) (he : ∀ a b : Nat, (a, b) ∈ es → a < ts.length ∧ b < ts.length) (hl : ls.length = ts.length)
    (h1 : ∀ a b : Nat, (a, b) ∈ es → ls[a]? = ls[b]?) (h2 : ∀ (i j : Nat) (t u : TM S), ts[i]? = some t → ts[j]? = some u → mk ls t = mk ls u → ls[i]? = ls[j]?) {i j : Nat} (h : Eqv ts es i j) : ls[i]? = ls[j]? := by
  induction h with
  | refl i => rfl
  | symm _ ih => exact ih.symm
  | trans _ _ ih1 ih2 => exact ih1.trans ih2
  | edge h => exact h1 _ _ h
  | same q1 q2 => exact h2 _ _ _ _ q1 q2 rfl
  | @cong i j x as bs q1 q2 hl' _ ih =>
    refine h2 _ _ _ _ q1 q2 ?_
    have e : as.map (fun a => ls.getD a 0) = bs.map (fun a => ls.getD a 0) := by
      refine List.ext_getElem? fun k => ?_
      rw [List.getElem?_map, List.getElem?_map]
      by_cases hk : k < as.length
      · have e1 := List.getElem?_eq_getElem (l := as) hk
        have e2 := List.getElem?_eq_getElem (l := bs) (show k < bs.length by omega)
        have := ih k _ _ e1 e2
        rw [e1, e2]
        show some (ls.getD _ 0) = some (ls.getD _ 0)
        rw [List.getD_eq_getElem?_getD, List.getD_eq_getElem?_getD, this]
      · rw [List.getElem?_eq_none (by omega), List.getElem?_eq_none (by omega)]
    show TM.of x _ = TM.of x _
    rw [e]
theorem good_id (n : Nat) : GoodL (List.range n) := fun k v h => by
  have hk : k < (List.range n).length := (List.getElem?_eq_some_iff.mp h).1
  rw [List.length_range] at hk
  rw [List.getElem?_range hk] at h
  cases h
  exact ⟨Nat.le_refl _, List.getElem?_range hk⟩
theorem sound_id (ts : List (TM S)) (es : List (Nat × Nat)) (n : Nat) : Sound ts es (List.range n) := fun k v h => by
  have hk : k < (List.range n).length := (List.getElem?_eq_some_iff.mp h).1
  rw [List.length_range] at hk
  rw [List.getElem?_range hk] at h
  cases h
  exact .refl _
end
end Sw
namespace L2
open PySem PySem.Spec PyProof.Rows

section
variable {X : Cx}
inductive J_call_range1V (xs : List V) (H : Hp) (Q : VK) : Prop
  | mk : ∀ (j : Int), (xs = [.int j]) → (∀ p, H p = none → Q (.ref p) (upd H p (.rng 0 j))) → J_call_range1V xs H Q
theorem call_range1V : CallR X (.type "range") (fun xs H Q => J_call_range1V xs H Q) := by
  intro pins s σ H xs us Q I r h
  obtain ⟨j, rfl, q⟩ := h
  obtain ⟨u, rfl, ru⟩ := vals1 r
  obtain ⟨t, rfl⟩ := ru
  exact call_range_1 ⟨.ref s.heap.objs.size, _, I.laid (a := s.heap.objs.size) (o := .rng 0 j) (fun _ _ q => Heap.get?_push_of_some _ q) (Nat.le_refl _) ⟨_, _, _, Heap.get?_push_size _ rfl⟩, rfl, q _ (I.hok.fresh (Nat.le_refl _))⟩
inductive J_call_list_rng (xs : List V) (H : Hp) (Q : VK) : Prop
  | mk : ∀ (p : Addr) (n : Nat), (xs = [.ref p]) → (H p = some (.rng 0 (n : Int))) → (n ≤ 1000000) → (∀ l, H l = none → Q (.ref l) (upd H l (.lst ((List.range n).map fun i : Nat => V.int (i : Int))))) → J_call_list_rng xs H Q
theorem call_list_rng (hc : X.calm = true) : CallR X (.type "list") (fun xs H Q => J_call_list_rng xs H Q) := by
  intro pins s σ H xs us Q I r h
  obtain ⟨p, n, rfl, hp, hn, q⟩ := h
  obtain ⟨u, rfl, ru⟩ := vals1 r
  cases (show u = Value.ref p from ru)
  obtain ⟨t, t', t'', e⟩ := (show ObjOk X.prog X.w H s.heap p (.rng 0 (n : Int)) from I.hok p _ hp)
  have hz : Builtin.Range.rangeSize 0 (n : Int) 1 = n := by rw [rangeSize_one]; split <;> omega
  refine call_list_range (I.ok.hd hc) e (small_one (by omega) (by omega) (by omega) (by omega)) hz (by omega) fun h' tk acc' c' kp hS hacc => ?_
  refine ⟨.ref s.heap.objs.size, _, I.laid kp (Nat.le_refl _) (show ObjOk X.prog X.w _ h' _ (.lst ((List.range n).map fun i : Nat => V.int (i : Int))) from ⟨?_, acc'.toList, c', ?_, by simpa using hS⟩), rfl, q _ (I.hok.fresh (Nat.le_refl _))⟩
  · rw [List.length_map, List.length_range]
    exact Nat.le_trans hn (by decide)
  · refine valsBy (by rw [List.length_map, List.length_range, Array.length_toList]; exact hacc.1.symm) fun j x v hx hv => ?_
    obtain ⟨t2, ht2⟩ := hacc.2 j v (by rw [← Array.getElem?_toList]; exact hv)
    rw [List.getElem?_map] at hx
    have hj : j < n := by
      have := (List.getElem?_eq_some_iff.mp hv).1
      rw [Array.length_toList, hacc.1] at this
      exact this
    rw [List.getElem?_range hj] at hx
    have ex : V.int ((j : Nat) : Int) = x := Option.some.inj hx
    rw [← ex, ht2]
    exact ⟨t2, by congr 1; omega⟩
where
  valsBy : ∀ {xs : List V} {us : List Value}, xs.length = us.length → (∀ (j : Nat) x u, xs[j]? = some x → us[j]? = some u → RelV x u) → Vals xs us
  | [], [], _, _ => .nil
  | [], _ :: _, h, _ => by cases h
  | _ :: _, [], h, _ => by cases h
  | x :: xs, u :: us, h, f => .cons (f 0 x u rfl rfl) (valsBy (by simpa using h) fun j a b ha hb => f (j + 1) a b (by simpa using ha) (by simpa using hb))
end
theorem un10 {k : Nat} {A : Around} (hr : Room k A) : A.units + 10 < cLine := by have := hr.un; omega
theorem un101 {k : Nat} {A : Around} (hr : Room k A) : A.units + 151 < cLine := by have := hr.un; omega
inductive J_op_mul_str0 (x : V) (y : V) (H : Hp) (Q : VK) : Prop
  | mk : ∀ z n, (x = .str z) → (y = .int n) → (0 ≤ n) → (n ≤ 1000) → (z.length ≤ 1000) → (Q (.str (timesS z n.toNat)) H) → J_op_mul_str0 x y H Q
theorem op_mul_str0 {X : Cx} : OpR X (binaryOp .Mult) (fun x y H Q => J_op_mul_str0 x y H Q) := by
  intro pins s σ H x y v u Q I rx ry h
  obtain ⟨z, n, rfl, rfl, h1, h2, h3, q⟩ := h
  by_cases h0 : n = 0
  · subst h0
    obtain ⟨t, rfl⟩ := rx
    obtain ⟨t', rfl⟩ := ry
    exact PySem.P.mul_str_none (by omega) (by omega) ⟨.str (timesS z 0), H, I.tok _, ⟨_, rfl⟩, q⟩
  · exact op_mul_str pins s σ H _ _ v u Q I rx ry ⟨z, n, rfl, rfl, by omega, h2, h3, q⟩
theorem compI_range {lo : Int} {n : Nat} {ct : TT} {te : TE} {σ : St} {caps : List (Str × Nat)} {H : Hp} {Q : VK} (f : Int → Option V) (hn : n ≤ 1000)
    (hel : ∀ (i : Nat), i < n → ∀ H', Same H H' → ∀ (R : Bool → Hp → Prop), (R (f (lo + i)).isSome H') → ct (some (.int (lo + i)) :: capt σ caps) H' R)
    (hev : ∀ (i : Nat) v, i < n → f (lo + i) = some v → ∀ H', Same H H' → ∀ Q' : VK, Q' v H' → te (some (.int (lo + i)) :: capt σ caps) H' Q')
    (hq : ∀ D, H D = none → Q (.ref D) (upd H D (.lst ((List.range n).filterMap fun i : Nat => f (lo + i))))) :
    CompBodyI (Itr lo n) (gName 0) ct te (List.replicate 1 none ++ capt σ caps) H Q := by
  intro D hD
  refine ⟨fun i m τ zs H' => m = n - i ∧ i ≤ n ∧ (∃ o, τ = o :: capt σ caps) ∧ zs = (List.range i).filterMap (fun i : Nat => f (lo + i)) ∧ H' = upd H D (.lst zs), ⟨n, by simp, Nat.zero_le _, ⟨none, rfl⟩, by simp, rfl⟩, ?_⟩
  rintro i m τ zs H' ⟨rfl, hi, ⟨o, rfl⟩, rfl, rfl⟩
  refine ⟨upd_same, ?_⟩
  have sm : ∀ zs, Same H (upd H D (.lst zs)) := fun zs => same_new hD _
  by_cases hlt : i < n
  · refine .inr ⟨hlt, ?_, fun x H'' y => ?_⟩
    · refine small1000 (Nat.le_trans (List.length_filterMap_le _ _) ?_)
      rw [List.length_range]; omega
    obtain ⟨e, e2⟩ := y
    subst e e2
    show ct (some (.int (lo + (i : Int))) :: capt σ caps) _ _
    refine hel i hlt _ (sm _) _ ?_
    have step : (List.range (i + 1)).filterMap (fun i : Nat => f (lo + i)) = (List.range i).filterMap (fun i : Nat => f (lo + i)) ++ (match f (lo + i) with | some v => [v] | none => []) := by
      rw [List.range_succ, List.filterMap_append]
      congr 1
      rw [List.filterMap_cons, List.filterMap_nil]
      cases f (lo + (i : Int)) <;> rfl
    cases e : f (lo + (i : Int)) with
    | none =>
      rw [e] at step
      refine ⟨n - (i + 1), by omega, rfl, hlt, ⟨_, rfl⟩, ?_, rfl⟩
      rw [step, List.append_nil]
    | some v =>
      rw [e] at step
      refine hev i v hlt e _ (sm _) _ ?_
      refine ⟨upd_same, n - (i + 1), by omega, rfl, hlt, ⟨_, rfl⟩, step.symm, ?_⟩
      rw [upd_upd]
  · have e : i = n := by omega
    subst e
    exact .inl ⟨Nat.le_refl _, hq D hD⟩
end L2
namespace Sw
open PySem L2
noncomputable abbrev Tm := TM Str
noncomputable abbrev nV (n : Nat) : V := V.int (n : Int)
noncomputable def IsTm (H : Hp) : Tm → V → Prop
  | .num n, v => ∃ a, v = .ref a ∧ H a = some (.tup [.str "num", .int n])
  | .name x, v => ∃ a, v = .ref a ∧ H a = some (.tup [.str "name", .str x])
  | .of x as, v => ∃ a b, v = .ref a ∧ H a = some (.tup [.str "of", .str x, .ref b]) ∧ H b = some (.tup (as.map nV))
theorem IsTm.keep {H H' : Hp} (ht : ∀ b ys, H b = some (.tup ys) → H' b = some (.tup ys)) : ∀ {t : Tm} {v : V}, IsTm H t v → IsTm H' t v
  | .num n, v, h => by obtain ⟨a, e, h⟩ := h; exact ⟨a, e, ht _ _ h⟩
  | .name x, v, h => by obtain ⟨a, e, h⟩ := h; exact ⟨a, e, ht _ _ h⟩
  | .of x as, v, h => by obtain ⟨a, b, e, h, h2⟩ := h; exact ⟨a, b, e, ht _ _ h, ht _ _ h2⟩
theorem IsTm.same {H H' : Hp} {t : Tm} {v : V} (sm : Same H H') (h : IsTm H t v) : IsTm H' t v := h.keep fun b ys => sm _ _
noncomputable abbrev Tms (H : Hp) : List V → List Tm → Prop := Paired fun v t => IsTm H t v
theorem tms_keep {H H' : Hp} {us : List V} {ts : List Tm} (ht : ∀ b ys, H b = some (.tup ys) → H' b = some (.tup ys)) (h : Tms H us ts) : Tms H' us ts := Paired.mapP h fun _ _ z => z.keep ht
theorem tms_same {H H' : Hp} {us : List V} {ts : List Tm} (sm : Same H H') (h : Tms H us ts) : Tms H' us ts := tms_keep (fun b ys => sm _ _) h
theorem tms_at {H : Hp} : ∀ {us : List V} {ts : List Tm} {i : Nat} {v : V}, Tms H us ts → us[i]? = some v → ∃ t, ts[i]? = some t ∧ IsTm H t v
  | _, _, _, _, .nil, e => by simp at e
  | _, _, 0, _, .cons h _, e => by simp at e; subst e; exact ⟨_, rfl, h⟩
  | _, _, i + 1, v, .cons _ r, e => by
    obtain ⟨t, e', h⟩ := tms_at (i := i) (v := v) r (by simpa using e)
    exact ⟨t, by simpa using e', h⟩
theorem tms_snoc {H : Hp} {us : List V} {ts : List Tm} {v : V} {t : Tm} (h : Tms H us ts) (q : IsTm H t v) : Tms H (us ++ [v]) (ts ++ [t]) := Paired.snoc h q
noncomputable def tmNK : Tm → NK
  | .num n => [.inl (.inr "num"), .inl (.inl n)]
  | .name x => [.inl (.inr "name"), .inl (.inr x)]
  | .of x as => [.inl (.inr "of"), .inl (.inr x), .inr (as.map fun n : Nat => (.inl (n : Int) : Key))]
theorem tmNK_inj : ∀ {t u : Tm}, tmNK t = tmNK u → t = u
  | .num n, .num m, e => by unfold tmNK at e; simp at e; rw [e]
  | .name x, .name y, e => by unfold tmNK at e; simp at e; rw [e]
  | .of x as, .of y bs, e => by
    unfold tmNK at e
    simp only [List.cons.injEq, Sum.inl.injEq, Sum.inr.injEq, and_true, true_and] at e
    rw [e.1]
    have := map_inj_of (f := fun n : Nat => (.inl (n : Int) : Key)) (fun a b h => by have h := Sum.inl.inj h; omega) e.2
    rw [this]
  | .num n, .name y, e => by
    unfold tmNK at e
    simp only [List.cons.injEq, Sum.inl.injEq, Sum.inr.injEq] at e
    exact absurd e.1 (by decide)
  | .name n, .num y, e => by
    unfold tmNK at e
    simp only [List.cons.injEq, Sum.inl.injEq, Sum.inr.injEq] at e
    exact absurd e.1 (by decide)
  | .num n, .of y bs, e => by unfold tmNK at e; simp at e
  | .name n, .of y bs, e => by unfold tmNK at e; simp at e
  | .of y bs, .num n, e => by unfold tmNK at e; simp at e
  | .of y bs, .name n, e => by unfold tmNK at e; simp at e
theorem nV_kV (as : List Nat) : as.map nV = (as.map fun n : Nat => (.inl (n : Int) : Key)).map kV := by
  rw [List.map_map]; rfl
theorem IsTm.key {H : Hp} : ∀ {t : Tm} {v : V}, IsTm H t v → ∃ b, v = .ref b ∧ NKey H (tmNK t) b
  | .num n, v, h => by
    obtain ⟨a, e, h⟩ := h
    refine ⟨a, e, _, h, ?_⟩
    exact ⟨_, rfl, _, rfl, rfl⟩
  | .name x, v, h => by
    obtain ⟨a, e, h⟩ := h
    refine ⟨a, e, _, h, ?_⟩
    exact ⟨_, rfl, _, rfl, rfl⟩
  | .of x as, v, h => by
    obtain ⟨a, b, e, h, h2⟩ := h
    refine ⟨a, e, _, h, ?_⟩
    rw [nV_kV] at h2
    exact ⟨_, rfl, _, rfl, b, _, rfl, h2, rfl⟩
noncomputable def tmD : Tm → D
  | .num n => .tup [.str "num", .int n]
  | .name x => .tup [.str "name", .str x]
  | .of x as => .tup [.str "of", .str x, .tup (as.map fun n : Nat => .int (n : Int))]
theorem dens_ints {H : Hp} : ∀ as : List Nat, Dens H (as.map fun n : Nat => D.int (n : Int)) (as.map nV)
  | [] => by rw [List.map_nil, List.map_nil]; exact dens_nil
  | a :: as => by rw [List.map_cons, List.map_cons]; exact dens_cons (by rw [Den]; exact .inl rfl) (dens_ints as)
theorem IsTm.den {H : Hp} : ∀ {t : Tm} {v : V}, IsTm H t v → Den H (tmD t) v
  | .num n, v, h => by
    obtain ⟨a, e, h⟩ := h
    rw [tmD, Den]
    exact ⟨a, _, e, h, dens_cons (by rw [Den]) (dens_cons (by rw [Den]; exact .inl rfl) dens_nil)⟩
  | .name x, v, h => by
    obtain ⟨a, e, h⟩ := h
    rw [tmD, Den]
    exact ⟨a, _, e, h, dens_cons (by rw [Den]) (dens_cons (by rw [Den]) dens_nil)⟩
  | .of x as, v, h => by
    obtain ⟨a, b, e, h, h2⟩ := h
    rw [tmD, Den]
    exact ⟨a, _, e, h, dens_cons (by rw [Den]) (dens_cons (by rw [Den]) (dens_cons (by rw [Den]; exact ⟨b, _, rfl, h2, dens_ints as⟩) dens_nil))⟩
theorem tms_den {H : Hp} {us : List V} {ts : List Tm} (h : Tms H us ts) : Dens H (ts.map tmD) us := by
  induction h with
  | nil => exact dens_nil
  | cons h _ ih => rw [List.map_cons]; exact dens_cons h.den ih
theorem ints_deep : ∀ as : List Nat, D.deeps (as.map fun n : Nat => D.int (n : Int)) = 0
  | [] => by rw [List.map_nil, D.deeps]
  | a :: as => by rw [List.map_cons, D.deeps, ints_deep as, D.deep]; rfl
theorem tm_deep : ∀ t : Tm, (tmD t).deep ≤ 2
  | .num n => by rw [tmD, D.deep, D.deeps, D.deeps, D.deeps, D.deep, D.deep]; decide
  | .name n => by rw [tmD, D.deep, D.deeps, D.deeps, D.deeps, D.deep, D.deep]; decide
  | .of x as => by rw [tmD, D.deep, D.deeps, D.deeps, D.deeps, D.deeps, D.deep, D.deep, D.deep, ints_deep]; decide
theorem tms_deep : ∀ ts : List Tm, D.deeps (ts.map tmD) ≤ 2
  | [] => by rw [List.map_nil, D.deeps]; omega
  | t :: ts => by rw [List.map_cons, D.deeps]; have := tms_deep ts; have := tm_deep t; omega
theorem tmD_inj : ∀ {t u : Tm}, tmD t = tmD u → t = u
  | .num n, .num m, e => by unfold tmD at e; simp at e; rw [e]
  | .name x, .name y, e => by unfold tmD at e; simp at e; rw [e]
  | .of x as, .of y bs, e => by
    unfold tmD at e
    simp only [D.tup.injEq, List.cons.injEq, D.str.injEq, and_true, true_and] at e
    rw [e.1]
    have := map_inj_of (f := fun n : Nat => D.int (n : Int)) (fun a b h => by have h := D.int.inj h; omega) e.2
    rw [this]
  | .num n, .name y, e => by
    unfold tmD at e
    simp only [D.tup.injEq, List.cons.injEq, D.str.injEq] at e
    exact absurd e.1 (by decide)
  | .name n, .num y, e => by
    unfold tmD at e
    simp only [D.tup.injEq, List.cons.injEq, D.str.injEq] at e
    exact absurd e.1 (by decide)
  | .num n, .of y bs, e => by unfold tmD at e; simp at e
  | .name n, .of y bs, e => by unfold tmD at e; simp at e
  | .of y bs, .num n, e => by unfold tmD at e; simp at e
  | .of y bs, .name n, e => by unfold tmD at e; simp at e
noncomputable def But (L : Addr) (H H' : Hp) : Prop := ∀ c o, c ≠ L → H c = some o → H' c = some o
theorem But.refl (L : Addr) (H : Hp) : But L H H := fun _ _ _ h => h
theorem But.trans {L : Addr} {H H1 H2 : Hp} (a : But L H H1) (b : But L H1 H2) : But L H H2 := fun c o n h => b c o n (a c o n h)
theorem But.same {L : Addr} {H H1 H2 : Hp} (a : But L H H1) (b : Same H1 H2) : But L H H2 := fun c o n h => b c o (a c o n h)
theorem But.put {L : Addr} {H H1 : Hp} {o : HO} (a : But L H H1) : But L H (upd H1 L o) := fun c u n h => by rw [upd_ne n]; exact a c u n h
theorem But.new {L p : Addr} {H H1 : Hp} {o : HO} (a : But L H H1) (hp : H p = none) : But L H (upd H1 p o) := fun c u n h => by rw [upd_ne (ne_of_none h hp)]; exact a c u n h
theorem But.tup {L : Addr} {H H1 : Hp} {ls : List V} (a : But L H H1) (hL : H L = some (.lst ls)) : ∀ b ys, H b = some (.tup ys) → H1 b = some (.tup ys) := fun b ys h => a b _ (ne_of h hL (fun z => nomatch z)) h
noncomputable def EdgeAt (H : Hp) (v : V) (e : Nat × Nat) : Prop := ∃ a rest, v = .ref a ∧ H a = some (.tup (nV e.1 :: nV e.2 :: rest))
theorem EdgeAt.keep {H H' : Hp} {v : V} {e : Nat × Nat} (ht : ∀ b ys, H b = some (.tup ys) → H' b = some (.tup ys)) (h : EdgeAt H v e) : EdgeAt H' v e := by
  obtain ⟨a, r, z, h⟩ := h
  exact ⟨a, r, z, ht _ _ h⟩
noncomputable abbrev Edges (H : Hp) : List V → List (Nat × Nat) → Prop := Paired (EdgeAt H)
theorem edges_keep {H H' : Hp} {us : List V} {es : List (Nat × Nat)} (ht : ∀ b ys, H b = some (.tup ys) → H' b = some (.tup ys)) (h : Edges H us es) : Edges H' us es := Paired.mapP h fun _ _ z => z.keep ht
theorem edges_at {H : Hp} : ∀ {us : List V} {ts : List (Nat × Nat)} {i : Nat} {v : V}, Edges H us ts → us[i]? = some v → ∃ t, ts[i]? = some t ∧ EdgeAt H v t
  | _, _, _, _, .nil, e => by simp at e
  | _, _, 0, _, .cons h _, e => by simp at e; subst e; exact ⟨_, rfl, h⟩
  | _, _, i + 1, v, .cons _ r, e => by
    obtain ⟨t, e', h⟩ := edges_at (i := i) (v := v) r (by simpa using e)
    exact ⟨t, by simpa using e', h⟩
theorem rd_cut {t rest : TS} {D : Ends} {σ : St} {H : Hp} (R : St → Hp → Prop) (key : ∀ σ' H', R σ' H' → rest D σ' H') (h : ∀ {N : St → Hp → Prop}, (∀ σ' H', R σ' H' → N σ' H') → t { D with nx := N } σ H) : tSeq t rest D σ H := h key
theorem nV_at {ls : List Nat} {k v : Nat} (h : ls[k]? = some v) : atI (ls.map nV) (k : Int) = some (nV v) := atI_nat (by rw [List.getElem?_map, h]; rfl)
theorem nV_set {ls : List Nat} {k v : Nat} : (ls.map nV).set k (nV v) = (ls.set k v).map nV := by rw [List.map_set]
noncomputable def TsOk (ts : List Tm) : Prop := Arms ts ∧ (∀ (i : Nat) x as, ts[i]? = some (.of x as) → as.length ≤ 4 ∧ 1 ≤ as.length) ∧ ts.Nodup
theorem tsok_nil : TsOk [] := ⟨fun i x as h => by simp at h, fun i x as h => by simp at h, List.nodup_nil⟩
theorem cutV_mem {xs : List V} {lo hi : Option Int} {x : V} (h : x ∈ cutV xs lo hi) : x ∈ xs := List.mem_of_mem_drop (List.mem_of_mem_take h)
theorem paired_app {α β : Type} {R : α → β → Prop} : ∀ {xs xs' : List α} {ys ys' : List β}, Paired R xs ys → Paired R xs' ys' → Paired R (xs ++ xs') (ys ++ ys')
  | _, _, _, _, .nil, h => h
  | _, _, _, _, .cons h r, q => .cons h (paired_app r q)
theorem getD_at {ls : List Nat} {k : Nat} (h : k < ls.length) : ls[k]? = some (ls.getD k 0) := by rw [List.getD_eq_getElem?_getD, List.getElem?_eq_getElem h]; rfl
theorem den_leads {H : Hp} {L : Addr} {ls : List Nat} (h : H L = some (.lst (ls.map nV))) : Den H (.lst (ls.map fun n : Nat => D.int (n : Int))) (.ref L) := by rw [Den]; exact ⟨L, _, rfl, h, dens_ints ls⟩
end Sw
namespace L2
open PySem PySem.Spec PyProof.Rows

section
variable {prog : Program} {w : World} {K : Type} [DecidableEq K] {knd : HeapKind prog w K} {A : Around} {E : Value → Shared → Prop} {s : Shared} {d : Addr} {xs : List (K × Addr × Value)}
end
section
variable {X : Cx} {pins : List (Addr × Obj)} {σ : St} {H : Hp} {s : Shared} {a b : Addr} {kvs kvs' : List (NK × V)} {k : NK} {y v : V} {u r : Value} {A : Around} {E : Value → Shared → Prop}
theorem KN.repl {xs : List (NK × Addr × Value)} (r : KN H kvs xs) (k : NK) {y : V} {u : Value} (ry : RelV y u) :
    KN H (kvs.map fun kv => if kv.1 = k then (kv.1, y) else kv) (xs.map (putAt k u)) := by
  induction r with
  | nil => exact .nil
  | @cons p q ps qs h t ih =>
    rw [List.map_cons, List.map_cons]
    refine .cons ?_ ih
    obtain ⟨h1, h2, h3⟩ := h
    unfold putAt
    by_cases e : p.1 = k
    · rw [if_pos e, if_pos (h1.symm.trans e)]; exact ⟨h1, h2, ry⟩
    · rw [if_neg e, if_neg (fun z => e (h1.trans z))]; exact ⟨h1, h2, h3⟩
theorem KN.put {xs : List (NK × Addr × Value)} (r : KN H kvs xs) (k : NK) {b : Addr} {y : V} {u : Value} (hb : NKey H k b) (ry : RelV y u) :
    KN H (putK kvs k y) (storedH xs k b u) := by
  have e : (kvs.any fun kv => decide (kv.1 = k)) = (atKey xs k).isSome := by
    rw [valV_any, (r.val k).isSome_eq, Option.isSome_map]
  unfold putK storedH
  rw [e]
  by_cases q : (atKey xs k).isSome = true
  · rw [if_pos q, if_pos q]; exact r.repl k ry
  · rw [if_neg q, if_neg q]; exact Paired.snoc r ⟨rfl, hb, ry⟩
theorem dn_notIn {Q : Value → Shared → Prop} (hu : A.units + 10 < cLine) (I : Inv X pins σ H s) (d : DN X.prog X.w H a kvs) (nk : NKey H k b) (h : ∀ s', Inv X pins σ H s' → Q (.bool (!(valV kvs k).isSome)) s') :
    wpAny (model X.prog X.w) A (compareOp .NotIn (.ref b) (.ref a)) Q E s := by
  obtain ⟨z, hd, xs, rel, dd⟩ := dn_rd I.hok d
  refine wpAny_notIn_heap (show A.units + 1 + 5 < cLine by omega) (nkey_of I.hok nk) hd dd ?_
  have q := (rel.val k).isSome_eq
  rw [Option.isSome_map] at q
  rw [← q]
  exact h _ (I.tok _)
theorem dn_setItem {Q : Unit → Shared → Prop} (hu : A.units + 10 < cLine) (I : Inv X pins σ H s) (d : DN X.prog X.w H a kvs) (nk : NKey H k b) (rv : RelV v r) (hl : kvs.length < sizeLine)
    (h : ∀ φ s', Inv X pins σ (upd H a (.ext φ)) s' → DN X.prog X.w (upd H a (.ext φ)) a (putK kvs k v) → Q () s') :
    wpAny (model X.prog X.w) A (setItem (.ref a) (.ref b) r) Q E s := by
  obtain ⟨z, hd, xs, rel, dd⟩ := dn_rd I.hok d
  have hz : xs.length ≤ sizeLine := by rw [← Paired.length rel]; exact z
  have hl' : (putK kvs k v).length ≤ sizeLine := by have := length_putK kvs k v; omega
  refine wpAny_setItem_heap (hsz := hz) (show A.units + 1 + 5 < cLine by omega) (nkey_of I.hok nk) dd fun h' dd' hs => ?_
  obtain ⟨φ, I', d'⟩ := dn_write (t' := s.toks + (nkKind X.prog X.w).draws k) I d hs dd' (rel.put k nk rv) hl'
  exact h φ _ I' d'
theorem dn_get1 {Q : Value → Shared → Prop} (hu : A.units + 10 < cLine) (I : Inv X pins σ H s) (d : DN X.prog X.w H a kvs) (nk : NKey H k b) (h : ∀ w' s', Inv X pins σ H s' → RelV ((valV kvs k).getD .non) w' → Q w' s') :
    wpAny (model X.prog X.w) A (call (.builtin "dict.get") [.ref a, .ref b]) Q E s := by
  obtain ⟨z, hd, xs, rel, dd⟩ := dn_rd I.hok d
  exact call_meetsIn PySem.F.slot_dict_get dd.typeIs PySem.F.entry_dict_get (PySem.F.args_dict_get_2 _ _) (meetsH_dict_get (nkKind X.prog X.w) a b hd) ⟨(show A.units + 1 + 5 < cLine by omega), k, xs, nkey_of I.hok nk, dd, h _ _ (I.tok _) ((rel.val k).getD rfl)⟩
end
inductive J_tNNotIn (P : Program) (w : World) (Q : VK) (y : V) (x : V) (H2 : Hp) : Prop
  | mk : ∀ a b kvs k, (x = .ref a) → (y = .ref b) → (DN P w H2 a kvs) → (NKey H2 k b) → (Q (.bl (!(valV kvs k).isSome)) H2) → J_tNNotIn P w Q y x H2
noncomputable def tNNotIn (P : Program) (w : World) (ty td : TE) : TE := fun σ H Q => ty σ H fun y H1 => td σ H1 fun x H2 => J_tNNotIn P w Q y x H2
inductive J_sNPut (P : Program) (w : World) (D : Ends) (σ : St) (v : V) (x : V) (y : V) (H3 : Hp) : Prop
  | mk : ∀ a b kvs k, (x = .ref a) → (y = .ref b) → (DN P w H3 a kvs) → (NKey H3 k b) → (kvs.length < sizeLine) → (∀ φ, DN P w (upd H3 a (.ext φ)) a (putK kvs k v) → D.nx σ (upd H3 a (.ext φ))) → J_sNPut P w D σ v x y H3
noncomputable def sNPut (P : Program) (w : World) (td ty tv : TE) : TS := fun D σ H => tv σ H fun v H1 => td σ H1 fun x H2 => ty σ H2 fun y H3 => J_sNPut P w D σ v x y H3
inductive J_tNGet1 (P : Program) (w : World) (ty : TE) (σ : St) (Q : VK) (x : V) (H1 : Hp) : Prop
  | mk : ∀ a, (x = .ref a) → ((∃ kvs, DN P w H1 a kvs)) → (ty σ H1 fun y H2 => ∃ b kvs k, y = .ref b ∧ DN P w H2 a kvs ∧ NKey H2 k b ∧ Q ((valV kvs k).getD .non) H2) → J_tNGet1 P w ty σ Q x H1
noncomputable def tNGet1 (P : Program) (w : World) (td ty : TE) : TE := fun σ H Q => td σ H fun x H1 => J_tNGet1 P w ty σ Q x H1
section
variable {X : Cx} {o i e f value : Expr} {pos pos' apos cpos : Pos} {td ty tv : TE}
theorem pc_nnotin (hu : X.A.units + 10 < cLine) (hi : PE X i ty) (ho : PE X o td) : PC X .NotIn i o (tNNotIn X.prog X.w ty td) := by
  intro pins s σ H Q I h
  refine thn (hi pins s σ H _ I h) fun iv s1 ⟨y, H1, I1, ry, q1⟩ => thn (ho pins s1 σ H1 _ I1 q1) fun u s2 ⟨x, H2, I2, rx, a, b, kvs, k, ex, ey, d, nk, q2⟩ => ?_
  subst ex ey
  obtain rfl : u = Value.ref a := rx
  obtain rfl : iv = Value.ref b := ry
  exact dn_notIn hu I2 d nk fun s3 I3 => ⟨.bl (!(valV kvs k).isSome), H2, I3, rfl, q2⟩
theorem ps_nput (hu : X.A.units + 10 < cLine) (ho : PE X o td) (hi : PE X i ty) (hv : PE X value tv) (hs : swapsWith value (some (.Subscript o i pos')) pos.line X.env = pure false) :
    PS X (.Assign [.Subscript o i pos'] value pos) (sNPut X.prog X.w td ty tv) := by
  intro pins s σ H D I h
  refine wpAny_Assign_Subscript (thn (hv pins s σ H _ I h) fun r s1 ⟨v, H1, I1, rv, q1⟩ => thn (ho pins s1 σ H1 _ I1 q1) fun u s2 ⟨x, H2, I2, rx, q2⟩ => thn (hi pins s2 σ H2 _ I2 q2) fun iv s3 ⟨y, H3, I3, ry, a, b, kvs, k, ex, ey, d, nk, hl, q3⟩ => ?_) hs
  subst ex ey
  obtain rfl : u = Value.ref a := rx
  obtain rfl : iv = Value.ref b := ry
  exact dn_setItem hu I3 d nk rv hl fun φ s4 I4 d4 => ⟨σ, _, I4, q3 φ d4⟩
theorem pe_nget1 (hu : X.A.units + 10 < cLine) (ho : PE X o td) (he : PE X e ty) (m : M1 X o "get" apos e cpos) : PE X (.Call (.Attribute o "get" apos) [e] [] cpos) (tNGet1 X.prog X.w td ty) := by
  intro pins s σ H Q I h
  refine wpAny_Call_method m.base m.few m.line PySem.F.plainAttrs_dict PySem.F.slot_dict_get PySem.F.type_dict_get (thn (ho pins s σ H _ I h) fun u s1 ⟨x, H1, I1, rx, a, ex, d, q1⟩ => ?_)
  subst ex
  obtain rfl : u = Value.ref a := rx
  obtain ⟨t1, t2, _⟩ := isN_at I1 d
  refine ⟨t1, t2, ?_⟩
  rw [m.trees]
  refine Calls.callWith_builtin rfl (Calls.evalArgs_plain (Calls.spliced_cons (thn (he pins s1 σ H1 _ I1 q1) fun iv s2 ⟨y, H2, I2, ry, b, kvs, k, ey, d2, nk, q2⟩ => Calls.spliced_nil ?_)))
  subst ey
  obtain rfl : iv = Value.ref b := ry
  exact dn_get1 hu I2 d2 nk fun w' s3 I3 rw' => ⟨_, H2, I3, rw', q2⟩
inductive J_call_lenK (xs : List V) (H : Hp) (Q : VK) : Prop
  | mk : ∀ p kvs, (xs = [.ref p]) → (H p = some (.dK kvs)) → (Q (.int kvs.length) H) → J_call_lenK xs H Q
theorem call_lenK : CallR X (.builtin "len") (fun xs H Q => J_call_lenK xs H Q) := by
  intro pins s σ H xs us Q I r h
  obtain ⟨p, kvs, rfl, d, q⟩ := h
  obtain ⟨u, rfl, ru⟩ := vals1 r
  cases ru
  exact d_len I (.inl d) fun t s' I' => ⟨.int kvs.length, H, I', ⟨t, rfl⟩, q⟩
end
end L2
namespace L2
open PySem PySem.Spec PyProof.Rows

section
variable {X : Cx}
variable {o : Expr} {apos cpos : Pos} {td : TE}
end
noncomputable def DXo (P : Program) (w : World) (a : Addr) (o : Obj) (kvs : List (Key × V)) : Prop := kvs.length ≤ sizeLine ∧ (a == sysModules) = false ∧ ∃ (vs : List (Key × Value)) (ep : Nat), KV kvs vs ∧ ∀ h : Heap, h.get? a = some o → h.DictAt (mixKind P w) a vs ep
noncomputable def Ext (a : Addr) (o : Obj) : HO := .ext fun h => h.get? a = some o
theorem Inv.freeze {X : Cx} {pins : List (Addr × Obj)} {σ : St} {H : Hp} {s : Shared} {a : Addr} {kvs : List (Key × V)} (I : Inv X pins σ H s) (e : H a = some (.dK kvs)) : ∃ o, DXo X.prog X.w a o kvs ∧ Inv X pins σ (upd H a (Ext a o)) s := by
  obtain ⟨z, hd, vs, rel, dd⟩ := dk_of I.hok e
  obtain ⟨o, es, ep, ho, r⟩ := dd
  refine ⟨o, ⟨z, hd, vs, ep, rel, fun h hh => ⟨o, es, hh, r⟩⟩, ?_⟩
  exact d_write (h' := s.heap) (t' := s.toks) I (by rw [e]; exact True.intro) (Heap.SameBut.refl _ _) ⟨o, ho⟩ (ext_ok ho)
theorem dx_rd {P : Program} {w : World} {H : Hp} {h : Heap} {a : Addr} {o : Obj} (ok : HOk P w H h) (e : H a = some (Ext a o)) : h.get? a = some o := (show ObjOk P w H h a (.ext fun h => h.get? a = some o) from ok a _ e).1
section
variable {X : Cx} {tg l : Expr} {tl : TE}
end
end L2
namespace L2
open PySem PySem.Spec PyProof.Rows

section
variable {X : Cx} {pins : List (Addr × Obj)} {σ : St} {H : Hp} {s : Shared} {a : Addr} {kvs : List (Key × V)} {k : Key} {v : V} {u r : Value} {A : Around} {E : Value → Shared → Prop}
theorem dk_setdefault {Q : Value → Shared → Prop} (I : Inv X pins σ H s) (e : H a = some (.dK kvs)) (ry : RelV (kV k) u) (rv : RelV v r) (hl : kvs.length < sizeLine)
    (h1 : ∀ v' w' s', valV kvs k = some v' → RelV v' w' → Inv X pins σ H s' → Q w' s') (h2 : valV kvs k = none → ∀ s', Inv X pins σ (upd H a (.dK (kvs ++ [(k, v)]))) s' → Q r s') :
    wpAny (model X.prog X.w) A (call (.builtin "dict.setdefault") [.ref a, u, r]) Q E s := by
  obtain ⟨z, hd, vs, rel, dd⟩ := dk_of I.hok e
  have hz : vs.length ≤ sizeLine := by rw [← rel.length]; exact z
  have ro := rel.val k
  refine call_meetsIn PySem.F.slot_dict_setdefault dd.typeIs PySem.F.entry_dict_setdefault (PySem.F.args_dict_setdefault_3 _ _ _) (kt_meets_setdefault (mixKind X.prog X.w) a (kV_is ry) hd r) ?_
  refine ⟨vs, dd, hz, fun w' hw => ?_, fun hn h' dd' hs => ?_⟩
  · rw [hw] at ro
    cases e : valV kvs k with
    | none => rw [e] at ro; exact ro.elim
    | some v' => rw [e] at ro; exact h1 v' _ _ e ro (I.tok _)
  · rw [hn] at ro
    cases e' : valV kvs k with
    | some v' => rw [e'] at ro; exact ro.elim
    | none =>
      refine h2 e' _ ?_
      have he : ∃ q, h'.get? a = some q := let ⟨q, _, _, hq, _⟩ := dd'; ⟨q, hq⟩
      have hp := rel.put k rv
      rw [putK_new v e'] at hp
      exact d_write I (by rw [e]; exact True.intro) hs he (dk_new (by rw [List.length_append]; exact hl) hd hp dd')
end
noncomputable def tSetK (td ty tx : TE) : TE := fun σ H Q => td σ H fun x H1 => ∃ a, x = .ref a ∧ IsD H1 a ∧ ty σ H1 fun y H2 => tx σ H2 fun z H3 => ∃ kvs k, H3 a = some (.dK kvs) ∧ y = kV k ∧ kvs.length < sizeLine ∧
  (∀ v, valV kvs k = some v → Q v H3) ∧ (valV kvs k = none → Q z (upd H3 a (.dK (kvs ++ [(k, z)]))))
section
variable {X : Cx} {o e f : Expr} {apos cpos : Pos} {td ty tx : TE}
theorem pe_setK (ho : PE X o td) (he : PE X e ty) (hf : PE X f tx) (m : M2 X o "setdefault" apos e f cpos) : PE X (.Call (.Attribute o "setdefault" apos) [e, f] [] cpos) (tSetK td ty tx) := by
  intro pins s σ H Q I h
  refine wpAny_Call_method m.base m.few m.line PySem.F.plainAttrs_dict PySem.F.slot_dict_setdefault PySem.F.type_dict_setdefault (thn (ho pins s σ H _ I h) fun u s1 ⟨x, H1, I1, rx, a, ex, d, q1⟩ => ?_)
  subst ex
  obtain rfl : u = Value.ref a := rx
  obtain ⟨t1, t2, _⟩ := isD_at I1 d
  refine ⟨t1, t2, ?_⟩
  rw [m.trees]
  refine Calls.callWith_builtin rfl (Calls.evalArgs_plain (Calls.spliced_cons (thn (he pins s1 σ H1 _ I1 q1) fun iv s2 ⟨y, H2, I2, ry, q2⟩ =>
    Calls.spliced_cons (thn (hf pins s2 σ H2 _ I2 q2) fun fv s3 ⟨z, H3, I3, rz, kvs, k, d3, ey, hl, q3, q4⟩ => Calls.spliced_nil ?_))))
  subst ey
  exact dk_setdefault I3 d3 ry rz hl (fun v' w' s4 e4 r4 I4 => ⟨v', H3, I4, r4, q3 v' e4⟩) fun hn s4 I4 => ⟨z, _, I4, rz, q4 hn⟩
end
theorem boot_dict_ : bootBuiltins "dict" = some (.type "dict") := by decide +kernel
end L2
namespace Sw
open PySem L2
noncomputable def newAt (ms : List Tm) (k : Nat) : Bool := match ms[k]? with | some m => !decide (tmD m ∈ (ms.take k).map tmD) | none => false
noncomputable def firstsF (ms : List Tm) (n : Nat) : List Nat := (List.range n).filter (newAt ms)
theorem firsts_succ (ms : List Tm) (n : Nat) : firstsF ms (n + 1) = firstsF ms n ++ (if newAt ms n then [n] else []) := by
  unfold firstsF
  rw [List.range_succ, List.filter_append]
  congr 1
  cases h : newAt ms n <;> simp [h]
theorem firsts_len (ms : List Tm) (n : Nat) : (firstsF ms n).length ≤ n := by
  have := List.length_filter_le (newAt ms) (List.range n)
  rwa [List.length_range] at this
theorem firsts_lt {ms : List Tm} {n k : Nat} (h : k ∈ firstsF ms n) : k < n := List.mem_range.mp (List.mem_filter.mp h).1
theorem new_false {ms : List Tm} {n : Nat} {m : Tm} (h : ms[n]? = some m) : newAt ms n = false ↔ ∃ i, i < n ∧ ms[i]? = some m := by
  unfold newAt
  rw [h]
  show (!decide (tmD m ∈ (ms.take n).map tmD)) = false ↔ _
  rw [Bool.not_eq_false', decide_eq_true_iff]
  constructor
  · intro z
    obtain ⟨m', hm', e⟩ := List.mem_map.mp z
    have e := tmD_inj e
    subst e
    obtain ⟨i, hi⟩ := List.mem_iff_getElem?.mp hm'
    rw [List.getElem?_take] at hi
    split at hi
    · exact ⟨i, by assumption, hi⟩
    · cases hi
  · rintro ⟨i, hi, e⟩
    refine List.mem_map.mpr ⟨m, List.mem_iff_getElem?.mpr ⟨i, ?_⟩, rfl⟩
    rw [List.getElem?_take, if_pos hi]; exact e
noncomputable abbrev Row := Nat × List Nat
noncomputable def lookR (ps : List Row) (l : Nat) : Option (List Nat) := (ps.find? fun p => decide (p.1 = l)).map (·.2)
noncomputable def putR (ps : List Row) (l : Nat) (zs : List Nat) : List Row := if (ps.any fun p => decide (p.1 = l)) = true then ps.map (fun p => if p.1 = l then (p.1, zs) else p) else ps ++ [(l, zs)]
noncomputable def addR (ps : List Row) (l k : Nat) : List Row := putR ps l ((lookR ps l).getD [] ++ [k])
noncomputable def rowsF (ls fs : List Nat) : List Row := fs.foldl (fun ps k => addR ps (ls.getD k 0) k) []
theorem rows_snoc (ls fs : List Nat) (k : Nat) : rowsF ls (fs ++ [k]) = addR (rowsF ls fs) (ls.getD k 0) k := by unfold rowsF; rw [List.foldl_append]; rfl
theorem putR_keys (ps : List Row) (l : Nat) (zs : List Nat) (h : (ps.map (·.1)).Nodup) : ((putR ps l zs).map (·.1)).Nodup := by
  unfold putR
  split
  · have e : (ps.map (fun p => if p.1 = l then (p.1, zs) else p)).map (·.1) = ps.map (·.1) := by
      rw [List.map_map]
      refine List.map_congr_left fun p _ => ?_
      show (if p.1 = l then (p.1, zs) else p).1 = p.1
      split <;> rfl
    rw [e]; exact h
  · rename_i q
    rw [List.map_append, List.nodup_append]
    refine ⟨h, by simp, ?_⟩
    intro a ha b hb e
    simp only [List.map_cons, List.map_nil, List.mem_singleton] at hb
    obtain ⟨p, hp, rfl⟩ := List.mem_map.mp ha
    exact q (List.any_eq_true.mpr ⟨p, hp, decide_eq_true (e.trans hb)⟩)
theorem rows_keys (ls : List Nat) : ∀ fs : List Nat, ((rowsF ls fs).map (·.1)).Nodup := by
  have key : ∀ (fs : List Nat) (ps : List Row), (ps.map (·.1)).Nodup → ((fs.foldl (fun ps k => addR ps (ls.getD k 0) k) ps).map (·.1)).Nodup := by
    intro fs
    induction fs with
    | nil => intro ps h; exact h
    | cons k fs ih => intro ps h; exact ih _ (putR_keys _ _ _ h)
  exact fun fs => key fs [] List.nodup_nil
theorem putR_len (ps : List Row) (l : Nat) (zs : List Nat) : (putR ps l zs).length ≤ ps.length + 1 := by
  unfold putR
  split
  · rw [List.length_map]; omega
  · rw [List.length_append]; exact Nat.le_refl _
theorem rows_len (ls : List Nat) : ∀ fs : List Nat, (rowsF ls fs).length ≤ fs.length := by
  have key : ∀ (fs : List Nat) (ps : List Row), (fs.foldl (fun ps k => addR ps (ls.getD k 0) k) ps).length ≤ ps.length + fs.length := by
    intro fs
    induction fs with
    | nil => intro ps; exact Nat.le_refl _
    | cons k fs ih =>
      intro ps
      have h1 := ih (addR ps (ls.getD k 0) k)
      have h2 : (addR ps (ls.getD k 0) k).length ≤ ps.length + 1 := putR_len _ _ _
      rw [List.length_cons]
      exact Nat.le_trans h1 (by omega)
  intro fs
  have := key fs []
  rwa [List.length_nil, Nat.zero_add] at this
theorem putR_small {ps : List Row} {l : Nat} {zs : List Nat} {n : Nat} (h : ∀ p ∈ ps, p.2.length ≤ n) (hz : zs.length ≤ n) : ∀ p ∈ putR ps l zs, p.2.length ≤ n := by
  intro p hp
  unfold putR at hp
  split at hp
  · obtain ⟨q, hq, rfl⟩ := List.mem_map.mp hp
    split
    · exact hz
    · exact h q hq
  · rcases List.mem_append.mp hp with hp | hp
    · exact h p hp
    · rw [List.mem_singleton.mp hp]; exact hz
theorem lookR_mem {ps : List Row} {l : Nat} {zs : List Nat} (h : lookR ps l = some zs) : (l, zs) ∈ ps := by
  unfold lookR at h
  obtain ⟨p, hp, rfl⟩ := Option.map_eq_some_iff.mp h
  have e0 : (fun p : Row => decide (p.1 = l)) p = true := List.find?_some (p := fun p : Row => decide (p.1 = l)) hp
  have e := of_decide_eq_true e0
  have := List.mem_of_find?_eq_some hp
  rw [← e]; exact this
theorem addR_small {ps : List Row} {l k n : Nat} (h : ∀ p ∈ ps, p.2.length ≤ n) : ∀ p ∈ addR ps l k, p.2.length ≤ n + 1 := by
  refine putR_small (fun p hp => Nat.le_succ_of_le (h p hp)) ?_
  rw [List.length_append]
  cases e : lookR ps l with
  | none => show 0 + 1 ≤ n + 1; omega
  | some zs => have := h _ (lookR_mem e); show zs.length + 1 ≤ n + 1; exact Nat.succ_le_succ this
theorem rows_small (ls : List Nat) : ∀ fs : List Nat, ∀ p ∈ rowsF ls fs, p.2.length ≤ fs.length := by
  have key : ∀ (fs : List Nat) (ps : List Row) (n : Nat), (∀ p ∈ ps, p.2.length ≤ n) → ∀ p ∈ fs.foldl (fun ps k => addR ps (ls.getD k 0) k) ps, p.2.length ≤ n + fs.length := by
    intro fs
    induction fs with
    | nil => intro ps n h; exact h
    | cons k fs ih =>
      intro ps n h p hp
      have := ih (addR ps (ls.getD k 0) k) (n + 1) (addR_small h) p hp
      rw [List.length_cons]; omega
  intro fs p hp
  have := key fs [] 0 (fun p hp => by cases hp) p hp
  omega
noncomputable def RowAt (H : Hp) (kv : Key × V) (p : Row) : Prop := kv.1 = .inl ((p.1 : Nat) : Int) ∧ ∃ l, kv.2 = .ref l ∧ H l = some (.lst (p.2.map nV))
noncomputable abbrev Rws (H : Hp) : List (Key × V) → List Row → Prop := Paired (RowAt H)
theorem key_eq {a b : Nat} : (Sum.inl ((a : Nat) : Int) : Key) = Sum.inl ((b : Nat) : Int) ↔ a = b := by
  constructor
  · intro h; have := Sum.inl.inj h; omega
  · intro h; rw [h]
theorem Rws.look {H : Hp} {kvs : List (Key × V)} {ps : List Row} (r : Rws H kvs ps) (l : Nat) : (valV kvs (.inl (l : Int)) = none ∧ lookR ps l = none) ∨ ∃ a zs, valV kvs (.inl (l : Int)) = some (.ref a) ∧ lookR ps l = some zs ∧ H a = some (.lst (zs.map nV)) := by
  induction r with
  | nil => exact .inl ⟨rfl, rfl⟩
  | @cons kv p kvs ps h t ih =>
    obtain ⟨h1, a, h2, h3⟩ := h
    by_cases e : p.1 = l
    · refine .inr ⟨a, p.2, ?_, ?_, h3⟩
      · rw [valV_pos (by rw [h1, e]), h2]
      · unfold lookR; rw [List.find?_cons, decide_eq_true e]; rfl
    · have n1 : ¬ kv.1 = .inl (l : Int) := fun z => e (key_eq.mp (h1.symm.trans z))
      have n2 : lookR (p :: ps) l = lookR ps l := by unfold lookR; rw [List.find?_cons, decide_eq_false e]
      rw [valV_neg n1, n2]
      exact ih
theorem Rws.any {H : Hp} {kvs : List (Key × V)} {ps : List Row} (r : Rws H kvs ps) (l : Nat) : (kvs.any fun kv => decide (kv.1 = .inl (l : Int))) = ps.any fun p => decide (p.1 = l) := by
  induction r with
  | nil => rfl
  | @cons kv p kvs ps h t ih =>
    rw [List.any_cons, List.any_cons, ih]
    congr 1
    rw [h.1]
    exact decide_eq_decide.mpr key_eq
theorem Rws.keep {H H' : Hp} {kvs : List (Key × V)} {ps : List Row} (r : Rws H kvs ps) (h : ∀ l xs, (∃ kv ∈ kvs, kv.2 = .ref l) → H l = some (.lst xs) → H' l = some (.lst xs)) : Rws H' kvs ps := by
  induction r with
  | nil => exact .nil
  | @cons kv p kvs ps q t ih =>
    refine .cons ?_ (ih fun l xs ⟨kv, hm, e⟩ => h l xs ⟨kv, List.mem_cons_of_mem _ hm, e⟩)
    obtain ⟨q1, a, q2, q3⟩ := q
    exact ⟨q1, a, q2, h a _ ⟨kv, List.mem_cons_self, q2⟩ q3⟩
theorem Rws.same {H H' : Hp} {kvs : List (Key × V)} {ps : List Row} (r : Rws H kvs ps) (sm : Same H H') : Rws H' kvs ps := r.keep fun l xs _ e => sm _ _ e
theorem Rws.grow {H : Hp} {kvs : List (Key × V)} {ps : List Row} {l a : Nat} {zs : List Nat} (r : Rws H kvs ps) (nd : (kvs.map (·.2)).Nodup) (nk : (ps.map (·.1)).Nodup) (hv : valV kvs (.inl (l : Int)) = some (.ref a)) :
    Rws (upd H a (.lst (zs.map nV))) kvs (putR ps l zs) := by
  have hany : (ps.any fun p => decide (p.1 = l)) = true := by rw [← r.any l, valV_any, hv]; rfl
  unfold putR
  rw [if_pos hany]
  clear hany
  induction r with
  | nil => exact .nil
  | @cons kv p kvs ps h t ih =>
    rw [List.map_cons] at nd nk
    rw [List.nodup_cons] at nd nk
    rw [List.map_cons]
    by_cases e : p.1 = l
    · have ek : kv.1 = .inl (l : Int) := by rw [h.1, e]
      rw [valV_pos ek] at hv
      have e2 : kv.2 = .ref a := Option.some.inj hv
      rw [if_pos e]
      refine .cons ⟨h.1, a, e2, upd_same⟩ ?_
      have em : ps.map (fun p => if p.1 = l then (p.1, zs) else p) = ps := by
        rw [show ps = ps.map id from (List.map_id ps).symm, List.map_map]
        refine List.map_congr_left fun q hq => ?_
        show (if q.1 = l then (q.1, zs) else q) = q
        rw [if_neg (fun z => nk.1 (List.mem_map.mpr ⟨q, hq, by rw [z, e]⟩))]
      rw [em]
      refine Rws.keep t fun b xs ⟨kv', hm, e3⟩ eb => ?_
      rw [upd_ne (fun z => nd.1 (List.mem_map.mpr ⟨kv', hm, by rw [e3, z, e2]⟩))]
      exact eb
    · have ek : ¬ kv.1 = .inl (l : Int) := fun z => e (key_eq.mp (h.1.symm.trans z))
      rw [valV_neg ek] at hv
      rw [if_neg e]
      refine .cons ?_ (ih nd.2 nk.2 hv)
      obtain ⟨h1, b, h2, h3⟩ := h
      refine ⟨h1, b, h2, ?_⟩
      have hm : (.ref a : V) ∈ kvs.map (·.2) := by
        obtain ⟨kv', hf, e4⟩ := Option.map_eq_some_iff.mp hv
        exact List.mem_map.mpr ⟨kv', List.mem_of_find?_eq_some hf, e4⟩
      rw [upd_ne (fun z => nd.1 (by rw [h2, z]; exact hm))]
      exact h3
noncomputable def LikeL (ts : List Tm) (ls : List Nat) : Prop := ∀ (i j : Nat) (t u : Tm), ts[i]? = some t → ts[j]? = some u → mk ls t = mk ls u → ls[i]? = ls[j]?
theorem like_of {ts : List Tm} {es : List (Nat × Nat)} {ls : List Nat} (ha : Arms ts) (h : Closed ts es ls) : LikeL ts ls := fun i j t u hi hj e => by
  obtain ⟨c1, c2, c3, c4⟩ := h
  have li := (List.getElem?_eq_some_iff.mp hi).1
  have lj := (List.getElem?_eq_some_iff.mp hj).1
  have b1 : ∀ x as, t = .of x as → ∀ a ∈ as, a < ls.length := fun x as q a hm => by subst q; have := ha i x as hi a hm; omega
  have b2 : ∀ x as, u = .of x as → ∀ a ∈ as, a < ls.length := fun x as q a hm => by subst q; have := ha j x as hj a hm; omega
  refine c4 i j (by omega) (by omega) (stands_eqv hi hj (stands_mk c3 b1) ?_)
  rw [e]; exact stands_mk c3 b2
theorem ms_at {ts : List Tm} {ls : List Nat} {i : Nat} {t : Tm} (h : ts[i]? = some t) : (ts.map (mk ls))[i]? = some (mk ls t) := by rw [List.getElem?_map, h]; rfl
noncomputable def TabOk (ts : List Tm) (ls : List Nat) (n : Nat) (kvs : List (NK × V)) : Prop :=
  (∀ (i : Nat) t, i < n → ts[i]? = some t → valV kvs (tmNK (mk ls t)) = some (nV (ls.getD i 0))) ∧ (∀ k v, valV kvs k = some v → ∃ i t, i < n ∧ ts[i]? = some t ∧ k = tmNK (mk ls t)) ∧ kvs.length = (firstsF (ts.map (mk ls)) n).length
theorem putK_old {κ : Type} [DecidableEq κ] {kvs : List (κ × V)} {k : κ} {v : V} (y : V) (h : valV kvs k = some v) : (putK kvs k y).length = kvs.length := by
  unfold putK
  rw [valV_any, h]
  show (if true = true then _ else _ : List _).length = _
  rw [if_pos rfl, List.length_map]
theorem tab_step {ts : List Tm} {ls : List Nat} {n : Nat} {kvs : List (NK × V)} {t : Tm} (like : LikeL ts ls) (hl : ls.length = ts.length) (h : TabOk ts ls n kvs) (ht : ts[n]? = some t) : TabOk ts ls (n + 1) (putK kvs (tmNK (mk ls t)) (nV (ls.getD n 0))) := by
  obtain ⟨h1, h2, h3⟩ := h
  have hn := (List.getElem?_eq_some_iff.mp ht).1
  refine ⟨fun i u hi hu => ?_, fun k v hv => ?_, ?_⟩
  · rw [valV_put]
    by_cases e : tmNK (mk ls u) = tmNK (mk ls t)
    · rw [if_pos e]
      have e2 := like i n u t hu ht (tmNK_inj e)
      rw [List.getD_eq_getElem?_getD, List.getD_eq_getElem?_getD, e2]
    · rw [if_neg e]
      refine h1 i u ?_ hu
      rcases Nat.lt_succ_iff_lt_or_eq.mp hi with q | q
      · exact q
      · subst q; rw [ht] at hu; cases hu; exact absurd rfl e
  · rw [valV_put] at hv
    by_cases e : k = tmNK (mk ls t)
    · exact ⟨n, t, Nat.lt_succ_self n, ht, e⟩
    · rw [if_neg e] at hv
      obtain ⟨i, u, hi, hu, ek⟩ := h2 k v hv
      exact ⟨i, u, Nat.lt_succ_of_lt hi, hu, ek⟩
  · rw [firsts_succ, List.length_append]
    cases hv : valV kvs (tmNK (mk ls t)) with
    | some v =>
      obtain ⟨i, u, hi, hu, ek⟩ := h2 _ _ hv
      have hf : newAt (ts.map (mk ls)) n = false := (new_false (ms_at ht)).mpr ⟨i, hi, by rw [ms_at hu, tmNK_inj ek]⟩
      rw [putK_old _ hv, hf, h3]; rfl
    | none =>
      have hf : newAt (ts.map (mk ls)) n = true := by
        cases e : newAt (ts.map (mk ls)) n with
        | true => rfl
        | false =>
          obtain ⟨i, hi, q⟩ := (new_false (ms_at ht)).mp e
          rw [List.getElem?_map] at q
          cases e2 : ts[i]? with
          | none => rw [e2] at q; cases q
          | some u =>
            rw [e2] at q
            have q2 : mk ls u = mk ls t := Option.some.inj q
            have := h1 i u hi e2
            rw [q2, hv] at this
            cases this
      rw [putK_new _ hv, hf, List.length_append, h3]; rfl
theorem DN.updO {P : Program} {w : World} {H : Hp} {S a : Addr} {kvs : List (NK × V)} {u o : HO} (d : DN P w H S kvs) (ha : H a = some u) (h1 : ∀ φ, u ≠ .ext φ) (h2 : ∀ ys, u ≠ .tup ys) : DN P w (upd H a o) S kvs :=
  d.keep (fun φ e => by rw [upd_ne (fun z => by rw [z, ha] at e; exact h1 φ (Option.some.inj e))]; exact e) (fun b ys e => by rw [upd_ne (fun z => by rw [z, ha] at e; exact h2 ys (Option.some.inj e))]; exact e)
theorem Rws.updO {H : Hp} {a : Addr} {kvs : List (Key × V)} {ps : List Row} {u o : HO} (r : Rws H kvs ps) (ha : H a = some u) (h1 : ∀ xs, u ≠ .lst xs) : Rws (upd H a o) kvs ps :=
  r.keep fun l xs _ e => by rw [upd_ne (fun z => by rw [z, ha] at e; exact h1 xs (Option.some.inj e))]; exact e
noncomputable def SeenOk (ts : List Tm) (ls : List Nat) (n : Nat) (kvs : List (NK × V)) : Prop :=
  (∀ (i : Nat) t, i < n → ts[i]? = some t → valV kvs (tmNK (mk ls t)) ≠ none) ∧ (∀ k v, valV kvs k = some v → ∃ i t, i < n ∧ ts[i]? = some t ∧ k = tmNK (mk ls t)) ∧ kvs.length ≤ n
theorem seen_nil (ts : List Tm) (ls : List Nat) : SeenOk ts ls 0 [] := ⟨fun i t hi => absurd hi (Nat.not_lt_zero _), (fun k v e => by rw [valV_nil] at e; cases e), Nat.le_refl _⟩
theorem seen_iff {ts : List Tm} {ls : List Nat} {n : Nat} {kvs : List (NK × V)} {t : Tm} (h : SeenOk ts ls n kvs) (ht : ts[n]? = some t) :
    (valV kvs (tmNK (mk ls t)) = none ∧ newAt (ts.map (mk ls)) n = true) ∨ ((valV kvs (tmNK (mk ls t))).isSome = true ∧ newAt (ts.map (mk ls)) n = false) := by
  obtain ⟨h1, h2, _⟩ := h
  cases hv : valV kvs (tmNK (mk ls t)) with
  | some v =>
    obtain ⟨i, u, hi, hu, ek⟩ := h2 _ _ hv
    exact .inr ⟨rfl, (new_false (ms_at ht)).mpr ⟨i, hi, by rw [ms_at hu, tmNK_inj ek]⟩⟩
  | none =>
    refine .inl ⟨rfl, ?_⟩
    cases e : newAt (ts.map (mk ls)) n with
    | true => rfl
    | false =>
      obtain ⟨i, hi, q⟩ := (new_false (ms_at ht)).mp e
      rw [List.getElem?_map] at q
      cases e2 : ts[i]? with
      | none => rw [e2] at q; cases q
      | some u =>
        rw [e2] at q
        have q2 : mk ls u = mk ls t := Option.some.inj q
        have := h1 i u hi e2
        rw [q2] at this
        exact absurd hv this
theorem seen_put {ts : List Tm} {ls : List Nat} {n : Nat} {kvs : List (NK × V)} {t : Tm} (y : V) (h : SeenOk ts ls n kvs) (ht : ts[n]? = some t) : SeenOk ts ls (n + 1) (putK kvs (tmNK (mk ls t)) y) := by
  obtain ⟨h1, h2, h3⟩ := h
  refine ⟨fun i u hi hu => ?_, fun k v hv => ?_, ?_⟩
  · rw [valV_put]
    split
    · exact fun z => nomatch z
    · rename_i e
      refine h1 i u ?_ hu
      rcases Nat.lt_succ_iff_lt_or_eq.mp hi with q | q
      · exact q
      · subst q; rw [ht] at hu; cases hu; exact absurd rfl e
  · rw [valV_put] at hv
    by_cases e : k = tmNK (mk ls t)
    · exact ⟨n, t, Nat.lt_succ_self n, ht, e⟩
    · rw [if_neg e] at hv
      obtain ⟨i, u, hi, hu, ek⟩ := h2 k v hv
      exact ⟨i, u, Nat.lt_succ_of_lt hi, hu, ek⟩
  · have := length_putK kvs (tmNK (mk ls t)) y
    omega
theorem seen_skip {ts : List Tm} {ls : List Nat} {n : Nat} {kvs : List (NK × V)} {t : Tm} (h : SeenOk ts ls n kvs) (ht : ts[n]? = some t) (hs : (valV kvs (tmNK (mk ls t))).isSome = true) : SeenOk ts ls (n + 1) kvs := by
  obtain ⟨h1, h2, h3⟩ := h
  refine ⟨fun i u hi hu => ?_, fun k v hv => ?_, by omega⟩
  · rcases Nat.lt_succ_iff_lt_or_eq.mp hi with q | q
    · exact h1 i u q hu
    · subst q; rw [ht] at hu; cases hu; intro z; rw [z] at hs; cases hs
  · obtain ⟨i, u, hi, hu, ek⟩ := h2 k v hv
    exact ⟨i, u, Nat.lt_succ_of_lt hi, hu, ek⟩
noncomputable def Own (H : Hp) (kvs : List (Key × V)) : Prop := (kvs.map (·.2)).Nodup ∧ ∀ kv ∈ kvs, ∃ l, kv.2 = .ref l ∧ H l = none
theorem Own.fresh {H : Hp} {kvs : List (Key × V)} (h : Own H kvs) {a : Addr} (hv : (.ref a : V) ∈ kvs.map (·.2)) : H a = none := by
  obtain ⟨kv, hm, e⟩ := List.mem_map.mp hv
  obtain ⟨l, e2, hl⟩ := h.2 kv hm
  rw [e] at e2
  cases e2
  exact hl
theorem val_mem {κ : Type} [DecidableEq κ] {kvs : List (κ × V)} {k : κ} {v : V} (h : valV kvs k = some v) : v ∈ kvs.map (·.2) := by
  obtain ⟨kv', hf, e4⟩ := Option.map_eq_some_iff.mp h
  exact List.mem_map.mpr ⟨kv', List.mem_of_find?_eq_some hf, e4⟩
theorem Own.snoc {H H1 : Hp} {kvs : List (Key × V)} {ps : List Row} {N : Addr} {k : Key} (h : Own H kvs) (r : Rws H1 kvs ps) (hN : H1 N = none) (hN0 : H N = none) : Own H (kvs ++ [(k, .ref N)]) := by
  refine ⟨?_, fun kv hm => ?_⟩
  · rw [List.map_append, List.nodup_append]
    refine ⟨h.1, by simp, ?_⟩
    intro x hx y hy e
    simp only [List.map_cons, List.map_nil, List.mem_singleton] at hy
    subst hy
    subst e
    have : ∀ {kvs : List (Key × V)} {ps : List Row}, Rws H1 kvs ps → (.ref N : V) ∈ kvs.map (·.2) → False := by
      intro kvs ps r
      induction r with
      | nil => intro hm; cases hm
      | @cons kv p kvs ps q t ih =>
        intro hm
        rw [List.map_cons] at hm
        rcases List.mem_cons.mp hm with e | hm
        · obtain ⟨_, l, e2, hl⟩ := q
          rw [← e] at e2
          cases e2
          rw [hN] at hl
          cases hl
        · exact ih hm
    exact this r hx
  · rcases List.mem_append.mp hm with hm | hm
    · exact h.2 kv hm
    · rw [List.mem_singleton.mp hm]; exact ⟨N, rfl, hN0⟩
end Sw
namespace PySem
section
variable {prog : Program} {w : World} {A : Around} {E : Value → Shared → Prop} {s : Shared}
end
section
variable {prog : Program} {w : World} {A : Around} {s : Shared} {R : Result → Shared → Prop} {I l : Addr} {items : Array Value}
end
section
variable {prog : Program} {w : World} {A : Around} {E : Value → Shared → Prop} {s : Shared} {I l : Addr} {items : Array Value}
end
end PySem
namespace L2
open PySem PySem.Spec PyProof.Rows
theorem passNo {X : Cx} : Passes (CXE X.prog X.w) X E0 := fun pins σ H s e s' I h => by
  obtain ⟨_, _, _, _, _, _, _, _, _, _, _, _, _, _, q⟩ := h
  exact False.elim q
end L2
namespace L2
open PySem PySem.Spec PyProof.Rows
end L2
namespace L2
open PySem PySem.Spec PyProof.Rows
section
variable {X : Cx}
inductive J_call_dictK (xs : List V) (H : Hp) (Q : VK) : Prop
  | mk : ∀ p kvs, (xs = [.ref p]) → (H p = some (.dK kvs)) → (∀ l, H l = none → Q (.ref l) (upd H l (.dK kvs))) → J_call_dictK xs H Q
theorem call_dictK : CallR X (.type "dict") (fun xs H Q => J_call_dictK xs H Q) := by
  intro pins s σ H xs us Q I r h
  obtain ⟨p, kvs, rfl, e, q⟩ := h
  obtain ⟨u, rfl, rx⟩ := vals1 r
  cases rx
  obtain ⟨z, y, vs, rel, dd⟩ := (show ObjOk X.prog X.w H s.heap p (.dK kvs) from I.hok p _ e)
  have hl := rel.length
  refine kt_call_dict y dd (by rw [← hl]; exact z) fun h' hm hs => ?_
  have kp : ∀ b o', s.heap.get? b = some o' → h'.get? b = some o' := fun b o' e' => by
    have hb : b ≠ s.heap.objs.size := fun z => absurd (Heap.lt_size e') (by rw [z]; exact Nat.lt_irrefl _)
    have h1 := Heap.get?_push_of_some { cls := .type "dict", data := .dict #[] } e'
    rw [hs.2 b hb]
    exact h1
  exact ⟨.ref s.heap.objs.size, _, I.laid (t' := s.toks) kp (Nat.le_refl _) (show ObjOk X.prog X.w _ h' _ (.dK kvs) from ⟨z, beq_eq_false_iff_ne.mpr (Ne.symm (Nat.ne_of_lt I.big)), vs, rel, hm⟩), rfl, q _ (I.hok.fresh (Nat.le_refl _))⟩
noncomputable def tInts (L : List Int) : TA := fun _ H Q => Q (L.map V.int) H
inductive IntsC : List Expr → List Int → Prop where
  | nil : IntsC [] []
  | cons {x : Int} {j : Nat} {p : Pos} {es : List Expr} {L : List Int} (h : IntsC es L) : IntsC (.Constant (.int x) j p :: es) (x :: L)
theorem pa_ints {es : List Expr} {L : List Int} (h : IntsC es L) : PA X es (tInts L) := by
  induction h with
  | nil => exact pa_nil
  | cons h ih => exact pa_cons pe_int ih
noncomputable def intsOf : List Expr → Option (List Int)
  | [] => some []
  | .Constant (.int x) _ _ :: es => (intsOf es).map (x :: ·)
  | _ => none
theorem intsC_of : ∀ {es : List Expr} {L : List Int}, intsOf es = some L → IntsC es L
  | [], L, h => by
    cases (show some [] = some L from h)
    exact .nil
  | e :: es, L, h => by
    unfold intsOf at h
    split at h
    · rename_i heq; cases heq
    · rename_i x j p es' heq
      cases heq
      cases q : intsOf es with
      | none => rw [q] at h; cases h
      | some L' =>
        rw [q] at h
        cases h
        exact .cons (intsC_of q)
    · cases h
theorem pa_intsB {es : List Expr} {L : List Int} (h : intsOf es = some L) : PA X es (tInts L) := pa_ints (intsC_of h)
end
section
variable {P : Program} {w : World} {A : Around} {s : Shared}
open SeqAt MeetsSeq MeetsSeq2 MeetsSeq3 SeqRoads2
open AutoSeq1 (wpAny_loadPart')
end
end L2
namespace L2
open PySem PySem.W PySem.Calls PyProof.Rows
end L2
namespace L2
open PySem PySem.Spec PyProof.Rows
section
variable {X : Cx} {k : Nat} {y : Str} {p pos : Pos} {e : Expr} {es : List Expr} {tv : TE} {t : TA}
theorem compI_listS {K : PySem.W.Frag} {a : Addr} {xs : List V} {ct : TT} {te : TE} {σ : St} {caps : List (Str × Nat)} {H : Hp} {Q : VK} (f : V → Option V) (hS : SqL K H a xs) (hn : xs.length ≤ 1000)
    (hel : ∀ x ∈ xs, ∀ H', Same H H' → ∀ (R : Bool → Hp → Prop), (∀ H'', Same H' H'' → R (f x).isSome H'') → ct (some x :: capt σ caps) H' R)
    (hev : ∀ x v, x ∈ xs → f x = some v → ∀ H', Same H H' → ∀ Q' : VK, (∀ H'', Same H' H'' → Q' v H'') → te (some x :: capt σ caps) H' Q')
    (hq : ∀ D H', H D = none → Same H H' → H' D = some (.lst (xs.filterMap f)) → Q (.ref D) H') :
    CompBodyI (Itl K a) (gName 0) ct te (List.replicate 1 none ++ capt σ caps) H Q := by
  intro D hD
  refine ⟨fun i m τ zs H' => m = xs.length - i ∧ i ≤ xs.length ∧ (∃ o, τ = o :: capt σ caps) ∧ zs = (xs.take i).filterMap f ∧ Same H H' ∧ H' D = some (.lst zs), ⟨xs.length, by simp, Nat.zero_le _, ⟨none, rfl⟩, by simp, same_new hD _, upd_same⟩, ?_⟩
  rintro i m τ zs H' ⟨rfl, hi, ⟨o, rfl⟩, rfl, sm, hDl⟩
  refine ⟨hDl, ?_⟩
  by_cases hlt : i < xs.length
  · refine .inr ⟨⟨xs, xs[i], sm.seq hS, by simp [hlt]⟩, ?_, fun x H'' y => ?_⟩
    · refine small1000 (Nat.le_trans (List.length_filterMap_le _ _) ?_)
      rw [List.length_take]; omega
    · obtain ⟨e, y⟩ := y
      subst e
      have hx := y xs (sm.seq hS)
      have er : xs.take (i + 1) = xs.take i ++ [x] := by rw [List.take_add_one, hx]; rfl
      show ct (some x :: capt σ caps) _ _
      refine hel x (List.mem_of_getElem? hx) _ sm _ (fun H2 s2 => ?_)
      cases e : f x with
      | none =>
        refine ⟨xs.length - (i + 1), by omega, rfl, hlt, ⟨_, rfl⟩, ?_, sm.trans s2, s2 _ _ hDl⟩
        rw [er, List.filterMap_append, List.filterMap_cons, e]; simp
      | some v =>
        refine hev x v (List.mem_of_getElem? hx) e _ (sm.trans s2) _ (fun H3 s3 => ?_)
        have hD3 := s3 _ _ (s2 _ _ hDl)
        refine ⟨hD3, xs.length - (i + 1), by omega, rfl, hlt, ⟨_, rfl⟩, ?_, (sm.trans (s2.trans s3)).put hD, upd_same⟩
        rw [er, List.filterMap_append, List.filterMap_cons, e]; simp
  · have e : i = xs.length := by omega
    subst e
    rw [List.take_length] at hDl
    exact .inl ⟨⟨xs, sm.seq hS, Nat.le_refl _⟩, hq D H' hD sm hDl⟩
theorem ints_of_vals : ∀ {ns : List Int} {us : List Value}, Vals (ns.map V.int) us → IntsAre us ns
  | [], us, r => by cases r; exact .nil
  | n :: ns, us, r => by
    cases r with
    | cons h t =>
      obtain ⟨tk, rfl⟩ := h
      exact .cons n tk (ints_of_vals t)
theorem boot_sorted_ : bootBuiltins "sorted" = some (.builtin "sorted") := by decide +kernel
inductive J_call_sortedL (kK : PySem.W.Frag) (xs : List V) (H : Hp) (Q : VK) : Prop
  | mk : ∀ (p : Addr) (ns : List Int), (xs = [.ref p]) → (SqL kK H p (ns.map V.int)) → (ns.length < 64) → (∀ (ns' : List Int) (l : Addr), ns'.Perm ns → ns'.Pairwise (· ≤ ·) → H l = none → Q (.ref l) (upd H l (.lst (ns'.map V.int)))) → J_call_sortedL kK xs H Q
theorem call_sortedL : CallR X (.builtin "sorted") (fun xs H Q => J_call_sortedL X.K xs H Q) := by
  intro pins s σ H xs us Q I r h
  obtain ⟨p, ns, rfl, hS, h64, q⟩ := h
  obtain ⟨u, rfl, rx⟩ := vals1 r
  cases rx
  obtain ⟨its, r', pl, hz⟩ := I.list hS
  have hlen := r'.length
  rw [List.length_map] at hlen
  refine sorted_ints pl.isList (ints_of_vals r') (by omega) fun out ns' a1 a2 a3 => ?_
  obtain ⟨e, he⟩ := sortedAll_at s.heap its out
  have hfr : H (s.heap.objs.size + 1) = none := I.hok.fresh (Nat.le_succ _)
  have hl' : ns'.length = ns.length := a2.length_eq
  refine ⟨.ref (s.heap.objs.size + 1), _, I.laid (t' := s.toks) (fun b o e' => sortedAll_old e') (Nat.le_succ _) (show ObjOk X.prog X.w _ (sortedAll s.heap its out) _ (.lst (ns'.map V.int)) from ⟨?_, out.toList, e, vals_ints a1, by rw [he]⟩), rfl, q ns' _ a2 a3 hfr⟩
  rw [List.length_map, hl']
  rw [List.length_map] at hz
  exact hz
end
end L2
namespace L2
open PySem PySem.Spec PyProof.Rows
section
variable {prog : Program} {w : World} {A : Around} {R : Result → Shared → Prop} {I : Addr} {fp wr : List Addr} {n : Nat} {P : Nat → Value → Prop} {St : Nat → Heap → Prop} {kw : List (Str × Value)} {G : Heap → Prop}
end
section
variable {X : Cx} {e : Expr} {te : TE} {p pos kp cp : Pos} {j : Nat}
end
end L2
namespace L2
open PySem PySem.Spec PyProof.Rows
section
variable {P : Program} {w : World} {K : PySem.W.Frag} {mg : Str → Option Value} {base : Heap} {x m qual : Str} {st : Stmt} {N ps : List Str} {k : Nat} {sp : Sp}
end
section
variable {X : Cx} {k k' : Nat} {x m : Str} {ps : List Str} {sp : Sp} {p pos apos : Pos} {e : Expr} {es : List Expr} {t : TA} {E : XK}
end
end L2
namespace L2
open PySem PySem.Spec PyProof.Rows
end L2
namespace L2
open PySem PySem.Spec PyProof.Rows
section
variable {prog : Program} {w : World} {A : Around} {R : Result → Shared → Prop} {I : Addr} {fp wr : List Addr} {n : Nat} {P : Nat → Value → Prop} {St : Nat → Heap → Prop} {kw : List (Str × Value)} {G : Heap → Prop}
end
section
variable {X : Cx} {e : Expr} {te : TE} {p pos kp cp : Pos} {j : Nat} {d : Int}
end

end L2
namespace HT
open PySem PySem.Spec PyProof.Rows
section
variable {prog : Program} {w : World} {A : Around} {E : Value → Shared → Prop} {s : Shared}
end
end HT
namespace L2
open PySem PySem.Spec PyProof.Rows
section
variable {X : Cx}
end
end L2
namespace L2
open PySem PySem.Spec PyProof.Rows
section
variable {X : Cx}
theorem abc_occ : ∀ k, k < 26 → Builtin.Str.occurrences ("abcdefghijklmnopqrstuvwxyz" : Str) ⟨#[97 + k]⟩ 0 ("abcdefghijklmnopqrstuvwxyz" : Str).length 1 = [k] := by decide +kernel
inductive J_abcIx (x : V) (xs : List V) (H : Hp) (Q : VK) : Prop
  | mk : ∀ (c : Nat), (x = .str "abcdefghijklmnopqrstuvwxyz") → (xs = [.str ⟨#[c]⟩]) → (97 ≤ c) → (c ≤ 122) → (∀ i : Nat, Q (.int i) H) → J_abcIx x xs H Q
theorem mt_abcIx : MtR X "str.index" (fun x xs H Q => J_abcIx x xs H Q) := by
  intro pins s σ H x xs v us Q I rx rv h
  obtain ⟨c, rfl, rfl, h1, h2, q⟩ := h
  obtain ⟨t, rfl⟩ := rx
  obtain ⟨u, rfl, ru⟩ := rv.one
  obtain ⟨t', rfl⟩ := ru
  have e := abc_occ (c - 97) (by omega)
  rw [show 97 + (c - 97) = c by omega] at e
  exact call_gives F.slot_str_index (typeIs_str _ _ _) F.entry_str_index (F.args_str_index_2 _ _) (gives_str_index _ _ t t' _ _ e) ⟨.int _, H, I.tok _, ⟨_, rfl⟩, q _⟩
end
end L2
namespace Sw
open PySem L2

theorem slice_cps (x : Str) (lo hi : Option Int) : (Txt.slice x lo hi).cps.toList = (x.cps.toList.drop (HT.sIx x.length 0 lo)).take (HT.sIx x.length x.length hi - HT.sIx x.length 0 lo) := by
  have hx : x.cps.toList.length = x.length := by simp [Str.length]
  obtain ⟨h1, h2, h3⟩ := slice_bounds lo hi x.length
  have ha : HT.sIx x.length 0 lo ≤ x.length := HT.sIx_le _ _ (Nat.zero_le _) _
  have hb : HT.sIx x.length x.length hi ≤ x.length := HT.sIx_le _ _ (Nat.le_refl _) _
  have e : Builtin.Str.strSliceIndices lo hi 1 x.length = sliceRange ((HT.sIx x.length 0 lo : Nat) : Int) ((HT.sIx x.length x.length hi : Nat) : Int) 1 := by
    rw [← h1, ← h2]
    unfold Builtin.Str.strSliceIndices sliceBounds
    rfl
  have e2 : ((sliceRange ((HT.sIx x.length 0 lo : Nat) : Int) ((HT.sIx x.length x.length hi : Nat) : Int) 1).filterMap (x.cps[·]?)) = (x.cps.toList.drop (HT.sIx x.length 0 lo)).take (HT.sIx x.length x.length hi - HT.sIx x.length 0 lo) := by
    rw [sliceRange_one, pick_run]
  unfold Txt.slice
  rw [e]
  split
  · rename_i hc
    have hl : (sliceRange ((HT.sIx x.length 0 lo : Nat) : Int) ((HT.sIx x.length x.length hi : Nat) : Int) 1).length = x.length := by simpa using hc
    rw [sliceRange_one, List.length_map, List.length_range] at hl
    have ea : HT.sIx x.length 0 lo = 0 ∨ x.length = 0 := by omega
    rcases ea with ea | ea
    · rw [ea, Nat.sub_zero] at hl ⊢
      rw [List.drop_zero, hl, ← hx, List.take_length]
    · have : x.cps.toList = [] := List.length_eq_zero_iff.mp (hx.trans ea)
      rw [this]; simp
  · show (_ : List Nat).toArray.toList = _
    rw [e2]
theorem app_cps (x y : Str) : (x ++ y).cps.toList = x.cps.toList ++ y.cps.toList := by
  rw [Str.cps_append, Array.toList_append]
theorem len_cps (x : Str) : x.length = x.cps.toList.length := by simp [Str.length]

inductive T where
  | num (n : Int)
  | name (w : Str)
  | any (w : Str)
  | of (w : Str) (ts : List T)
noncomputable def IsW (w : Str) : Prop := 1 ≤ w.length ∧ w.length ≤ 8 ∧ ∀ c ∈ w.cps.toList, 97 ≤ c ∧ c ≤ 122
mutual
noncomputable def T.depth : T → Nat
  | .num _ => 1
  | .name _ => 1
  | .any _ => 1
  | .of _ ts => 1 + T.deepest ts
noncomputable def T.deepest : List T → Nat
  | [] => 0
  | t :: ts => max t.depth (T.deepest ts)
end
theorem deepest_le : ∀ {ts : List T} {t : T}, t ∈ ts → t.depth ≤ T.deepest ts
  | t' :: ts, t, h => by
    rw [T.deepest]
    rcases List.mem_cons.mp h with rfl | h
    · exact Nat.le_max_left _ _
    · exact Nat.le_trans (deepest_le h) (Nat.le_max_right _ _)
theorem depth_pos : ∀ t : T, 1 ≤ t.depth
  | .num _ => by rw [T.depth]; exact Nat.le_refl _
  | .name _ => by rw [T.depth]; exact Nat.le_refl _
  | .any _ => by rw [T.depth]; exact Nat.le_refl _
  | .of _ ts => by rw [T.depth]; omega

mutual
noncomputable def IsTr (H : Hp) : T → V → Prop
  | .num n, v => ∃ a, v = .ref a ∧ H a = some (.tup [.str "num", .int n])
  | .name w, v => ∃ a, v = .ref a ∧ H a = some (.tup [.str "name", .str w])
  | .any w, v => ∃ a, v = .ref a ∧ H a = some (.tup [.str "any", .str w])
  | .of w ts, v => ∃ a b vs, v = .ref a ∧ H a = some (.tup [.str "of", .str w, .ref b]) ∧ H b = some (.tup vs) ∧ IsTrs H ts vs
noncomputable def IsTrs (H : Hp) : List T → List V → Prop
  | [], vs => vs = []
  | t :: ts, vs => ∃ v r, vs = v :: r ∧ IsTr H t v ∧ IsTrs H ts r
end
mutual
theorem tr_keep {H H' : Hp} (k : ∀ a xs, H a = some (.tup xs) → H' a = some (.tup xs)) : ∀ {t : T} {v : V}, IsTr H t v → IsTr H' t v
  | .num n, v, h => by
    rw [IsTr] at h ⊢
    obtain ⟨a, e, h⟩ := h
    exact ⟨a, e, k _ _ h⟩
  | .name n, v, h => by
    rw [IsTr] at h ⊢
    obtain ⟨a, e, h⟩ := h
    exact ⟨a, e, k _ _ h⟩
  | .any n, v, h => by
    rw [IsTr] at h ⊢
    obtain ⟨a, e, h⟩ := h
    exact ⟨a, e, k _ _ h⟩
  | .of w ts, v, h => by
    rw [IsTr] at h ⊢
    obtain ⟨a, b, vs, e, h1, h2, h3⟩ := h
    exact ⟨a, b, vs, e, k _ _ h1, k _ _ h2, trs_keep k h3⟩
theorem trs_keep {H H' : Hp} (k : ∀ a xs, H a = some (.tup xs) → H' a = some (.tup xs)) : ∀ {ts : List T} {vs : List V}, IsTrs H ts vs → IsTrs H' ts vs
  | [], vs, h => by rw [IsTrs] at h ⊢; exact h
  | t :: ts, vs, h => by
    rw [IsTrs] at h ⊢
    obtain ⟨v, r, e, h1, h2⟩ := h
    exact ⟨v, r, e, tr_keep k h1, trs_keep k h2⟩
end
theorem trs_len {H : Hp} : ∀ {ts : List T} {vs : List V}, IsTrs H ts vs → ts.length = vs.length
  | [], vs, h => by rw [IsTrs] at h; subst h; rfl
  | t :: ts, vs, h => by
    rw [IsTrs] at h
    obtain ⟨v, r, rfl, _, h2⟩ := h
    rw [List.length_cons, List.length_cons, trs_len h2]
theorem trs_at {H : Hp} : ∀ {ts : List T} {vs : List V} {i : Nat} {v : V}, IsTrs H ts vs → vs[i]? = some v → ∃ t, ts[i]? = some t ∧ IsTr H t v
  | [], vs, i, v, h, e => by rw [IsTrs] at h; subst h; simp at e
  | t :: ts, vs, i, v, h, e => by
    rw [IsTrs] at h
    obtain ⟨v', r, rfl, h1, h2⟩ := h
    cases i with
    | zero => simp at e; subst e; exact ⟨t, rfl, h1⟩
    | succ i => simpa using trs_at (i := i) h2 (by simpa using e)

noncomputable def sg (i : Int) : Str := ⟨#[97 + i.toNat]⟩
theorem sg_len (i : Int) : (sg i).length = 1 := rfl
theorem abc_at {i : Int} (h0 : 0 ≤ i) (h1 : i < 26) : atI ("abcdefghijklmnopqrstuvwxyz" : Str).cps.toList i = some (97 + i.toNat) := by
  have e : ((i.toNat : Nat) : Int) = i := by omega
  have hj : i.toNat < 26 := by omega
  rw [← e]
  refine atI_nat ?_
  rw [Int.toNat_natCast]
  generalize i.toNat = j at hj
  revert j
  decide +kernel
noncomputable def wordA (m : Int) : Str := timesS (sg (m / 1664 % 26)) (1 + m % 8).toNat
noncomputable def wordOf (m : Int) : Str := Txt.slice (wordA m) none (some (m / 8 % (1 + m % 8))) ++ sg (m / 64 % 26) ++ Txt.slice (wordA m) (some (m / 8 % (1 + m % 8) + 1)) none
theorem wordA_cps (m : Int) : (wordA m).cps.toList = List.replicate (1 + m % 8).toNat (97 + (m / 1664 % 26).toNat) := by
  unfold wordA timesS sg
  simp
theorem wordOf_ok (m : Int) : IsW (wordOf m) := by
  have a1 : 0 ≤ m % 8 := Int.emod_nonneg _ (by decide)
  have a2 : m % 8 < 8 := Int.emod_lt_of_pos _ (by decide)
  have b1 : 0 ≤ m / 1664 % 26 := Int.emod_nonneg _ (by decide)
  have b2 : m / 1664 % 26 < 26 := Int.emod_lt_of_pos _ (by decide)
  have c1 : 0 ≤ m / 64 % 26 := Int.emod_nonneg _ (by decide)
  have c2 : m / 64 % 26 < 26 := Int.emod_lt_of_pos _ (by decide)
  have d1 : 0 ≤ m / 8 % (1 + m % 8) := Int.emod_nonneg _ (by omega)
  have d2 : m / 8 % (1 + m % 8) < 1 + m % 8 := Int.emod_lt_of_pos _ (by omega)
  have hl : (wordA m).length = (1 + m % 8).toNat := by rw [len_cps, wordA_cps, List.length_replicate]
  have wc := wordA_cps m
  obtain ⟨S, eS⟩ : ∃ S : Nat, 1 + m % 8 = (S : Int) := ⟨(1 + m % 8).toNat, by omega⟩
  obtain ⟨k, ek⟩ : ∃ k : Nat, m / 8 % (1 + m % 8) = (k : Int) := ⟨_, (Int.toNat_of_nonneg d1).symm⟩
  have S1 : 1 ≤ S := by omega
  have S8 : S ≤ 8 := by omega
  have hk : k < S := by rw [ek, eS] at d2; exact Int.ofNat_lt.mp d2
  rw [eS, Int.toNat_natCast] at hl wc
  have e1 : HT.sIx S S (some (k : Int)) = k := by rw [HT.sIx_nat]; exact Nat.min_eq_left (Nat.le_of_lt hk)
  have e2 : HT.sIx S 0 (some ((k : Int) + 1)) = k + 1 := by
    have e : (k : Int) + 1 = ((k + 1 : Nat) : Int) := rfl
    rw [e, HT.sIx_nat]; exact Nat.min_eq_left hk
  have ec : (wordOf m).cps.toList = (List.replicate S (97 + (m / 1664 % 26).toNat)).take k ++ [97 + (m / 64 % 26).toNat] ++ (List.replicate S (97 + (m / 1664 % 26).toNat)).drop (k + 1) := by
    unfold wordOf
    rw [app_cps, app_cps, slice_cps, slice_cps, ek, hl, e1, e2, HT.sIx_none, HT.sIx_none, wc, List.drop_zero, Nat.sub_zero]
    congr 1
    refine List.take_of_length_le ?_
    rw [List.length_drop, List.length_replicate]
    exact Nat.le_refl _
  have el : (wordOf m).length = S := by
    rw [len_cps, ec, List.length_append, List.length_append, List.length_take, List.length_drop, List.length_replicate, Nat.min_eq_left (Nat.le_of_lt hk)]
    show k + 1 + (S - (k + 1)) = S
    exact Nat.add_sub_cancel' hk
  clear e1 e2 hl wc hk ek eS d1 d2 a1 a2
  refine ⟨by rw [el]; omega, by rw [el]; omega, fun c hc => ?_⟩
  rw [ec] at hc
  rcases List.mem_append.mp hc with hc | hc
  · rcases List.mem_append.mp hc with hc | hc
    · have := (List.mem_replicate.mp (List.mem_of_mem_take hc)).2
      omega
    · have := List.mem_singleton.mp hc
      omega
  · have := (List.mem_replicate.mp (List.mem_of_mem_drop hc)).2
    omega
end Sw
namespace L2
open PySem PySem.Spec PyProof.Rows
theorem vals_by : ∀ {xs : List V} {us : List Value}, xs.length = us.length → (∀ (j : Nat) x u, xs[j]? = some x → us[j]? = some u → RelV x u) → Vals xs us
  | [], [], _, _ => .nil
  | [], _ :: _, h, _ => by cases h
  | _ :: _, [], h, _ => by cases h
  | x :: xs, u :: us, h, f => .cons (f 0 x u rfl rfl) (vals_by (by simpa using h) fun j a b ha hb => f (j + 1) a b (by simpa using ha) (by simpa using hb))
section
variable {X : Cx}
inductive J_call_list_dict (xs : List V) (H : Hp) (Q : VK) : Prop
  | mk : ∀ p kvs, (xs = [.ref p]) → (Rd H p (.dK kvs)) → (∀ l, H l = none → Q (.ref l) (upd H l (.lst (kvs.map fun kv => kV kv.1)))) → J_call_list_dict xs H Q
theorem call_list_dict (hc : X.calm = true) : CallR X (.type "list") (fun xs H Q => J_call_list_dict xs H Q) := by
  intro pins s σ H xs us Q I r h
  obtain ⟨p, kvs, rfl, hd, q⟩ := h
  obtain ⟨u, rfl, ru⟩ := vals1 r
  cases ru
  obtain ⟨z, lo, vs, rel, dd⟩ := dk_rd I.hok hd
  obtain ⟨ep, hat⟩ := dd.dictAt
  have hl := rel.length
  have hk := rel.keys
  refine PySem.W.kdl_call (PySem.W.kdl_dict (knd := mixKind X.prog X.w) (kvs := vs) (ep := ep) lo) (I.ok.hd hc) hat (by rw [← hl]; exact z) fun h' tk acc' c' kp hS hacc => ?_
  refine ⟨.ref s.heap.objs.size, _, I.laid kp (Nat.le_refl _) (show ObjOk X.prog X.w _ h' _ (.lst (kvs.map fun kv => kV kv.1)) from ⟨by rw [List.length_map]; exact z, acc'.toList, c', ?_, by simpa using hS⟩), rfl, q _ (I.hok.fresh (Nat.le_refl _))⟩
  refine vals_by (by rw [List.length_map, hl, Array.length_toList]; exact hacc.1.symm) fun j x v hx hv => ?_
  obtain ⟨k, y, hkv, his⟩ := hacc.2 j v (by rw [← Array.getElem?_toList]; exact hv)
  have e1 : (kvs.map (·.1))[j]? = some k := by rw [hk, List.getElem?_map, hkv]; rfl
  rw [List.getElem?_map] at e1 hx
  cases e : kvs[j]? with
  | none => rw [e] at e1; cases e1
  | some kv =>
    rw [e] at e1 hx
    have ek : kv.1 = k := Option.some.inj e1
    have ex : kV kv.1 = x := Option.some.inj hx
    rw [← ex, ek]
    rcases keyIs_shape (show keyIs k v = true from his) with ⟨i, t, rfl, rfl⟩ | ⟨y, t, rfl, rfl⟩
    · exact ⟨t, rfl⟩
    · exact ⟨t, rfl⟩
end
end L2
namespace L2
open PySem PySem.Spec PyProof.Rows
noncomputable def Itval (a : Addr) (o : Obj) (kvs : List (Key × V)) : It :=
  ⟨fun i H => i < kvs.length ∧ H a = some (Ext a o), fun i H x H' => H' = H ∧ ∃ kv, kvs[i]? = some kv ∧ x = kv.2, fun i H => kvs.length ≤ i ∧ H a = some (Ext a o)⟩
theorem KV.val_at {kvs : List (Key × V)} {vs : List (Key × Value)} (r : KV kvs vs) : ∀ {i : Nat} {k : Key} {u : Value}, vs[i]? = some (k, u) → ∃ kv, kvs[i]? = some kv ∧ RelV kv.2 u := by
  unfold KV at r
  induction r with
  | nil => intro i k u h; simp at h
  | @cons p q ps qs h t ih =>
    intro i k u e
    cases i with
    | zero => simp at e; subst e; exact ⟨p, rfl, h.2⟩
    | succ i => simpa using ih (by simpa using e)
theorem turn_vals {P : Program} {w : World} {K : PySem.W.Frag} {tg : Expr} (a it : Addr) {o : Obj} {kvs : List (Key × V)} {vs : List (Key × Value)} {ep : Nat} (rel : KV kvs vs) (hx : ∀ h : Heap, h.get? a = some o → h.DictAt (mixKind P w) a vs ep) :
    Turn P w K tg (Itval a o kvs) [it] it (fun i h => h.IsValIter it a i vs.length ep) where
  mem := by simp
  obj := fun i h st b hb => by
    have e : b = it := by simpa using hb
    subst e
    obtain ⟨o, e, c, d⟩ := st
    exact ⟨o, e, fun v z => by rw [d] at z; cases z⟩
  keep := fun i h h' st k => st.at fun o e => k it (by simp) o e
  item := by
    intro X hP hw hK hc i pins s σ H E I hf st hg
    subst hP hw hK
    obtain ⟨hi, ha⟩ := hg
    have hl := rel.length
    obtain ⟨⟨k, u⟩, hv⟩ : ∃ p, vs[i]? = some p := ⟨vs[i]'(by omega), List.getElem?_eq_getElem (by omega)⟩
    obtain ⟨kv, hkv, ru⟩ := rel.val_at hv
    obtain ⟨f0, f1, f2, f3, f4, f5⟩ := hf it (by simp)
    refine wpAny_pyNext_values_item st (hx _ (dx_rd I.hok ha)) hv fun h' st' sb => ?_
    have I1 : Inv X pins σ H { s with heap := h' } := I.turned (t' := s.toks) (fun b o hb e => (sb.2 b hb).trans e) f0 f1 f3 f4 f5
    obtain ⟨o, e, c, d⟩ := id st'
    exact ⟨u, rfl, go_of (s := { s with heap := h' }) e c d (by decide) ⟨kv.2, H, I1, ru, ⟨rfl, kv, hkv, rfl⟩, st', fun b hb => (hf b hb).1⟩⟩
  done := by
    intro X hP hw hK hc i pins s σ H E I hf st hg
    subst hP hw hK
    obtain ⟨hi, ha⟩ := hg
    have hl := rel.length
    obtain ⟨f0, f1, f2, f3, f4, f5⟩ := hf it (by simp)
    exact wpAny_pyNext_values_end (I.ok.hd hc) st (hx _ (dx_rd I.hok ha)) (List.getElem?_eq_none (by omega)) fun h' eb => ⟨rfl, I.turned (t' := s.toks) (fun b o hb e => eb b o hb e) f0 f1 f3 f4 f5⟩
  self := fun _ _ _ _ _ st h => wpAny_pyIter_valiter st h
inductive J_iVals (P : Program) (w : World) (R : It → Hp → Prop) (x : V) (H1 : Hp) : Prop
  | mk (a : Addr) (kvs : List (Key × V)) (e : x = .ref a) (ea : H1 a = some (.dK kvs)) (q : ∀ o, DXo P w a o kvs → R (Itval a o kvs) (upd H1 a (Ext a o))) : J_iVals P w R x H1
noncomputable def iVals (P : Program) (w : World) (tl : TE) : TI := fun σ H R => tl σ H fun x H1 => J_iVals P w R x H1
theorem pi_vals {X : Cx} {tg o : Expr} {tl : TE} {apos cpos : Pos} (ho : PE X o tl) (hbase : attributeBase o "values" X.env (eval o X.env) = eval o X.env := by rfl) (hline : (apos.endLine == cpos.line) = true := by rfl) :
    PI X tg (.Call (.Attribute o "values" apos) [] [] cpos) (iVals X.prog X.w tl) := by
  intro pins s σ H R I h
  refine wpAny_Call_method0_late hbase hline (thn (ho pins s σ H _ I h) fun v s1 ⟨x, H0, I0, r1, q1⟩ => ?_)
  obtain ⟨a, kvs, e, ea0, q⟩ := q1
  subst e
  obtain rfl : v = Value.ref a := r1
  obtain ⟨ob, dx, I1⟩ := I0.freeze ea0
  have q := q ob dx
  have ea : (upd H0 a (Ext a ob)) a = some (Ext a ob) := upd_same
  generalize upd H0 a (Ext a ob) = H1 at I1 q ea
  obtain ⟨z, hd, vs, ep, rel, hx⟩ := dx
  have hat := hx _ (dx_rd I1.hok ea)
  have hdo : s1.heap.DictOf (mixKind X.prog X.w) a vs := by
    obtain ⟨o', es, h1, h2, h3, h4, h5, h6⟩ := hat
    exact ⟨o', es, ep, h1, h2, h3, h4, h5, h6⟩
  have hob : ∀ b, Value.ref a = .ref b → ∃ o', s1.heap.get? b = some o' ∧ o'.dict = none := fun b e => by
    cases e
    obtain ⟨o', es, h1, h2, _⟩ := hat
    exact ⟨o', h1, h2.2.1⟩
  refine ⟨"dict", "dict.values", PySem.F.plainAttrs_dict, PySem.F.slot_dict_values, PySem.F.type_dict_values, hdo.typeIs, hob, Calls.callWith_builtin rfl (PySem.evalArgs_none ?_)⟩
  refine call_meetsIn PySem.F.slot_dict_values hdo.typeIs PySem.F.entry_dict_values (PySem.F.args_dict_values_1 _) (meets_dict_values (mixKind X.prog X.w) a hd) ⟨⟨vs, hdo⟩, ?_⟩
  have kp : ∀ b o', s1.heap.get? b = some o' → (s1.heap.push { cls := .type "dict_values", data := .fields #[.ref a] }).get? b = some o' := fun b o' e => Heap.get?_push_of_some _ e
  have I2 : Inv X pins σ H1 { s1 with heap := s1.heap.push { cls := .type "dict_values", data := .fields #[.ref a] } } := I1.kept (t' := s1.toks) kp
  refine wpAny_pyIter_values (knd := mixKind X.prog X.w) (d := a) (kvs := vs) (ep := ep) ⟨_, Heap.get?_push_size _ rfl, rfl, rfl⟩ (hx _ (dx_rd I2.hok ea)) ?_
  refine ⟨_, [_], _, _, H1, rfl, I2.kept (t' := s1.toks) fun b o e => Heap.get?_push_of_some _ e, turn_vals a _ rel hx, ⟨_, Heap.get?_push_size _ rfl, rfl, rfl⟩, fun b hb => ?_, q⟩
  have e : b = (s1.heap.push { cls := .type "dict_values", data := .fields #[.ref a] }).objs.size := by simpa using hb
  subst e
  exact I2.fpOk (Nat.le_refl _) (I2.hok.fresh (Nat.le_refl _))
theorem for_vals {a : Addr} {o : Obj} {kvs : List (Key × V)} {g : TG} {tb : TS} {D : Ends} {σ : St} {H : Hp} (Pv : Nat → St → Hp → Prop) (h0 : Pv 0 σ H) (hl : ∀ i σ H, i ≤ kvs.length → Pv i σ H → H a = some (Ext a o))
    (hs : ∀ i (kv : Key × V) σ H, kvs[i]? = some kv → Pv i σ H → g kv.2 σ H fun σ2 H2 => tb { D with nx := Pv (i + 1), ct := Pv (i + 1), bk := D.nx } σ2 H2) (hd : ∀ σ H, Pv kvs.length σ H → D.nx σ H) :
    ∃ W : Nat → Nat → St → Hp → Prop, (∃ m, W 0 m σ H) ∧ ∀ i m σ H, W i m σ H →
      ((Itval a o kvs).stop i H ∧ D.nx σ H) ∨ ((Itval a o kvs).go i H ∧ ∃ N : St → Hp → Prop, (∀ σ' H', N σ' H' → ∃ m', m' < m ∧ W (i + 1) m' σ' H') ∧ ∀ x H', (Itval a o kvs).yld i H x H' → g x σ H' fun σ2 H2 => tb { D with nx := N, ct := N, bk := D.nx } σ2 H2) := by
  refine ⟨fun i m σ H => m = kvs.length - i ∧ i ≤ kvs.length ∧ Pv i σ H, ⟨kvs.length, by simp, Nat.zero_le _, h0⟩, ?_⟩
  rintro i m σ H ⟨rfl, hi, hp⟩
  by_cases hlt : i < kvs.length
  · refine .inr ⟨⟨hlt, hl i σ H hi hp⟩, Pv (i + 1), fun σ' H' h' => ⟨kvs.length - (i + 1), by omega, rfl, hlt, h'⟩, ?_⟩
    rintro x H' ⟨rfl, kv, hkv, rfl⟩
    exact hs i kv σ _ hkv hp
  · have e : i = kvs.length := by omega
    subst e
    exact .inl ⟨⟨Nat.le_refl _, hl _ σ H hi hp⟩, hd σ H hp⟩
end L2
namespace L2
open PySem PySem.Spec PyProof.Rows
section
variable {prog : Program} {w : World} {A : Around} {E : Value → Shared → Prop} {s : Shared}
theorem stop_it {α : Type} {Q : α → Shared → Prop} (hh : A.handled = none) (hE : ∀ h' e, (∀ c o, s.heap.get? c = some o → h'.get? c = some o) → (∃ o, h'.get? e = some o ∧ o.cls = .type "StopIteration") → E (.ref e) { s with heap := h' }) :
    wpAny (model prog w) A (Builtin.SmallTypes.stopIteration : Sem α) Q E s := by
  show wpAny _ _ (newExc (.type "StopIteration") [] >>= _) _ _ _
  simp only [newExc, newTuple]
  refine wpAny_bind ?_
  wp_walk
  simp only [raiseNew]
  refine wpAny_bind (wpAny_handled ?_)
  rw [hh]
  refine wpAny_bind (wpAny_pure (wpAny_throw ?_))
  exact hE _ _ (fun c o e => Heap.get?_push_of_some _ (Heap.get?_push_of_some _ e)) ⟨_, Heap.get?_push_size _ rfl, rfl⟩
theorem nextT_item {it t : Addr} {i : Nat} {items : Array Value} {x : Value} {Q : Value → Shared → Prop} (hit : s.heap.IsTupleIter it t i) (ht : s.heap.IsTuple t items) (hx : items[i]? = some x)
    (hQ : ∀ h', h'.IsTupleIter it t (i + 1) → Heap.SameBut it s.heap h' → Q x { s with heap := h' }) : wpAny (model prog w) A (Builtin.SmallTypes.nextOf (.ref it)) Q E s := by
  obtain ⟨o, ho, hc, hd⟩ := id hit
  obtain ⟨ol, hol, _, nl, hdl⟩ := ht
  unfold Builtin.SmallTypes.nextOf
  refine wpAny_bind (wpAny_callSpecial?_slot (name := Str.ofString "__next__") hit.typeIs F.slot_tuple_iterator_next (wpAny_call_entry F.slot_tuple_iterator_next hit.typeIs F.entry_tuple_iterator_next ?_ (F.args_tuple_iterator_next_1 _)))
  wp_walk using wpAny_field ho hd (x := .ref t) rfl, wpAny_field ho hd (x := .int i 0) rfl, wpAny_seqItems hol hdl
  rw [Int.toNat_natCast, hx]
  refine wpAny_bind (wpAny_setField ho hd (by simp) (wpAny_pure ⟨x, rfl, wpAny_pure (hQ _ ?_ (Heap.SameBut.update ..))⟩))
  exact ⟨_, Heap.get?_update_self _ ho (Obj.isFreed_of_fields (Obj.data_mapFields hd _)), (Obj.cls_mapFields ..).trans hc, by rw [Obj.data_mapFields hd]; simp [rawInt]⟩
theorem nextT_end {it t : Addr} {i : Nat} {items : Array Value} {Q : Value → Shared → Prop} (hh : A.handled = none) (hit : s.heap.IsTupleIter it t i) (ht : s.heap.IsTuple t items) (hx : items[i]? = none)
    (hE : ∀ h' e, Heap.ExtBut it s.heap h' → (∃ o, h'.get? e = some o ∧ o.cls = .type "StopIteration") → E (.ref e) { s with heap := h' }) : wpAny (model prog w) A (Builtin.SmallTypes.nextOf (.ref it)) Q E s := by
  obtain ⟨o, ho, hc, hd⟩ := id hit
  obtain ⟨ol, hol, _, nl, hdl⟩ := ht
  unfold Builtin.SmallTypes.nextOf
  refine wpAny_bind (wpAny_callSpecial?_slot (name := Str.ofString "__next__") hit.typeIs F.slot_tuple_iterator_next (wpAny_call_entry F.slot_tuple_iterator_next hit.typeIs F.entry_tuple_iterator_next ?_ (F.args_tuple_iterator_next_1 _)))
  wp_walk using wpAny_field ho hd (x := .ref t) rfl, wpAny_field ho hd (x := .int i 0) rfl, wpAny_seqItems hol hdl
  rw [Int.toNat_natCast, hx]
  refine wpAny_bind (wpAny_rule (wpAny_bind (wpAny_setField ho hd (by simp) ?_)))
  exact stop_it hh fun h' e hk he => hE h' e (fun c o n q => hk c o ((Heap.SameBut.update ..).extBut c o n q)) he
structure ZT (z TI TO i1 i2 t1 t2 : Addr) (f0 : Value) (k : Nat) (h : Heap) : Prop where
  hz : IsZip h z TI TO f0
  hTI : IsPair h TI (.ref i1) (.ref i2)
  hTO : ∃ a b, IsPair h TO a b
  h1 : h.IsTupleIter i1 t1 k
  h2 : h.IsTupleIter i2 t2 k
structure ZLeft (z TO i1 i2 : Addr) (h h' : Heap) : Prop where
  but : ∀ c o, c ≠ z → c ≠ TO → c ≠ i1 → c ≠ i2 → h.get? c = some o → h'.get? c = some o
theorem tI_but {it t c : Addr} {k : Nat} {h h' : Heap} (x : h.IsTupleIter it t k) (e : Heap.ExtBut c h h') (n : it ≠ c) : h'.IsTupleIter it t k := let ⟨o, a, b, d⟩ := x; ⟨o, e it o n a, b, d⟩
theorem tT_but {t c : Addr} {xs : Array Value} {h h' : Heap} (x : h.IsTuple t xs) (e : Heap.ExtBut c h h') (n : t ≠ c) : h'.IsTuple t xs := let ⟨o, a, b, m, d⟩ := x; ⟨o, e t o n a, b, m, d⟩
theorem zipT_item {z TI TO i1 i2 t1 t2 : Addr} {k : Nat} {xs ys : Array Value} {x y : Value} {Q : Value → Shared → Prop} (D : ZipApart z TI TO i1 i2 t1 t2) (Z : ZT z TI TO i1 i2 t1 t2 .none k s.heap)
    (l1 : s.heap.IsTuple t1 xs) (l2 : s.heap.IsTuple t2 ys) (hx : xs[k]? = some x) (hy : ys[k]? = some y)
    (hQ : ∀ h', ZT z TI TO i1 i2 t1 t2 (rawInt s.heap.objs.size) (k + 1) h' → IsPair h' s.heap.objs.size x y → ZLeft z TO i1 i2 s.heap h' → Q (.ref s.heap.objs.size) { s with heap := h' }) :
    wpAny (model prog w) A (Builtin.«zip.__next__» ⟨[.ref z], []⟩) (fun fin s' => ∃ v, fin = .done (.ret v) ∧ Q v s') E s := by
  obtain ⟨hz, hTI, ⟨a, b, hTO⟩, h1, h2⟩ := Z
  refine (show wpAny _ _ (field (.ref z) 2 >>= _) _ _ _ from wpAny_bind (wpAny_field hz rfl (x := .bool false) rfl (show wpAny _ _ (field (.ref z) 3 >>= _) _ _ _ from wpAny_bind (wpAny_field hz rfl (x := .ref TI) rfl (wpAny_bind (wpAny_seqItems hTI rfl ?_))))))
  refine (show wpAny _ _ (Builtin.SmallTypes.ownedTupleIsFree (.ref z) >>= _) _ _ _ from wpAny_bind ?_)
  unfold Builtin.SmallTypes.ownedTupleIsFree
  refine wpAny_bind (wpAny_field hz rfl (x := .none) rfl (wpAny_pure ?_)); simp only [if_true]
  refine wpAny_bind (wpAny_rule (wpAny_bind (wpAny_field hz rfl (x := .ref TO) rfl (wpAny_bind (wpAny_setField_rec hz (by simp) fun g1 z1 s1 => ?_)))))
  have z1 : IsZip g1 z TI TO .ellipsis := z1
  refine wpAny_bind ?_
  simp only [List.zipIdx_nil, List.zipIdx_cons, List.forIn_nil, List.forIn_cons]; refine wpAny_bind (wpAny_bind (wpAny_onRaise ?_))
  refine (show wpAny _ _ (Builtin.SmallTypes.nextOf (.ref i1) >>= _) _ _ _ from wpAny_bind (nextT_item (tI_but h1 s1.extBut D.i1z) (tT_but l1 s1.extBut D.l1z) hx fun g2 n1 s2 => wpAny_pure ?_))
  have o2 : IsPair g2 TO a b := s2.extBut _ _ D.TOi1 (s1.extBut _ _ D.TOz hTO)
  refine wpAny_bind (wpAny_seqItems o2 rfl (wpAny_bind (wpAny_updateSeq_pair o2 fun g3 o3 s3 => wpAny_bind (wpAny_letGo (wpAny_pure (wpAny_bind (wpAny_bind (wpAny_onRaise ?_))))))))
  have o3 : IsPair g3 TO x b := o3
  refine (show wpAny _ _ (Builtin.SmallTypes.nextOf (.ref i2) >>= _) _ _ _ from wpAny_bind (nextT_item (tI_but (tI_but (tI_but h2 s1.extBut D.i2z) s2.extBut D.i12.symm) s3.extBut D.TOi2.symm)
    (tT_but (tT_but (tT_but l2 s1.extBut D.l2z) s2.extBut D.l2i1) s3.extBut D.l2TO) hy fun g4 n2 s4 => wpAny_pure ?_))
  have o4 : IsPair g4 TO x b := s4.extBut _ _ D.TOi2 o3
  refine wpAny_bind (wpAny_seqItems o4 rfl (wpAny_bind (wpAny_updateSeq_pair o4 fun g5 o5 s5 => wpAny_bind (wpAny_letGo (wpAny_pure (wpAny_pure (wpAny_bind (wpAny_seqItems (show IsPair g5 TO x y from o5) rfl (wpAny_bind (wpAny_newTuple ?_)))))))))) 
  have o5 : IsPair g5 TO x y := o5
  have sz : g5.objs.size = s.heap.objs.size := by rw [s5.1, s4.1, s3.1, s2.1, s1.1]
  have z5 : IsZip g5 z TI TO .ellipsis := s5.extBut _ _ D.TOz.symm (s4.extBut _ _ D.i2z.symm (s3.extBut _ _ D.TOz.symm (s2.extBut _ _ D.i1z.symm z1)))
  have k5 : ∀ c o, c ≠ z → c ≠ TO → c ≠ i1 → c ≠ i2 → s.heap.get? c = some o → g5.get? c = some o := fun c o c1 c2 c3 c4 e => s5.extBut _ _ c2 (s4.extBut _ _ c4 (s3.extBut _ _ c2 (s2.extBut _ _ c3 (s1.extBut _ _ c1 e))))
  have n15 : g5.IsTupleIter i1 t1 (k + 1) := tI_but (tI_but (tI_but n1 s3.extBut D.TOi1.symm) s4.extBut D.i12) s5.extBut D.TOi1.symm
  have n25 : g5.IsTupleIter i2 t2 (k + 1) := tI_but n2 s5.extBut D.TOi2.symm
  have zlt : z < g5.objs.size := Heap.lt_size z5
  refine (show wpAny _ _ (Builtin.SmallTypes.ownedTupleHandOut (.ref z) (.ref g5.objs.size) >>= _) _ _ _ from wpAny_bind ?_)
  unfold Builtin.SmallTypes.ownedTupleHandOut
  refine wpAny_bind (wpAny_setField_rec (show IsZip (g5.push { cls := .type "tuple", data := .seq #[x, y] }) z TI TO .ellipsis from Heap.get?_push_of_some _ z5) (by simp) fun g7 z7 s7 => ?_)
  refine wpAny_setField_rec (show IsZip g7 z TI TO (rawInt g5.objs.size) from z7) (by simp) fun g8 z8 s8 => ?_
  have z8 : IsZip g8 z TI TO (rawInt g5.objs.size) := z8
  have up : ∀ c o, c ≠ z → g5.get? c = some o → g8.get? c = some o := fun c o c1 e => s8.extBut _ _ c1 (s7.extBut _ _ c1 (Heap.get?_push_of_some _ e))
  have t8 : IsPair g8 g5.objs.size x y := s8.extBut _ _ (Nat.ne_of_gt zlt) (s7.extBut _ _ (Nat.ne_of_gt zlt) (Heap.get?_push_size _ rfl))
  have i8 : IsPair g8 TI (.ref i1) (.ref i2) := up _ _ D.TIz (k5 _ _ D.TIz D.TITO D.TIi1 D.TIi2 hTI)
  refine wpAny_pure ⟨_, rfl, ?_⟩
  rw [sz] at z8 t8
  show Q (.ref g5.objs.size) _
  rw [sz]
  refine hQ g8 ⟨z8, i8, ⟨_, _, up _ _ D.TOz o5⟩, ?_, ?_⟩ t8 ⟨fun c o c1 c2 c3 c4 e => up c o c1 (k5 c o c1 c2 c3 c4 e)⟩
  · exact let ⟨o, q, r⟩ := n15; ⟨o, up _ o D.i1z q, r⟩
  · exact let ⟨o, q, r⟩ := n25; ⟨o, up _ o D.i2z q, r⟩
theorem zipT_end {z TI TO i1 i2 t1 t2 : Addr} {k : Nat} {xs : Array Value} {Q : Fin → Shared → Prop} (hh : A.handled = none) (D : ZipApart z TI TO i1 i2 t1 t2) (Z : ZT z TI TO i1 i2 t1 t2 .none k s.heap)
    (l1 : s.heap.IsTuple t1 xs) (hx : xs[k]? = none) (hE : ∀ h' e, ZLeft z TO i1 i2 s.heap h' → (∃ o, h'.get? e = some o ∧ o.cls = .type "StopIteration") → E (.ref e) { s with heap := h' }) :
    wpAny (model prog w) A (Builtin.«zip.__next__» ⟨[.ref z], []⟩) Q E s := by
  obtain ⟨hz, hTI, ⟨a, b, hTO⟩, h1, h2⟩ := Z
  refine (show wpAny _ _ (field (.ref z) 2 >>= _) _ _ _ from wpAny_bind (wpAny_field hz rfl (x := .bool false) rfl (show wpAny _ _ (field (.ref z) 3 >>= _) _ _ _ from wpAny_bind (wpAny_field hz rfl (x := .ref TI) rfl (wpAny_bind (wpAny_seqItems hTI rfl ?_))))))
  refine (show wpAny _ _ (Builtin.SmallTypes.ownedTupleIsFree (.ref z) >>= _) _ _ _ from wpAny_bind ?_)
  unfold Builtin.SmallTypes.ownedTupleIsFree
  refine wpAny_bind (wpAny_field hz rfl (x := .none) rfl (wpAny_pure ?_)); simp only [if_true]
  refine wpAny_bind (wpAny_rule (wpAny_bind (wpAny_field hz rfl (x := .ref TO) rfl (wpAny_bind (wpAny_setField_rec hz (by simp) fun g1 z1 s1 => ?_)))))
  have z1 : IsZip g1 z TI TO .ellipsis := z1
  refine wpAny_bind ?_
  simp only [List.zipIdx_nil, List.zipIdx_cons, List.forIn_nil, List.forIn_cons]; refine wpAny_bind (wpAny_bind (wpAny_onRaise ?_))
  refine (show wpAny _ _ (Builtin.SmallTypes.nextOf (.ref i1) >>= _) _ _ _ from wpAny_bind (nextT_end hh (tI_but h1 s1.extBut D.i1z) (tT_but l1 s1.extBut D.l1z) hx fun g2 e s2 he => ?_))
  obtain ⟨oe, hoe, hce⟩ := he
  have z2 : IsZip g2 z TI TO .ellipsis := s2 _ _ D.i1z.symm z1
  have ne : e ≠ z := fun q => by subst q; rw [z2] at hoe; cases hoe; exact absurd (Value.type.inj hce) (by decide)
  exact wpAny_setField_rec z2 (by simp) fun g3 _ s3 => hE g3 e ⟨fun c o c1 _ c3 _ q => s3.extBut _ _ c1 (s2 _ _ c3 (s1.extBut _ _ c1 q))⟩ ⟨oe, s3.extBut _ _ ne hoe, hce⟩
theorem zipT_next {z TI TO i1 i2 t1 t2 : Addr} {k : Nat} {xs ys : Array Value} {x y : Value} {Q : Option Value → Shared → Prop} (D : ZipApart z TI TO i1 i2 t1 t2) (Z : ZT z TI TO i1 i2 t1 t2 .none k s.heap)
    (l1 : s.heap.IsTuple t1 xs) (l2 : s.heap.IsTuple t2 ys) (hx : xs[k]? = some x) (hy : ys[k]? = some y)
    (hQ : ∀ h', ZT z TI TO i1 i2 t1 t2 (rawInt s.heap.objs.size) (k + 1) h' → IsPair h' s.heap.objs.size x y → ZLeft z TO i1 i2 s.heap h' → Q (some (.ref s.heap.objs.size)) { s with heap := h' }) :
    wpAny (model prog w) A (pyNext (.ref z)) Q E s := by
  have ty : s.TypeIs (.ref z) "zip" := ⟨_, Z.hz, rfl⟩
  unfold pyNext
  exact wpAny_bind (wpAny_attempt (wpAny_callSpecial?_slot (name := Str.ofString "__next__") ty F.slot_zip_next (wpAny_call_entry F.slot_zip_next ty F.entry_zip_next (zipT_item D Z l1 l2 hx hy fun h' a b c => wpAny_pure (hQ h' a b c)) (F.args_zip_next_1 _))))
theorem zipT_done {z TI TO i1 i2 t1 t2 : Addr} {k : Nat} {xs : Array Value} {Q : Option Value → Shared → Prop} (hh : A.handled = none) (D : ZipApart z TI TO i1 i2 t1 t2) (Z : ZT z TI TO i1 i2 t1 t2 .none k s.heap)
    (l1 : s.heap.IsTuple t1 xs) (hx : xs[k]? = none) (hQ : ∀ h', ZLeft z TO i1 i2 s.heap h' → Q none { s with heap := h' }) : wpAny (model prog w) A (pyNext (.ref z)) Q E s := by
  have ty : s.TypeIs (.ref z) "zip" := ⟨_, Z.hz, rfl⟩
  unfold pyNext
  refine wpAny_bind (wpAny_attempt (wpAny_callSpecial?_slot (name := Str.ofString "__next__") ty F.slot_zip_next (wpAny_call_entry F.slot_zip_next ty F.entry_zip_next (zipT_end hh D Z l1 hx fun h' e hk he => ?_) (F.args_zip_next_1 _))))
  exact let ⟨o, ho, hc⟩ := he; wpAny_bind (wpAny_isInstance (T := "StopIteration") (b := true) ⟨o, ho, hc⟩ isSubtype_stop (wpAny_pure (hQ _ hk)))
end
noncomputable abbrev zT1 (h : Heap) (a : Addr) : Heap := h.push { cls := .type "tuple_iterator", data := .fields #[.ref a, .int 0 0] }
noncomputable abbrev zT2 (h : Heap) (a b : Addr) : Heap := zT1 (zT1 h a) b
noncomputable abbrev zT3 (h : Heap) (a b : Addr) : Heap := (zT2 h a b).push { cls := .type "tuple", data := .seq #[.ref h.objs.size, .ref (zT1 h a).objs.size] }
noncomputable abbrev zT4 (h : Heap) (a b : Addr) : Heap := (zT3 h a b).push { cls := .type "tuple", data := .seq #[.none, .none] }
noncomputable abbrev zT5 (h : Heap) (a b : Addr) : Heap := (zT4 h a b).push { cls := .type "zip", data := .fields #[.none, .bool false, .bool false, .ref (zT2 h a b).objs.size, .ref (zT3 h a b).objs.size] }
theorem zipT_meets (a b : Addr) (xs ys : Array Value) : Meets (Builtin.«zip.__new__» ⟨[.type "zip", .ref a, .ref b], []⟩) (fun _ R s => s.heap.IsTuple a xs ∧ s.heap.IsTuple b ys ∧
      R (.ok (.ret (.ref (zT4 s.heap a b).objs.size))) { s with heap := zT5 s.heap a b }) :=
  .of_wp fun prog w A R s h => by
    obtain ⟨hp, g, d, tk, os⟩ := s; obtain ⟨ha, hb, h⟩ := h
    have sub := sub_zip
    have A1 : Heap.IsTuple (Shared.heap ⟨hp, g, d, tk, os⟩) a xs := ha
    have B1 : Heap.IsTuple (Shared.heap ⟨zT1 hp a, g, d, tk, os⟩) b ys := let ⟨o, e, r⟩ := hb; ⟨o, Heap.get?_push_of_some _ e, r⟩
    wp_walk using wpAny_pyIter_tuple A1, wpAny_pyIter_tuple B1
    exact ⟨_, rfl, h⟩
end L2
namespace L2
open PySem PySem.Spec PyProof.Rows
section
variable {prog : Program} {w : World} {A : Around} {E : Value → Shared → Prop} {s : Shared}
theorem zipT_call {a b : Addr} {xs ys : Array Value} {Q : Value → Shared → Prop} (ha : s.heap.IsTuple a xs) (hb : s.heap.IsTuple b ys)
    (h : ∀ h', ZT (s.heap.objs.size + 4) (s.heap.objs.size + 2) (s.heap.objs.size + 3) s.heap.objs.size (s.heap.objs.size + 1) a b .none 0 h' → (∀ c o, s.heap.get? c = some o → h'.get? c = some o) → Q (.ref (s.heap.objs.size + 4)) { s with heap := h' }) :
    wpAny (model prog w) A (call (.type "zip") [.ref a, .ref b]) Q E s := by
  refine callType_new F.called_zip (by decide) (F.typeCall_zip_2 _ _) (F.newCall_zip_2 _ _) (fun obj => F.args_object_init_3 obj _ _) F.entry_zip_new (zipT_meets a b xs ys) ⟨ha, hb, ?_⟩
  have e1 : (zT1 s.heap a).objs.size = s.heap.objs.size + 1 := Heap.size_push ..
  have e2 : (zT2 s.heap a b).objs.size = s.heap.objs.size + 2 := by rw [Heap.size_push, e1]
  have e3 : (zT3 s.heap a b).objs.size = s.heap.objs.size + 3 := by rw [Heap.size_push, e2]
  have e4 : (zT4 s.heap a b).objs.size = s.heap.objs.size + 4 := by rw [Heap.size_push, e3]
  have up {h : Heap} {c : Addr} {o p : Obj} (x : h.get? c = some o) : (h.push p).get? c = some o := Heap.get?_push_of_some _ x
  have q5 : (zT5 s.heap a b).get? (zT4 s.heap a b).objs.size = some _ := Heap.get?_push_size _ rfl
  have q4 : (zT5 s.heap a b).get? (zT3 s.heap a b).objs.size = some _ := up (Heap.get?_push_size _ rfl)
  have q3 : (zT5 s.heap a b).get? (zT2 s.heap a b).objs.size = some _ := up (up (Heap.get?_push_size _ rfl))
  have q2 : (zT5 s.heap a b).get? (zT1 s.heap a).objs.size = some _ := up (up (up (Heap.get?_push_size _ rfl)))
  have q1 : (zT5 s.heap a b).get? s.heap.objs.size = some _ := up (up (up (up (Heap.get?_push_size _ rfl))))
  show _ ∧ _
  rw [e2, e3, e4] at q5
  rw [e1, e2] at q3
  rw [e3] at q4
  rw [e1] at q2
  rw [e4]
  exact ⟨⟨_, q5, rfl⟩, h _ ⟨q5, q3, ⟨_, _, q4⟩, ⟨_, q1, rfl, rfl⟩, ⟨_, q2, rfl, rfl⟩⟩ fun c o x => up (up (up (up (up x))))⟩
end
section
variable {X : Cx} {pins : List (Addr × Obj)} {σ : St} {H : Hp} {s : Shared} {h' : Heap}
theorem Inv.turnedM {ch : List Addr} {t' : Nat} (I : Inv X pins σ H s) (k : ∀ b o, b ∉ ch → s.heap.get? b = some o → h'.get? b = some o) (hf : ∀ b ∈ ch, FpOk X pins H b) : Inv X pins σ H { s with heap := h', toks := t' } := by
  have nit : ∀ b u, H b = some u → b ∉ ch := fun b u e z => by rw [(hf b z).1] at e; cases e
  refine I.step (g' := s.gens) (d' := s.drawn) (ch := ch) (fun b hb => ?_) (fun b o _ _ hc e _ => k b o hc e) (fun b o _ _ hc e _ => ⟨o.slots, k b o hc e⟩) (fun _ _ _ _ n => n)
    (fun b o hc e => ⟨o, k b o hc e⟩) (fun _ _ e => e) (fun _ _ _ e => e) (fun b ps e => ⟨#[], by rw [e]; simp⟩) (fun m hm => ?_) (fun b u e => ?_) I.bare
  · obtain ⟨_, f1, _, f3, f4, f5⟩ := hf b hb
    exact ⟨f3, f1, f4, f5⟩
  · obtain ⟨o, es, ep, ho, r⟩ := hm
    exact ⟨o, es, ep, k _ o (fun z => (hf _ z).2.1 rfl) ho, r⟩
  · refine (I.hok b u e).stay (fun c v hc q => k c v ?_ q) (fun _ q => q) fun _ _ q => q
    rcases hc with z | z
    · rw [z]; exact nit b u e
    · exact nit c _ z
end
noncomputable def Itz (K : PySem.W.Frag) (a b : Addr) : It :=
  ⟨fun i H => ∃ xs ys x y, SqT K H a xs ∧ SqT K H b ys ∧ xs[i]? = some x ∧ ys[i]? = some y,
   fun i H r H' => ∃ p u v, H p = none ∧ r = .ref p ∧ (∀ xs, SqT K H a xs → xs[i]? = some u) ∧ (∀ ys, SqT K H b ys → ys[i]? = some v) ∧ H' = upd H p (.tup [u, v]),
   fun i H => ∃ xs, SqT K H a xs ∧ xs.length = i⟩
theorem turn_zipT {P : Program} {w : World} {K : PySem.W.Frag} {elts : List Expr} {k : Nat} {tp : Pos} (a b z TI TO i1 i2 : Addr) (D : ZipApart z TI TO i1 i2 a b) :
    Turn P w K (.Tuple elts k tp) (Itz K a b) [z, TI, TO, i1, i2] z (ZT z TI TO i1 i2 a b .none) where
  mem := by simp
  obj := fun i h st c hc => by
    obtain ⟨hz, hTI, ⟨x, y, hTO⟩, ⟨o1, q1, _, d1⟩, ⟨o2, q2, _, d2⟩⟩ := st
    simp only [List.mem_cons, List.not_mem_nil, or_false] at hc
    rcases hc with rfl | rfl | rfl | rfl | rfl
    · exact ⟨_, hz, fun v e => nomatch (show Data.fields _ = Data.cell v from e)⟩
    · exact ⟨_, hTI, fun v e => nomatch (show Data.seq _ _ = Data.cell v from e)⟩
    · exact ⟨_, hTO, fun v e => nomatch (show Data.seq _ _ = Data.cell v from e)⟩
    · exact ⟨o1, q1, fun v e => by rw [d1] at e; cases e⟩
    · exact ⟨o2, q2, fun v e => by rw [d2] at e; cases e⟩
  keep := fun i h h' st k => by
    obtain ⟨hz, hTI, ⟨x, y, hTO⟩, ⟨o1, q1, r1⟩, ⟨o2, q2, r2⟩⟩ := st
    exact ⟨k z (by simp) _ hz, k TI (by simp) _ hTI, ⟨x, y, k TO (by simp) _ hTO⟩, ⟨o1, k i1 (by simp) _ q1, r1⟩, ⟨o2, k i2 (by simp) _ q2, r2⟩⟩
  item := by
    intro X hP hw hK hc i pins s σ H E I hf st hg
    subst hP hw hK
    obtain ⟨xs, ys, x, y, hq, hr, hx, hy⟩ := hg
    obtain ⟨its, rv, p, _⟩ := I.tuple hq
    obtain ⟨jts, rv', p', _⟩ := I.tuple hr
    obtain ⟨u, hu, ru⟩ := rv.get hx
    obtain ⟨v, hv, rw'⟩ := rv'.get hy
    refine zipT_next D st (show s.heap.IsTuple a its.toArray from p) (show s.heap.IsTuple b jts.toArray from p') (x := u) (y := v) (by simpa using hu) (by simpa using hv) fun h1 Z1 T1 L1 => ?_
    have hlt : ∀ c o, s.heap.get? c = some o → c ≠ s.heap.objs.size := fun c o e => Nat.ne_of_lt (Heap.lt_size e)
    have zl := hlt z _ st.hz
    refine ⟨_, rfl, wpAny_letOwnedTupleGo_zip Z1.hz fun h2 hz2 hs2 => ?_⟩
    have ext := hs2.extBut
    have kk : ∀ c o, c ∉ [z, TI, TO, i1, i2] → s.heap.get? c = some o → h2.get? c = some o := fun c o hc q => by
      have c1 : c ≠ z := fun e => hc (by simp [e])
      exact ext _ _ c1 (L1.but c o c1 (fun e => hc (by simp [e])) (fun e => hc (by simp [e])) (fun e => hc (by simp [e])) q)
    have st2 : ZT z TI TO i1 i2 a b .none (i + 1) h2 := by
      obtain ⟨_, hTI, ⟨x', y', hTO⟩, n1, n2⟩ := Z1
      exact ⟨hz2, ext _ _ D.TIz hTI, ⟨x', y', ext _ _ D.TOz hTO⟩, tI_but n1 ext D.i1z, tI_but n2 ext D.i2z⟩
    refine ⟨.ref s.heap.objs.size, upd H s.heap.objs.size (.tup [x, y]), ?_, rfl, ⟨_, x, y, I.hok.fresh (Nat.le_refl _), rfl, fun zs hz => by rw [I.tuple_inj hz hq]; exact hx, fun zs hz => by rw [I.tuple_inj hz hr]; exact hy, rfl⟩, st2, fun c hc => ?_⟩
    · refine I.turnedLaid (ch := [z, TI, TO, i1, i2]) (t' := s.toks) kk hf (Nat.le_refl _) ⟨by show 2 ≤ sizeLine; decide, [u, v], .cons ru (.cons rw' .nil), ?_⟩
      exact ⟨_, ext _ _ zl.symm T1, rfl, _, rfl, rfl⟩
    · have : c ≠ s.heap.objs.size := by
        obtain ⟨_, hTI, ⟨_, _, hTO⟩, ⟨_, q1, _⟩, ⟨_, q2, _⟩⟩ := st
        simp only [List.mem_cons, List.not_mem_nil, or_false] at hc
        rcases hc with rfl | rfl | rfl | rfl | rfl
        · exact zl
        · exact hlt _ _ hTI
        · exact hlt _ _ hTO
        · exact hlt _ _ q1
        · exact hlt _ _ q2
      rw [upd_ne this]
      exact (hf c hc).1
  done := by
    intro X hP hw hK hc i pins s σ H E I hf st hg
    subst hP hw hK
    obtain ⟨xs, hq, hx⟩ := hg
    obtain ⟨its, rv, p, _⟩ := I.tuple hq
    have hl := rv.length
    refine zipT_done (I.ok.hd hc) D st (show s.heap.IsTuple a its.toArray from p) (by simp; omega) fun h1 L1 => ⟨rfl, ?_⟩
    refine I.turnedM (ch := [z, TI, TO, i1, i2]) (t' := s.toks) (fun c o hc q => L1.but c o (fun e => hc (by simp [e])) (fun e => hc (by simp [e])) (fun e => hc (by simp [e])) (fun e => hc (by simp [e])) q) hf
  self := fun _ _ _ _ _ st h => wpAny_pyIter_zip st.hz h
inductive J_iZipT (K : PySem.W.Frag) (R : It → Hp → Prop) (vs : List V) (H1 : Hp) : Prop
  | mk : ∀ a b xs ys, (vs = [.ref a, .ref b]) → (SqT K H1 a xs) → (SqT K H1 b ys) → (R (Itz K a b) H1) → J_iZipT K R vs H1
noncomputable def iZipT (K : PySem.W.Frag) (ta : TA) : TI := fun σ H R => ta σ H fun vs H1 => J_iZipT K R vs H1
theorem boot_zip : bootBuiltins "zip" = some (.type "zip") := by decide +kernel
section
variable {X : Cx}
theorem pi_zipT {l m : Expr} {ta : TA} {elts : List Expr} {k : Nat} {tp p pos : Pos} (hg : Gl X "zip") (hm : X.mg "zip" = none) (ha : PA X [l, m] ta)
    (he : starEach (l :: [m]) X.env = (false, eval l X.env) :: starEach [m] X.env := by rfl) (hpl : (backTo pos (starEach [m] X.env)).any (·.1) = false := by rfl) :
    PI X (.Tuple elts k tp) (.Call (.Name "zip" p) [l, m] [] pos) (iZipT X.K ta) := by
  intro pins s σ H R I h
  refine Call_ (ld_blt I hg hm boot_zip (PyProof.Rows.callWith_type1 (thn (ha pos pins s σ H _ I h) fun us s1 ⟨vs, H1, I1, r1, q1⟩ => ?_) he hpl))
  obtain ⟨a, b, xs, ys, e, hq, hr, q⟩ := q1
  subst e
  obtain ⟨u, v, rfl, ru, rv⟩ := vals2 r1
  cases ru; cases rv
  obtain ⟨its, _, pa, _⟩ := I1.tuple hq
  obtain ⟨jts, _, pb, _⟩ := I1.tuple hr
  have la : a < s1.heap.objs.size := let ⟨_, e, _⟩ := pa; Heap.lt_size e
  have lb : b < s1.heap.objs.size := let ⟨_, e, _⟩ := pb; Heap.lt_size e
  refine zipT_call (show s1.heap.IsTuple a its.toArray from pa) (show s1.heap.IsTuple b jts.toArray from pb) fun h1 Z1 hk => ?_
  have I2 : Inv X pins σ H1 { s1 with heap := h1 } := I1.kept (t' := s1.toks) hk
  have fp : ∀ c, s1.heap.objs.size ≤ c → FpOk X pins H1 c := fun c hc => I1.fpOk hc (I1.hok.fresh hc)
  refine wpAny_pyIter_zip (s := { s1 with heap := h1 }) Z1.hz ⟨_, [s1.heap.objs.size + 4, s1.heap.objs.size + 2, s1.heap.objs.size + 3, s1.heap.objs.size, s1.heap.objs.size + 1], _, _, H1, rfl, I2, turn_zipT a b _ _ _ _ _ (zipApart_new la lb), Z1, fun c hc => ?_, q⟩
  simp only [List.mem_cons, List.not_mem_nil, or_false] at hc
  rcases hc with rfl | rfl | rfl | rfl | rfl
  · exact fp _ (Nat.le_add_right ..)
  · exact fp _ (Nat.le_add_right ..)
  · exact fp _ (Nat.le_add_right ..)
  · exact fp _ (Nat.le_refl _)
  · exact fp _ (Nat.le_add_right ..)
end
theorem for_zipT {K : PySem.W.Frag} {a b : Addr} {xs ys : List V} {g : TG} {tb : TS} {D : Ends} {σ : St} {H : Hp} (hlen : xs.length = ys.length) (Pv : Nat → St → Hp → Prop) (h0 : Pv 0 σ H)
    (hl : ∀ i σ H, i ≤ xs.length → Pv i σ H → SqT K H a xs ∧ SqT K H b ys)
    (hs : ∀ i x y p σ H, xs[i]? = some x → ys[i]? = some y → Pv i σ H → H p = none → g (.ref p) σ (upd H p (.tup [x, y])) fun σ2 H2 => tb { D with nx := Pv (i + 1), ct := Pv (i + 1), bk := D.nx } σ2 H2) (hd : ∀ σ H, Pv xs.length σ H → D.nx σ H) :
    ∃ W : Nat → Nat → St → Hp → Prop, (∃ m, W 0 m σ H) ∧ ∀ i m σ H, W i m σ H →
      ((Itz K a b).stop i H ∧ D.nx σ H) ∨ ((Itz K a b).go i H ∧ ∃ N : St → Hp → Prop, (∀ σ' H', N σ' H' → ∃ m', m' < m ∧ W (i + 1) m' σ' H') ∧ ∀ x H', (Itz K a b).yld i H x H' → g x σ H' fun σ2 H2 => tb { D with nx := N, ct := N, bk := D.nx } σ2 H2) := by
  refine ⟨fun i m σ H => m = xs.length - i ∧ i ≤ xs.length ∧ Pv i σ H, ⟨xs.length, by simp, Nat.zero_le _, h0⟩, ?_⟩
  rintro i m σ H ⟨rfl, hi, p⟩
  obtain ⟨q, q'⟩ := hl i σ H hi p
  by_cases hlt : i < xs.length
  · have hlt' : i < ys.length := by omega
    refine .inr ⟨⟨xs, ys, xs[i], ys[i], q, q', by simp [hlt], by simp [hlt']⟩, Pv (i + 1), fun σ' H' p' => ⟨xs.length - (i + 1), by omega, rfl, hlt, p'⟩, fun x H' y => ?_⟩
    obtain ⟨pa, u, v, hpa, rfl, hu, hv, rfl⟩ := y
    exact hs i u v pa σ H (hu xs q) (hv ys q') p hpa
  · have e : i = xs.length := by omega
    subst e
    exact .inl ⟨⟨xs, q, rfl⟩, hd σ H p⟩
end L2
namespace L2
open PySem PySem.Spec PyProof.Rows
section
variable {P : Program} {w : World} {A : Around} {s : Shared}
open SeqAt MeetsSeq MeetsSeq2 MeetsSeq3 SeqRoads2
open AutoSeq1 (wpAny_loadPart')
end
end L2
namespace L2
open PySem PySem.Spec PyProof.Rows
end L2
namespace L2
open PySem PySem.Spec PyProof.Rows
section
open PySem.SeqAt
open PySem.AutoSeq1 (wpAny_loadPart')
open PySem.MeetsSeq PySem.MeetsSeq2 PySem.MeetsSeq3
theorem lt_loopAt (l b : Addr) (items items2 : Array Value) (n n2 : Nat) (dd dd2 : Option Addr) (sl sl2 : Array (Option Value)) (ns ms : List Int) (hi : IntsAre items.toList ns) (hj : IntsAre items2.toList ms) (k : Nat) :
    ∀ i : Nat, items.size - i = k → i ≤ items.size → i ≤ items2.size → Meets (Builtin.«list.__eq__.loop» ⟨[.ref l, .ref b, rawInt i, rawInt 0], []⟩)
      (fun A R s => s.heap.get? l = some { cls := .type "list", dict := dd, data := .seq items n, slots := sl } ∧ s.heap.get? b = some { cls := .type "list", dict := dd2, data := .seq items2 n2, slots := sl2 } ∧
        R (.ok (.ret (.bool (HT.lexLt (ns.drop i) (ms.drop i))))) s) := by
  have z1 : items.size = ns.length := by rw [← hi.length]; simp
  have z2 : items2.size = ms.length := by rw [← hj.length]; simp
  induction k with
  | zero =>
    intro i hk hle hle2 prog w A R s h
    obtain ⟨hp, g, d, tk, os⟩ := s; obtain ⟨hl, hb, h⟩ := h
    wp_walk using wpAny_loadPart' hl, wpAny_loadPart' hb
    have hi1 : items[((i : Nat) : Int).toNat]? = none := by simp; omega
    have hd : ns.drop i = [] := List.drop_of_length_le (by omega)
    rw [hd] at h
    rw [hi1]
    have hv : HT.lexLt [] (ms.drop i) = decide (items.size < items2.size) := by
      cases e : ms.drop i with
      | nil =>
        have := List.drop_eq_nil_iff.mp e
        exact (decide_eq_false (by omega)).symm
      | cons y ys =>
        have : ¬ ms.length ≤ i := fun z => by rw [List.drop_of_length_le z] at e; cases e
        exact (decide_eq_true (by omega)).symm
    rw [hv] at h
    wp_walk using wpAny_loadPart' hl, wpAny_loadPart' hb
    exact h
  | succ k ih =>
    intro i hk hle hle2 prog w A R s h
    obtain ⟨hp, g, d, tk, os⟩ := s; obtain ⟨hl, hb, h⟩ := h
    wp_walk using wpAny_loadPart' hl, wpAny_loadPart' hb
    have hlt : i < items.size := by omega
    have hc : ((i : Int) + 1) = ((i + 1 : Nat) : Int) := by push_cast; rfl
    have hi1 : items[((i : Nat) : Int).toNat]? = some items[i] := by simp [hlt]
    obtain ⟨a, t, ea, hna⟩ := IntsAre.at hi i items[i] (by simp [hlt])
    have d1 : ns.drop i = a :: ns.drop (i + 1) := by
      have := (List.getElem?_eq_some_iff.mp hna).2
      rw [List.drop_eq_getElem_cons (by omega), this]
    by_cases hlt2 : i < items2.size
    · have hi2 : items2[((i : Nat) : Int).toNat]? = some items2[i] := by simp [hlt2]
      obtain ⟨c, u, ec, hnc⟩ := IntsAre.at hj i items2[i] (by simp [hlt2])
      have d2 : ms.drop i = c :: ms.drop (i + 1) := by
        have := (List.getElem?_eq_some_iff.mp hnc).2
        rw [List.drop_eq_getElem_cons (by omega), this]
      rw [d1, d2, HT.lexLt_cons] at h
      rw [hi1, hi2]
      obtain ⟨e, he, hiff⟩ := HT.eqAt_int A.in1 ⟨hp, g, d, tk, os⟩ a t c u
      rw [← ea, ← ec] at he
      refine wpAny_bind (he prog w _ _ ?_)
      cases e with
      | true =>
        rw [if_pos (hiff.mp rfl)] at h
        wp_walk
        rw [hc]
        exact ⟨plainId_quiet plain_eq_loop _, codeAny_builtin entry_eq_loop (by
          rw [Around.under_plainId plain_eq_loop _]
          exact ih (i + 1) (by omega) (by omega) (by omega) prog w A R _ ⟨hl, hb, h⟩)⟩
      | false =>
        rw [if_neg (fun q => absurd (hiff.mpr q) Bool.false_ne_true)] at h
        wp_walk using wpAny_loadPart' hl, wpAny_loadPart' hb
        rw [hi1, hi2, ea, ec]
        have hri := HT.rcLt_int A.in1 ⟨hp, g, d, tk, os⟩ a t c u prog w
        wp_walk using hri
        exact h
    · have hi2 : items2[((i : Nat) : Int).toNat]? = none := by simp; omega
      have d2 : ms.drop i = [] := List.drop_of_length_le (by omega)
      rw [d1, d2, HT.lexLt_cons_nil] at h
      rw [hi1, hi2]
      wp_walk using wpAny_loadPart' hl, wpAny_loadPart' hb
      show R (.ok (.ret (.bool (decide (items.size < items2.size))))) _
      rw [decide_eq_false (by omega)]
      exact h
theorem list_lt_ints (l b : Addr) (items items2 : Array Value) (n n2 : Nat) (dd dd2 : Option Addr) (sl sl2 : Array (Option Value)) (ns ms : List Int) (hi : IntsAre items.toList ns) (hj : IntsAre items2.toList ms) :
    Meets (Builtin.«list.__lt__» ⟨[.ref l, .ref b], []⟩)
      (fun _ R s => s.heap.get? l = some { cls := .type "list", dict := dd, data := .seq items n, slots := sl } ∧ s.heap.get? b = some { cls := .type "list", dict := dd2, data := .seq items2 n2, slots := sl2 } ∧
        R (.ok (.ret (.bool (HT.lexLt ns ms)))) s) := by
  intro prog w A R s h
  obtain ⟨hp, g, d, tk, os⟩ := s; obtain ⟨hl, hb, h⟩ := h
  have f3 := AutoSeq1.sub_list_list
  wp_walk using wpAny_loadPart' hl, wpAny_loadPart' hb
  exact ⟨plainId_quiet plain_eq_loop _, codeAny_builtin entry_eq_loop (by
    rw [Around.under_plainId plain_eq_loop _]
    exact lt_loopAt l b items items2 n n2 dd dd2 sl sl2 ns ms hi hj _ 0 rfl (Nat.zero_le _) (Nat.zero_le _) prog w A R _ ⟨hl, hb, by simpa using h⟩)⟩
end
section
variable {prog : Program} {w : World} {A : Around} {E : Value → Shared → Prop} {s : Shared}
theorem lt_listInts {l b : Addr} {items items2 : Array Value} {ns ms : List Int} {Q : Value → Shared → Prop} (hl : s.heap.IsList l items) (hb : s.heap.IsList b items2) (hi : IntsAre items.toList ns) (hj : IntsAre items2.toList ms)
    (hu : A.units < cLine) (h : Q (.bool (HT.lexLt ns ms)) s) : wpAny (model prog w) A (compareOp .Lt (.ref l) (.ref b)) Q E s := by
  obtain ⟨⟨cls, dd, data, sl⟩, ho, hc, n, hd⟩ := id hl
  obtain ⟨⟨cls2, dd2, data2, sl2⟩, ho2, hc2, n2, hd2⟩ := id hb
  simp only at hc hd hc2 hd2
  subst hc hd hc2 hd2
  exact richCompare_meets_room (op := .Lt) ⟨_, ho, rfl⟩ ⟨_, ho2, rfl⟩ PySem.F.slot_list_lt PySem.F.entry_list_lt (PySem.F.args_list_lt_2 _ _) (list_lt_ints l b items items2 n n2 dd dd2 sl sl2 ns ms hi hj)
    ⟨ho, ho2, show Value.bool (HT.lexLt ns ms) ≠ Value.notImplemented ∧ Q (.bool (HT.lexLt ns ms)) s from ⟨(fun x => nomatch x), h⟩⟩ hu
end
inductive J_rLtL (K : PySem.W.Frag) (x y : V) (H : Hp) (Q : VK) : Prop
  | mk (a b : Addr) (ns ms : List Int) (e1 : x = .ref a) (e2 : y = .ref b) (ha : SqL K H a (ns.map V.int)) (hb : SqL K H b (ms.map V.int)) (q : Q (.bl (HT.lexLt ns ms)) H) : J_rLtL K x y H Q
noncomputable def rLtL (K : PySem.W.Frag) : R2 := fun x y H Q => J_rLtL K x y H Q
theorem op_ltL {X : Cx} (hu : X.A.units < cLine) : OpR X (compareOp .Lt) (rLtL X.K) := by
  intro pins s σ H x y v u Q I rx ry h
  obtain ⟨a, b, ns, ms, rfl, rfl, ha, hb, q⟩ := h
  cases rx
  cases ry
  obtain ⟨its, r1, p1, _⟩ := I.list ha
  obtain ⟨its2, r2, p2, _⟩ := I.list hb
  have i1 : IntsAre its.toArray.toList ns := intsAre_of r1
  have i2 : IntsAre its2.toArray.toList ms := intsAre_of r2
  exact lt_listInts p1.isList p2.isList i1 i2 hu ⟨.bl (HT.lexLt ns ms), H, I, rfl, q⟩
end L2
namespace Sw
open PySem L2
noncomputable def posF : List Tm → Tm → Option Nat
  | [], _ => none
  | u :: ts, t => if tmD u = tmD t then some 0 else (posF ts t).map (· + 1)
theorem pos_at : ∀ {ts : List Tm} {t : Tm} {i : Nat}, posF ts t = some i → ts[i]? = some t
  | [], _, _, h => by rw [posF] at h; cases h
  | u :: ts, t, i, h => by
    rw [posF] at h
    by_cases e : tmD u = tmD t
    · rw [if_pos e] at h; cases h; rw [tmD_inj e]; rfl
    · rw [if_neg e] at h
      cases q : posF ts t with
      | none => rw [q] at h; cases h
      | some j => rw [q] at h; cases h; simpa using pos_at q
theorem pos_lt {ts : List Tm} {t : Tm} {i : Nat} (h : posF ts t = some i) : i < ts.length := (List.getElem?_eq_some_iff.mp (pos_at h)).1
theorem pos_none : ∀ {ts : List Tm} {t : Tm}, posF ts t = none ↔ t ∉ ts
  | [], t => by rw [posF]; simp
  | u :: ts, t => by
    rw [posF]
    by_cases e : tmD u = tmD t
    · rw [if_pos e, tmD_inj e]; simp
    · rw [if_neg e, Option.map_eq_none_iff, pos_none, List.mem_cons, not_or]
      exact ⟨fun h => ⟨fun z => e (by rw [z]), h⟩, fun h => h.2⟩
theorem pos_app : ∀ (ts : List Tm) (u t : Tm), posF (ts ++ [u]) t = match posF ts t with
    | some i => some i
    | none => if tmD u = tmD t then some ts.length else none
  | [], u, t => by rw [List.nil_append, posF, posF, posF]; rfl
  | x :: ts, u, t => by
    rw [List.cons_append, posF, posF, pos_app ts u t]
    by_cases e : tmD x = tmD t
    · rw [if_pos e, if_pos e]
    · rw [if_neg e, if_neg e]
      cases posF ts t with
      | some j => rfl
      | none =>
        by_cases e2 : tmD u = tmD t
        · simp [e2]
        · simp [e2]
theorem pos_first : ∀ {ts : List Tm} {t : Tm} {i : Nat}, posF ts t = some i → ∀ j, j < i → ts[j]? ≠ some t
  | [], _, _, h => by rw [posF] at h; cases h
  | u :: ts, t, i, h => by
    rw [posF] at h
    by_cases e : tmD u = tmD t
    · rw [if_pos e] at h; cases h; intro j hj; omega
    · rw [if_neg e] at h
      cases q : posF ts t with
      | none => rw [q] at h; cases h
      | some k =>
        rw [q] at h; cases h
        intro j hj
        cases j with
        | zero => simp; exact fun z => e (by rw [z])
        | succ j => simpa using pos_first q j (Nat.lt_of_succ_lt_succ hj)
theorem pos_is {ts : List Tm} {t : Tm} {i : Nat} (h : ts[i]? = some t) (hf : ∀ j, j < i → ts[j]? ≠ some t) : posF ts t = some i := by
  cases q : posF ts t with
  | none => exact absurd (List.mem_of_getElem? h) (pos_none.mp q)
  | some k =>
    have h1 := pos_first q
    have h2 := pos_at q
    rcases Nat.lt_trichotomy i k with z | z | z
    · exact absurd h (h1 i z)
    · rw [z]
    · exact absurd h2 (hf k z)
theorem nodup_len {α : Type} : ∀ {S U : List α}, S.Nodup → (∀ x ∈ S, x ∈ U) → S.length ≤ U.length
  | [], U, _, _ => Nat.zero_le _
  | x :: S, U, hn, h => by
    obtain ⟨A, B, rfl⟩ := List.append_of_mem (h x List.mem_cons_self)
    have hx := (List.nodup_cons.mp hn).1
    have := nodup_len (S := S) (U := A ++ B) (List.nodup_cons.mp hn).2 fun y hy => by
      have := h y (List.mem_cons_of_mem _ hy)
      rcases List.mem_append.mp this with z | z
      · exact List.mem_append_left _ z
      · rcases List.mem_cons.mp z with z | z
        · exact absurd (z ▸ hy) hx
        · exact List.mem_append_right _ z
    rw [List.length_append] at this
    rw [List.length_cons, List.length_append, List.length_cons]
    omega
mutual
noncomputable def T.hol : T → List Str
  | .num _ => []
  | .name _ => []
  | .any w => [w]
  | .of _ ts => T.hols ts
noncomputable def T.hols : List T → List Str
  | [] => []
  | t :: ts => t.hol ++ T.hols ts
end
end Sw
namespace Sw
open PySem L2
section
variable {S : Type}
end
noncomputable def tabF (ts : List Tm) (ls : List Nat) (m : Tm) : Option Nat := (posF (ts.map (mk ls)) m).map fun i => ls.getD i 0
theorem tab_some {ts : List Tm} {ls : List Nat} {m : Tm} {l : Nat} (hl : ls.length = ts.length) (h : tabF ts ls m = some l) : ∃ (i : Nat) (u : Tm), ts[i]? = some u ∧ mk ls u = m ∧ ls[i]? = some l := by
  unfold tabF at h
  cases e : posF (ts.map (mk ls)) m with
  | none => rw [e] at h; cases h
  | some i =>
    rw [e] at h
    have q := pos_at e
    rw [List.getElem?_map] at q
    cases eu : ts[i]? with
    | none => rw [eu] at q; cases q
    | some u =>
      rw [eu] at q
      have hi := (List.getElem?_eq_some_iff.mp eu).1
      refine ⟨i, u, eu, Option.some.inj q, ?_⟩
      have h2 : ls.getD i 0 = l := Option.some.inj h
      rw [List.getElem?_eq_getElem (by omega), ← h2, List.getD_eq_getElem?_getD, List.getElem?_eq_getElem (by omega)]
      rfl
theorem tab_none {ts : List Tm} {ls : List Nat} {m : Tm} (h : tabF ts ls m = none) : ∀ (i : Nat) (u : Tm), ts[i]? = some u → mk ls u ≠ m := fun i u hi z => by
  unfold tabF at h
  rw [Option.map_eq_none_iff] at h
  exact pos_none.mp h (z ▸ List.mem_map.mpr ⟨u, List.mem_of_getElem? hi, rfl⟩)
section
variable {ts ts1 : List Tm} {es : List (Nat × Nat)} {ls ls1 : List Nat}
end
section
variable {ts : List Tm} {es : List (Nat × Nat)} {ls : List Nat}
end
end Sw
namespace Sw
open PySem L2
noncomputable abbrev Bd := List (Str × Nat)
noncomputable def look : Bd → Str → Option Nat
  | [], _ => none
  | p :: r, w => if p.1 = w then some p.2 else look r w
theorem look_app : ∀ (b : Bd) (w : Str) (l : Nat) (z : Str), look (b ++ [(w, l)]) z = match look b z with
    | some v => some v
    | none => if w = z then some l else none
  | [], w, l, z => by rw [List.nil_append, look, look, look]
  | p :: r, w, l, z => by
    rw [List.cons_append, look, look, look_app r w l z]
    by_cases e : p.1 = z
    · rw [if_pos e, if_pos e]
    · rw [if_neg e, if_neg e]
noncomputable def Within (m m' : Str → Option Nat) : Prop := ∀ z v, m z = some v → m' z = some v
theorem within_refl (m : Str → Option Nat) : Within m m := fun _ _ h => h
theorem Within.trans {a b c : Str → Option Nat} (h : Within a b) (h' : Within b c) : Within a c := fun z v e => h' z v (h z v e)
noncomputable def holeW (lead : Nat) (w : Str) (b : Bd) : List Bd := match look b w with
  | some l => if l = lead then [b] else []
  | none => [b ++ [(w, lead)]]
section
variable (ts : List Tm) (ls : List Nat) (hd : Nat → List Nat)
mutual
noncomputable def clB (m : Str → Option Nat) : T → Option Nat
  | .any w => m w
  | .num n => tabF ts ls (.num n)
  | .name w => tabF ts ls (.name w)
  | .of w as => (clsB m as).bind fun ns => tabF ts ls (.of w ns)
noncomputable def clsB (m : Str → Option Nat) : List T → Option (List Nat)
  | [] => some []
  | t :: as => (clB m t).bind fun n => (clsB m as).map fun ns => n :: ns
end
mutual
noncomputable def clW : T → Nat → Bd → List Bd
  | .any w, lead, b => holeW lead w b
  | .num n, lead, b => if tabF ts ls (.num n) = some lead then [b] else []
  | .name w, lead, b => if tabF ts ls (.name w) = some lead then [b] else []
  | .of x ps, lead, b => (hd lead).flatMap fun (k : Nat) => match ts[k]? with
    | some (TM.of y as) => if y = x ∧ as.length = ps.length then arW ps as [b] else []
    | _ => []
noncomputable def arW : List T → List Nat → List Bd → List Bd
  | [], _, ws => ws
  | p :: ps, as, ws => arW ps as.tail (ws.flatMap fun b => clW p (ls.getD (as.headD 0) 0) b)
end
end
structure Hds (ts : List Tm) (ls : List Nat) (hd : Nat → List Nat) : Prop where
  at_ : ∀ lead, ∀ k ∈ hd lead, ∃ u, ts[k]? = some u ∧ ls[k]? = some lead
  all : ∀ (i : Nat) u lead, ts[i]? = some u → ls[i]? = some lead → ∃ k ∈ hd lead, ∃ u', ts[k]? = some u' ∧ mk ls u' = mk ls u
  one : ∀ lead, (hd lead).Pairwise fun k k' => ∀ u u', ts[k]? = some u → ts[k']? = some u' → mk ls u ≠ mk ls u'
  like : ∀ (i j : Nat) t u, ts[i]? = some t → ts[j]? = some u → mk ls t = mk ls u → ls[i]? = ls[j]?
section
variable {ts : List Tm} {ls : List Nat} {hd : Nat → List Nat}
mutual
theorem clB_mono {m m' : Str → Option Nat} (h : Within m m') : ∀ (p : T) {l : Nat}, clB ts ls m p = some l → clB ts ls m' p = some l
  | .any w, l, e => by rw [clB] at e ⊢; exact h w l e
  | .num n, l, e => by rw [clB] at e ⊢; exact e
  | .name n, l, e => by rw [clB] at e ⊢; exact e
  | .of w as, l, e => by
    rw [clB] at e ⊢
    cases q : clsB ts ls m as with
    | none => rw [q] at e; cases e
    | some ns => rw [q] at e; rw [clsB_mono h as q]; exact e
theorem clsB_mono {m m' : Str → Option Nat} (h : Within m m') : ∀ (as : List T) {l : List Nat}, clsB ts ls m as = some l → clsB ts ls m' as = some l
  | [], l, e => by rw [clsB] at e ⊢; exact e
  | t :: as, l, e => by
    rw [clsB] at e ⊢
    cases q : clB ts ls m t with
    | none => rw [q] at e; cases e
    | some n =>
      cases q2 : clsB ts ls m as with
      | none => rw [q, q2] at e; cases e
      | some ns => rw [q, q2] at e; rw [clB_mono h t q, clsB_mono h as q2]; exact e
end
theorem clsB_len {m : Str → Option Nat} : ∀ {as : List T} {l : List Nat}, clsB ts ls m as = some l → l.length = as.length
  | [], l, e => by rw [clsB] at e; cases e; rfl
  | t :: as, l, e => by
    rw [clsB] at e
    cases q : clB ts ls m t with
    | none => rw [q] at e; cases e
    | some n =>
      cases q2 : clsB ts ls m as with
      | none => rw [q, q2] at e; cases e
      | some ns => rw [q, q2] at e; cases e; rw [List.length_cons, List.length_cons, clsB_len q2]
structure From (b w : Bd) (hs : List Str) : Prop where
  ext : Within (look b) (look w)
  dom : ∀ z, (look w z).isSome = true ↔ (look b z).isSome = true ∨ z ∈ hs
theorem from_refl (b : Bd) : From b b [] := ⟨within_refl _, fun z => ⟨.inl, fun h => h.elim id fun h => by cases h⟩⟩
theorem From.then {b w v : Bd} {hs gs : List Str} (h : From b w hs) (g : From w v gs) : From b v (hs ++ gs) :=
  ⟨h.ext.trans g.ext, fun z => by rw [g.dom z, h.dom z, List.mem_append, or_assoc]⟩
theorem hole_sound {lead : Nat} {x : Str} {b w : Bd} (h : w ∈ holeW lead x b) : From b w [x] ∧ look w x = some lead := by
  unfold holeW at h
  split at h
  · rename_i l e
    split at h
    · rename_i el
      rw [List.mem_singleton.mp h]
      refine ⟨⟨within_refl _, fun z => ⟨.inl, fun q => q.elim id fun q => ?_⟩⟩, by rw [e, el]⟩
      rw [List.mem_singleton.mp q, e]; rfl
    · cases h
  · rename_i e
    rw [List.mem_singleton.mp h]
    refine ⟨⟨fun z v q => by rw [look_app, q], fun z => ?_⟩, by rw [look_app, e]; exact if_pos rfl⟩
    rw [look_app]
    cases q : look b z with
    | some v => simp
    | none =>
      by_cases ez : x = z
      · subst ez; simp
      · simp [ez, Ne.symm ez]
theorem mk_of {k : Nat} {y : Str} {as : List Nat} : (mk ls (TM.of y as) : Tm) = TM.of y (as.map fun a => ls.getD a 0) := rfl
mutual
theorem cl_sound (H : Hds ts ls hd) : ∀ (p : T) {lead : Nat} {b w : Bd}, w ∈ clW ts ls hd p lead b → From b w p.hol ∧ clB ts ls (look w) p = some lead
  | .any x, lead, b, w, h => by rw [clW] at h; rw [clB, T.hol]; exact hole_sound h
  | .num n, lead, b, w, h => by
    rw [clW] at h
    split at h
    · rename_i e; rw [List.mem_singleton.mp h, clB, T.hol]; exact ⟨from_refl b, e⟩
    · cases h
  | .name n, lead, b, w, h => by
    rw [clW] at h
    split at h
    · rename_i e; rw [List.mem_singleton.mp h, clB, T.hol]; exact ⟨from_refl b, e⟩
    · cases h
  | .of x ps, lead, b, w, h => by
    rw [clW] at h
    obtain ⟨k, hk, hw⟩ := List.mem_flatMap.mp h
    obtain ⟨u, hu, hl⟩ := H.at_ lead k hk
    rw [hu] at hw
    cases u with
    | num n => cases hw
    | name n => cases hw
    | of y as =>
      dsimp only at hw
      split at hw
      · rename_i e
        obtain ⟨rfl, el⟩ := e
        obtain ⟨b0, hb0, f, c⟩ := ar_sound H ps as el hw
        rw [List.mem_singleton.mp hb0] at f
        refine ⟨by rw [T.hol]; exact f, ?_⟩
        rw [clB, c]
        show tabF ts ls (mk ls (TM.of y as)) = some lead
        cases q : tabF ts ls (mk ls (TM.of y as)) with
        | none => exact absurd rfl (tab_none q k _ hu)
        | some l =>
          unfold tabF at q
          cases q1 : posF (ts.map (mk ls)) (mk ls (TM.of y as)) with
          | none => rw [q1] at q; cases q
          | some i =>
            rw [q1] at q
            have q2 := pos_at q1
            rw [List.getElem?_map] at q2
            cases q3 : ts[i]? with
            | none => rw [q3] at q2; cases q2
            | some u0 =>
              rw [q3] at q2
              have q4 := H.like i k u0 _ q3 hu (Option.some.inj q2)
              rw [hl] at q4
              have q5 : ls.getD i 0 = l := Option.some.inj q
              rw [← q5, List.getD_eq_getElem?_getD, q4]; rfl
      · cases hw
theorem ar_sound (H : Hds ts ls hd) : ∀ (ps : List T) (as : List Nat), as.length = ps.length → ∀ {ws : List Bd} {w : Bd}, w ∈ arW ts ls hd ps as ws → ∃ b ∈ ws, From b w (T.hols ps) ∧ clsB ts ls (look w) ps = some (as.map fun a => ls.getD a 0)
  | [], [], _, ws, w, h => by rw [arW] at h; rw [T.hols, clsB]; exact ⟨w, h, from_refl w, rfl⟩
  | p :: ps, [], e, ws, w, h => by cases e
  | [], a :: as, e, ws, w, h => by cases e
  | p :: ps, a :: as, e, ws, w, h => by
    rw [arW] at h
    obtain ⟨b1, hb1, f1, c1⟩ := ar_sound H ps as (Nat.succ.inj e) h
    obtain ⟨b, hb, h2⟩ := List.mem_flatMap.mp hb1
    obtain ⟨f2, c2⟩ := cl_sound H p h2
    refine ⟨b, hb, by rw [T.hols]; exact f2.then f1, ?_⟩
    rw [clsB, clB_mono f1.ext p c2, c1]
    rfl
end
end
end Sw
namespace Sw
open PySem L2
noncomputable def adR : List Row → Nat → Nat → List Row
  | [], l, k => [(l, [k])]
  | q :: ps, l, k => if q.1 = l then (q.1, q.2 ++ [k]) :: ps else q :: adR ps l k
theorem look_cons (q : Row) (ps : List Row) (l : Nat) : lookR (q :: ps) l = if q.1 = l then some q.2 else lookR ps l := by
  unfold lookR
  rw [List.find?_cons]
  by_cases e : q.1 = l
  · rw [decide_eq_true e, if_pos e]; rfl
  · rw [decide_eq_false e, if_neg e]
theorem putR_cons {q : Row} {ps : List Row} {l : Nat} {zs : List Nat} (e : q.1 ≠ l) : putR (q :: ps) l zs = q :: putR ps l zs := by
  unfold putR
  rw [List.any_cons, decide_eq_false e, Bool.false_or, List.map_cons, if_neg e]
  split <;> rfl
theorem adR_is : ∀ (ps : List Row) (l k : Nat), (ps.map (·.1)).Nodup → addR ps l k = adR ps l k
  | [], l, k, _ => rfl
  | q :: ps, l, k, h => by
    rw [List.map_cons, List.nodup_cons] at h
    rw [adR]
    by_cases e : q.1 = l
    · rw [if_pos e]
      unfold addR putR
      rw [look_cons, if_pos e, List.any_cons, decide_eq_true e, Bool.true_or, if_pos rfl, List.map_cons, if_pos e]
      congr 1
      refine (List.map_congr_left fun p hp => ?_).trans (List.map_id _)
      rw [if_neg]; rfl
      exact fun z => h.1 (by rw [e, ← z]; exact List.mem_map.mpr ⟨p, hp, rfl⟩)
    · rw [if_neg e, ← adR_is ps l k h.2]
      unfold addR
      rw [look_cons, if_neg e, putR_cons e]
theorem adR_look : ∀ (ps : List Row) (l k l' : Nat), (lookR (adR ps l k) l').getD [] = (lookR ps l').getD [] ++ if l = l' then [k] else []
  | [], l, k, l' => by
    rw [adR, look_cons]
    by_cases e : l = l'
    · rw [if_pos e, if_pos e]; rfl
    · rw [if_neg e, if_neg e]; rfl
  | q :: ps, l, k, l' => by
    rw [adR]
    by_cases e : q.1 = l
    · rw [if_pos e, look_cons, look_cons]
      by_cases e' : l = l'
      · rw [if_pos (e.trans e'), if_pos (e.trans e'), if_pos e']; rfl
      · have e2 : q.1 ≠ l' := fun z => e' (e.symm.trans z)
        rw [if_neg e2, if_neg e2, if_neg e', List.append_nil]
    · rw [if_neg e, look_cons, look_cons]
      by_cases e2 : q.1 = l'
      · rw [if_pos e2, if_pos e2, if_neg (fun z => e (e2.trans z.symm)), List.append_nil]
      · rw [if_neg e2, if_neg e2]; exact adR_look ps l k l'
theorem adR_perm : ∀ (ps : List Row) (l k : Nat), ((adR ps l k).flatMap (·.2)).Perm (ps.flatMap (·.2) ++ [k])
  | [], l, k => by rw [adR]; exact List.Perm.refl _
  | q :: ps, l, k => by
    rw [adR]
    by_cases e : q.1 = l
    · rw [if_pos e, List.flatMap_cons, List.flatMap_cons, List.append_assoc, List.append_assoc]
      exact List.Perm.append_left _ List.perm_append_comm
    · rw [if_neg e, List.flatMap_cons, List.flatMap_cons, List.append_assoc]
      exact List.Perm.append_left _ (adR_perm ps l k)
section
variable (ls : List Nat) (ms : List Tm)
theorem rows_lookF (l : Nat) : ∀ n, (lookR (rowsF ls (firstsF ms n)) l).getD [] = (firstsF ms n).filter fun k => decide (ls.getD k 0 = l)
  | 0 => rfl
  | n + 1 => by
    rw [firsts_succ]
    cases newAt ms n with
    | false => rw [if_neg (by decide), List.append_nil]; exact rows_lookF l n
    | true =>
      rw [if_pos rfl, rows_snoc, adR_is _ _ _ (rows_keys ls _), adR_look, List.filter_append, rows_lookF l n]
      congr 1
      by_cases e : ls.getD n 0 = l
      · rw [if_pos e, List.filter_cons, decide_eq_true e, if_pos rfl]; rfl
      · rw [if_neg e, List.filter_cons, decide_eq_false e, if_neg (by decide)]; rfl
theorem rows_perm : ∀ n, ((rowsF ls (firstsF ms n)).flatMap (·.2)).Perm (firstsF ms n)
  | 0 => List.Perm.refl _
  | n + 1 => by
    rw [firsts_succ]
    cases newAt ms n with
    | false => rw [if_neg (by decide), List.append_nil]; exact rows_perm n
    | true =>
      rw [if_pos rfl, rows_snoc, adR_is _ _ _ (rows_keys ls _)]
      exact (adR_perm _ _ _).trans (List.Perm.append_right _ (rows_perm n))
theorem firsts_nodup (n : Nat) : (firstsF ms n).Nodup := List.Pairwise.filter _ List.nodup_range
end
noncomputable def hdF (ts : List Tm) (ls : List Nat) (l : Nat) : List Nat := (lookR (rowsF ls (firstsF (ts.map (mk ls)) ts.length)) l).getD []
section
variable {ts : List Tm} {ls : List Nat}
theorem hd_mem {l k : Nat} : k ∈ hdF ts ls l ↔ k ∈ firstsF (ts.map (mk ls)) ts.length ∧ ls.getD k 0 = l := by
  unfold hdF
  rw [rows_lookF, List.mem_filter, decide_eq_true_iff]
theorem first_mem {k : Nat} : k ∈ firstsF (ts.map (mk ls)) ts.length ↔ ∃ u, ts[k]? = some u ∧ posF (ts.map (mk ls)) (mk ls u) = some k := by
  unfold firstsF
  rw [List.mem_filter, List.mem_range]
  constructor
  · rintro ⟨hk, hn⟩
    have hu := List.getElem?_eq_getElem hk
    refine ⟨ts[k], hu, pos_is (by rw [List.getElem?_map, hu]; rfl) fun j hj e => ?_⟩
    have := (new_false (ms := ts.map (mk ls)) (n := k) (m := mk ls ts[k]) (by rw [List.getElem?_map, hu]; rfl)).mpr ⟨j, hj, e⟩
    rw [hn] at this; cases this
  · rintro ⟨u, hu, hp⟩
    refine ⟨(List.getElem?_eq_some_iff.mp hu).1, ?_⟩
    cases q : newAt (ts.map (mk ls)) k with
    | true => rfl
    | false =>
      obtain ⟨j, hj, e⟩ := (new_false (pos_at hp)).mp q
      exact absurd e (pos_first hp j hj)
theorem hds_of (hlen : ls.length = ts.length) (like : LikeL ts ls) : Hds ts ls (hdF ts ls) where
  at_ := fun lead k hk => by
    obtain ⟨hf, hl⟩ := hd_mem.mp hk
    obtain ⟨u, hu, _⟩ := first_mem.mp hf
    have hk := (List.getElem?_eq_some_iff.mp hu).1
    refine ⟨u, hu, ?_⟩
    rw [← hl, List.getElem?_eq_getElem (by omega), List.getD_eq_getElem?_getD, List.getElem?_eq_getElem (by omega)]; rfl
  all := fun i u lead hi hl => by
    have hm : (ts.map (mk ls))[i]? = some (mk ls u) := by rw [List.getElem?_map, hi]; rfl
    cases q : posF (ts.map (mk ls)) (mk ls u) with
    | none => exact absurd (List.mem_of_getElem? hm) (pos_none.mp q)
    | some k =>
      have h1 := pos_at q
      rw [List.getElem?_map] at h1
      obtain ⟨u', hu', em⟩ := Option.map_eq_some_iff.mp h1
      refine ⟨k, hd_mem.mpr ⟨first_mem.mpr ⟨u', hu', by rw [em]; exact q⟩, ?_⟩, u', hu', em⟩
      have := like k i u' u hu' hi em
      rw [List.getD_eq_getElem?_getD, this, hl]; rfl
  one := fun lead => by
    unfold hdF
    rw [rows_lookF]
    refine List.Pairwise.filter _ (List.Pairwise.imp_of_mem ?_ (List.Pairwise.filter _ List.pairwise_lt_range))
    intro k k' hk hk' hlt u u' hu hu' e
    obtain ⟨v, hv, hp⟩ := first_mem.mp hk'
    rw [hu'] at hv
    cases hv
    refine pos_first hp k hlt ?_
    rw [List.getElem?_map, hu, ← e]; rfl
  like := like
theorem hd_some {j : Nat} {t : Tm} (hlen : ls.length = ts.length) (like : LikeL ts ls) (hj : ts[j]? = some t) : ∃ zs, lookR (rowsF ls (firstsF (ts.map (mk ls)) ts.length)) (ls.getD j 0) = some zs := by
  have hl : ls[j]? = some (ls.getD j 0) := by
    have := (List.getElem?_eq_some_iff.mp hj).1
    rw [List.getD_eq_getElem?_getD, List.getElem?_eq_getElem (by omega)]; rfl
  obtain ⟨k, hk, _⟩ := (hds_of hlen like).all j t _ hj hl
  unfold hdF at hk
  cases q : lookR (rowsF ls (firstsF (ts.map (mk ls)) ts.length)) (ls.getD j 0) with
  | none => rw [q] at hk; cases hk
  | some zs => exact ⟨zs, rfl⟩
theorem hd_len (l : Nat) : (hdF ts ls l).length ≤ ts.length := by
  unfold hdF
  rw [rows_lookF]
  exact Nat.le_trans (List.length_filter_le _ _) (firsts_len _ _)
end
mutual
noncomputable def T.kn : T → Nat
  | .num _ => 0
  | .name _ => 0
  | .any _ => 0
  | .of _ ps => 1 + T.kns ps
noncomputable def T.kns : List T → Nat
  | [] => 0
  | p :: ps => p.kn + T.kns ps
end
theorem flat_len {α β : Type} {f : α → List β} {n : Nat} : ∀ {l : List α}, (∀ a ∈ l, (f a).length ≤ n) → (l.flatMap f).length ≤ l.length * n
  | [], _ => by simp
  | a :: l, h => by
    rw [List.flatMap_cons, List.length_append, List.length_cons, Nat.succ_mul]
    have h1 := h a List.mem_cons_self
    have h2 := flat_len (l := l) fun b hb => h b (List.mem_cons_of_mem _ hb)
    omega
section
variable {ts : List Tm} {ls : List Nat} {hd : Nat → List Nat} {N : Nat}
mutual
theorem cl_len (hN : 1 ≤ N) (h : ∀ l, (hd l).length ≤ N) : ∀ (p : T) (lead : Nat) (b : Bd), (clW ts ls hd p lead b).length ≤ N ^ p.kn
  | .any x, lead, b => by
    rw [clW, T.kn, Nat.pow_zero]
    unfold holeW
    split
    · split <;> simp
    · simp
  | .num n, lead, b => by rw [clW, T.kn]; split <;> simp
  | .name n, lead, b => by rw [clW, T.kn]; split <;> simp
  | .of x ps, lead, b => by
    rw [clW, T.kn, Nat.pow_add, Nat.pow_one]
    refine Nat.le_trans (flat_len (n := N ^ T.kns ps) fun k _ => ?_) (Nat.mul_le_mul_right _ (h lead))
    split
    · split
      · refine Nat.le_trans (ar_len hN h ps _ [b]) ?_
        rw [List.length_singleton, Nat.one_mul]; exact Nat.le_refl _
      · exact Nat.zero_le _
    · exact Nat.zero_le _
theorem ar_len (hN : 1 ≤ N) (h : ∀ l, (hd l).length ≤ N) : ∀ (ps : List T) (as : List Nat) (ws : List Bd), (arW ts ls hd ps as ws).length ≤ ws.length * N ^ T.kns ps
  | [], as, ws => by rw [arW, T.kns, Nat.pow_zero, Nat.mul_one]; exact Nat.le_refl _
  | p :: ps, as, ws => by
    rw [arW, T.kns, Nat.pow_add, ← Nat.mul_assoc]
    refine Nat.le_trans (ar_len hN h ps _ _) (Nat.mul_le_mul_right _ ?_)
    exact flat_len fun b _ => cl_len hN h p _ b
end
mutual
theorem cl_size : ∀ (p : T) {lead : Nat} {b w : Bd}, w ∈ clW ts ls hd p lead b → w.length ≤ b.length + p.hol.length
  | .any x, lead, b, w, h => by
    rw [clW] at h
    rw [T.hol]
    unfold holeW at h
    split at h
    · split at h
      · rw [List.mem_singleton.mp h]; exact Nat.le_add_right _ _
      · cases h
    · rw [List.mem_singleton.mp h, List.length_append]; exact Nat.le_refl _
  | .num n, lead, b, w, h => by
    rw [clW] at h
    split at h
    · rw [List.mem_singleton.mp h]; exact Nat.le_add_right _ _
    · cases h
  | .name n, lead, b, w, h => by
    rw [clW] at h
    split at h
    · rw [List.mem_singleton.mp h]; exact Nat.le_add_right _ _
    · cases h
  | .of x ps, lead, b, w, h => by
    rw [clW] at h
    rw [T.hol]
    obtain ⟨k, _, hw⟩ := List.mem_flatMap.mp h
    split at hw
    · split at hw
      · obtain ⟨b0, hb0, l⟩ := ar_size ps hw
        rw [List.mem_singleton.mp hb0] at l; exact l
      · cases hw
    · cases hw
theorem ar_size : ∀ (ps : List T) {as : List Nat} {ws : List Bd} {w : Bd}, w ∈ arW ts ls hd ps as ws → ∃ b ∈ ws, w.length ≤ b.length + (T.hols ps).length
  | [], as, ws, w, h => by rw [arW] at h; exact ⟨w, h, Nat.le_add_right _ _⟩
  | p :: ps, as, ws, w, h => by
    rw [arW] at h
    rw [T.hols]
    obtain ⟨b1, hb1, l1⟩ := ar_size ps h
    obtain ⟨b, hb, h2⟩ := List.mem_flatMap.mp hb1
    have := cl_size p h2
    exact ⟨b, hb, by rw [List.length_append]; omega⟩
end
end
noncomputable def teW (ts : List Tm) (ls : List Nat) (k : Nat) (x : Str) (ps : List T) (b : Bd) : List Bd := match ts[k]? with
  | some (TM.of y as) => if y = x ∧ as.length = ps.length then arW ts ls (hdF ts ls) ps as [b] else []
  | _ => []
theorem clW_of (ts : List Tm) (ls : List Nat) (x : Str) (ps : List T) (lead : Nat) (b : Bd) : clW ts ls (hdF ts ls) (.of x ps) lead b = (hdF ts ls lead).flatMap fun k => teW ts ls k x ps b := by rw [clW]; rfl
noncomputable def arI (ts : List Tm) (ls : List Nat) (ps : List T) (as : List Nat) (b : Bd) (i : Nat) : List Bd := arW ts ls (hdF ts ls) (ps.take i) as [b]
theorem ar_snoc {ts : List Tm} {ls : List Nat} {hd : Nat → List Nat} : ∀ (ps : List T) (p : T) (as : List Nat) (ws : List Bd), arW ts ls hd (ps ++ [p]) as ws = (arW ts ls hd ps as ws).flatMap fun b => clW ts ls hd p (ls.getD (as.getD ps.length 0) 0) b
  | [], p, as, ws => by
    rw [List.nil_append, arW, arW, arW]
    cases as <;> rfl
  | q :: ps, p, as, ws => by
    rw [List.cons_append, arW, arW, ar_snoc ps p as.tail]
    congr 1
    funext b
    cases as <;> rfl
theorem arI_succ {ts : List Tm} {ls : List Nat} {ps : List T} {as : List Nat} {b : Bd} {i : Nat} {p : T} {a : Nat} (hp : ps[i]? = some p) (ha : as[i]? = some a) : arI ts ls ps as b (i + 1) = (arI ts ls ps as b i).flatMap fun v => clW ts ls (hdF ts ls) p (ls.getD a 0) v := by
  have hl := (List.getElem?_eq_some_iff.mp hp).1
  unfold arI
  rw [List.take_add_one, hp]
  show arW ts ls (hdF ts ls) (ps.take i ++ [p]) as [b] = _
  rw [ar_snoc, List.length_take, Nat.min_eq_left (by omega), List.getD_eq_getElem?_getD (l := as), ha]
  rfl
end Sw
namespace Sw
open PySem L2
noncomputable def LxN (a b : List Nat) : Prop := HT.lexLt (a.map fun n : Nat => (n : Int)) (b.map fun n : Nat => (n : Int)) = true
theorem lx_head {k k' : Nat} {c c' : List Nat} (h : k < k') : LxN (k :: c) (k' :: c') := by
  show HT.lexLt ((k : Int) :: _) ((k' : Int) :: _) = true
  rw [HT.lexLt_cons, if_neg (by omega)]
  exact decide_eq_true (by omega)
theorem lx_cons {k : Nat} {c c' : List Nat} (h : LxN c c') : LxN (k :: c) (k :: c') := by
  show HT.lexLt ((k : Int) :: _) ((k : Int) :: _) = true
  rw [HT.lexLt_cons, if_pos rfl]; exact h
theorem lx_pre : ∀ {a c c' : List Nat}, LxN c c' → LxN (a ++ c) (a ++ c')
  | [], c, c', h => h
  | k :: a, c, c', h => lx_cons (lx_pre (a := a) h)
theorem lx_app : ∀ {a a' c c' : List Nat}, a.length = a'.length → LxN a a' → LxN (a ++ c) (a' ++ c')
  | [], [], c, c', _, h => by cases (show false = true from h)
  | [], _ :: _, c, c', e, h => by cases e
  | _ :: _, [], c, c', e, h => by cases e
  | k :: a, k' :: a', c, c', e, h => by
    have h2 : HT.lexLt ((k : Int) :: a.map fun n : Nat => (n : Int)) ((k' : Int) :: a'.map fun n : Nat => (n : Int)) = true := h
    rw [HT.lexLt_cons] at h2
    by_cases ek : (k : Int) = (k' : Int)
    · rw [if_pos ek] at h2
      rw [show k' = k by omega]
      exact lx_cons (lx_app (a := a) (a' := a') (Nat.succ.inj e) h2)
    · rw [if_neg ek] at h2
      have := of_decide_eq_true h2
      exact lx_head (by omega)
theorem lx_nil {k : Nat} {c : List Nat} : LxN [] (k :: c) := rfl
section
variable (ts : List Tm) (ls : List Nat)
mutual
noncomputable def chF (m : Str → Option Nat) : T → List Nat
  | .any _ => []
  | .num _ => []
  | .name _ => []
  | .of w as => ((clsB ts ls m as).bind fun ns => posF (ts.map (mk ls)) (.of w ns)).getD 0 :: chsF m as
noncomputable def chsF (m : Str → Option Nat) : List T → List Nat
  | [] => []
  | t :: as => chF m t ++ chsF m as
end
end
section
variable {ts : List Tm} {ls : List Nat} {hd : Nat → List Nat}
mutual
theorem ch_len (m : Str → Option Nat) : ∀ (p : T), (chF ts ls m p).length = p.kn
  | .any _ => by rw [chF, T.kn]; rfl
  | .num _ => by rw [chF, T.kn]; rfl
  | .name _ => by rw [chF, T.kn]; rfl
  | .of w as => by rw [chF, T.kn, List.length_cons, chs_len m as]; omega
theorem chs_len (m : Str → Option Nat) : ∀ (ps : List T), (chsF ts ls m ps).length = T.kns ps
  | [] => by rw [chsF, T.kns]; rfl
  | p :: ps => by rw [chsF, T.kns, List.length_append, ch_len m p, chs_len m ps]
end
theorem chs_app (m : Str → Option Nat) : ∀ (ps qs : List T), chsF ts ls m (ps ++ qs) = chsF ts ls m ps ++ chsF ts ls m qs
  | [], qs => by rw [List.nil_append, chsF, List.nil_append]
  | p :: ps, qs => by rw [List.cons_append, chsF, chsF, chs_app m ps qs, List.append_assoc]
theorem chs_one (m : Str → Option Nat) (p : T) : chsF ts ls m [p] = chF ts ls m p := by rw [chsF, chsF, List.append_nil]
theorem cls_app {m : Str → Option Nat} : ∀ {ps qs : List T} {l l' : List Nat}, clsB ts ls m ps = some l → clsB ts ls m qs = some l' → clsB ts ls m (ps ++ qs) = some (l ++ l')
  | [], qs, l, l', h, h' => by rw [clsB] at h; cases h; exact h'
  | p :: ps, qs, l, l', h, h' => by
    rw [clsB] at h
    rw [List.cons_append, clsB]
    cases e1 : clB ts ls m p with
    | none => rw [e1] at h; cases h
    | some n =>
      cases e2 : clsB ts ls m ps with
      | none => rw [e1, e2] at h; cases h
      | some k => rw [e1, e2] at h; cases h; rw [cls_app e2 h']; rfl
theorem cls_cons {m : Str → Option Nat} {p : T} {ps : List T} {l : List Nat} (h : clsB ts ls m (p :: ps) = some l) : ∃ n k, clB ts ls m p = some n ∧ clsB ts ls m ps = some k ∧ l = n :: k := by
  rw [clsB] at h
  cases e1 : clB ts ls m p with
  | none => rw [e1] at h; cases h
  | some n =>
    cases e2 : clsB ts ls m ps with
    | none => rw [e1, e2] at h; cases h
    | some k => rw [e1, e2] at h; cases h; exact ⟨n, k, rfl, rfl, rfl⟩
mutual
theorem ch_mono {m m' : Str → Option Nat} (h : Within m m') : ∀ (p : T) {l : Nat}, clB ts ls m p = some l → chF ts ls m' p = chF ts ls m p
  | .any _, l, _ => by rw [chF, chF]
  | .num _, l, _ => by rw [chF, chF]
  | .name _, l, _ => by rw [chF, chF]
  | .of w as, l, e => by
    rw [clB] at e
    cases e1 : clsB ts ls m as with
    | none => rw [e1] at e; cases e
    | some ns => rw [chF, chF, e1, clsB_mono h as e1, chs_mono h as e1]
theorem chs_mono {m m' : Str → Option Nat} (h : Within m m') : ∀ (ps : List T) {l : List Nat}, clsB ts ls m ps = some l → chsF ts ls m' ps = chsF ts ls m ps
  | [], l, _ => by rw [chsF, chsF]
  | p :: ps, l, e => by
    obtain ⟨n, k, e1, e2, _⟩ := cls_cons e
    rw [chsF, chsF, ch_mono h p e1, chs_mono h ps e2]
end
structure HdO (ts : List Tm) (ls : List Nat) (hd : Nat → List Nat) : Prop where
  asc : ∀ l, (hd l).Pairwise (· < ·)
  pos : ∀ l, ∀ k ∈ hd l, ∀ u, ts[k]? = some u → posF (ts.map (mk ls)) (mk ls u) = some k
theorem hdo_of : HdO ts ls (hdF ts ls) where
  asc := fun l => by
    unfold hdF
    rw [rows_lookF]
    exact (List.Pairwise.filter _ List.pairwise_lt_range).filter _
  pos := fun l k hk u hu => by
    obtain ⟨u', hu', hp⟩ := first_mem.mp (hd_mem.mp hk).1
    rw [hu] at hu'
    cases hu'
    exact hp
theorem ch_head (H : Hds ts ls hd) {k : Nat} {x : Str} {as : List Nat} {ps : List T} {ws : List Bd} {w : Bd} (hp : posF (ts.map (mk ls)) (mk ls (.of x as)) = some k) (el : as.length = ps.length) (hw : w ∈ arW ts ls hd ps as ws) : chF ts ls (look w) (.of x ps) = k :: chsF ts ls (look w) ps := by
  obtain ⟨b, _, _, hc⟩ := ar_sound H ps as el hw
  rw [chF, hc]
  congr 1
  rw [Option.bind_some, ← mk_of (k := 0), hp]; rfl
theorem short_pw {α : Type} {R : α → α → Prop} : ∀ {l : List α}, l.length ≤ 1 → l.Pairwise R
  | [], _ => List.Pairwise.nil
  | [a], _ => List.pairwise_singleton _ _
  | _ :: _ :: _, h => by simp at h
mutual
theorem cl_ord (H : Hds ts ls hd) (O : HdO ts ls hd) : ∀ (p : T) (lead : Nat) (b : Bd), (clW ts ls hd p lead b).Pairwise fun v v' => LxN (chF ts ls (look v) p) (chF ts ls (look v') p)
  | .any x, lead, b => by
    rw [clW]
    unfold holeW
    refine short_pw ?_
    split
    · split <;> simp
    · simp
  | .num n, lead, b => by rw [clW]; refine short_pw ?_; split <;> simp
  | .name n, lead, b => by rw [clW]; refine short_pw ?_; split <;> simp
  | .of x ps, lead, b => by
    rw [clW, List.pairwise_flatMap]
    have hd1 : ∀ k ∈ hd lead, ∀ w, w ∈ (match ts[k]? with
        | some (TM.of y as) => if y = x ∧ as.length = ps.length then arW ts ls hd ps as [b] else []
        | _ => []) → chF ts ls (look w) (.of x ps) = k :: chsF ts ls (look w) ps := fun k hk w hw => by
      split at hw
      · rename_i y as e
        split at hw
        · rename_i c
          obtain ⟨rfl, el⟩ := c
          exact ch_head H (O.pos lead k hk _ e) el hw
        · cases hw
      · cases hw
    refine ⟨fun k hk => ?_, (O.asc lead).imp_of_mem fun {k k'} hk hk' hlt v hv v' hv' => ?_⟩
    · refine List.Pairwise.imp_of_mem (R := fun v v' => LxN (chsF ts ls (look v) ps) (chsF ts ls (look v') ps)) (fun {v v'} hv hv' h => by rw [hd1 k hk v hv, hd1 k hk v' hv']; exact lx_cons h) ?_
      split
      · split
        · rename_i c
          exact ar_ord H O ps _ c.2 (qs := []) (ws := [b]) (fun v _ => ⟨[], by rw [clsB]⟩) (List.pairwise_singleton _ _)
        · exact List.Pairwise.nil
      · exact List.Pairwise.nil
    · rw [hd1 k hk v hv, hd1 k' hk' v' hv']
      exact lx_head hlt
theorem ar_ord (H : Hds ts ls hd) (O : HdO ts ls hd) : ∀ (ps : List T) (as : List Nat), as.length = ps.length → ∀ {qs : List T} {ws : List Bd}, (∀ v ∈ ws, ∃ l, clsB ts ls (look v) qs = some l) → ws.Pairwise (fun v v' => LxN (chsF ts ls (look v) qs) (chsF ts ls (look v') qs)) →
    (arW ts ls hd ps as ws).Pairwise fun v v' => LxN (chsF ts ls (look v) (qs ++ ps)) (chsF ts ls (look v') (qs ++ ps))
  | [], as, _, qs, ws, _, hp => by rw [arW, List.append_nil]; exact hp
  | p :: ps, [], el, _, _, _, _ => by cases el
  | p :: ps, a :: as, el, qs, ws, hs, hp => by
    rw [arW, show qs ++ p :: ps = (qs ++ [p]) ++ ps by rw [List.append_assoc]; rfl]
    refine ar_ord H O ps as (Nat.succ.inj el) (qs := qs ++ [p]) (fun w hw => ?_) ?_
    · obtain ⟨v, hv, hw⟩ := List.mem_flatMap.mp hw
      obtain ⟨l, hl⟩ := hs v hv
      obtain ⟨fr, hc⟩ := cl_sound H p hw
      exact ⟨_, cls_app (clsB_mono fr.ext qs hl) (by rw [clsB, hc, clsB]; rfl)⟩
    · rw [List.pairwise_flatMap]
      have old : ∀ v ∈ ws, ∀ w ∈ clW ts ls hd p (ls.getD ((a :: as).headD 0) 0) v, chsF ts ls (look w) (qs ++ [p]) = chsF ts ls (look v) qs ++ chF ts ls (look w) p := fun v hv w hw => by
        obtain ⟨l, hl⟩ := hs v hv
        obtain ⟨fr, hc⟩ := cl_sound H p hw
        rw [chs_app, chs_one, chs_mono fr.ext qs hl]
      refine ⟨fun v hv => (cl_ord H O p _ v).imp_of_mem fun {w w'} hw hw' h => ?_, hp.imp_of_mem fun {v v'} hv hv' h w hw w' hw' => ?_⟩
      · rw [old v hv w hw, old v hv w' hw']; exact lx_pre h
      · rw [old v hv w hw, old v' hv' w' hw']; exact lx_app (by rw [chs_len, chs_len]) h
end
theorem te_ord (H : Hds ts ls (hdF ts ls)) (O : HdO ts ls (hdF ts ls)) (k : Nat) (x : Str) (ps : List T) : (teW ts ls k x ps []).Pairwise fun v v' => LxN (chsF ts ls (look v) ps) (chsF ts ls (look v') ps) := by
  unfold teW
  split
  · split
    · rename_i c
      exact ar_ord H O ps _ c.2 (qs := []) (ws := [[]]) (fun v _ => ⟨[], by rw [clsB]⟩) (List.pairwise_singleton _ _)
    · exact List.Pairwise.nil
  · exact List.Pairwise.nil
end
mutual
noncomputable def T.ar : T → Nat
  | .num _ => 1
  | .name _ => 1
  | .any _ => 1
  | .of _ ps => 1 + T.ars ps
noncomputable def T.ars : List T → Nat
  | [] => 0
  | p :: ps => p.ar + T.ars ps
end
theorem ars_app : ∀ (ps qs : List T), T.ars (ps ++ qs) = T.ars ps + T.ars qs
  | [], qs => by rw [List.nil_append, T.ars, Nat.zero_add]
  | p :: ps, qs => by rw [List.cons_append, T.ars, T.ars, ars_app ps qs, Nat.add_assoc]
theorem ar_pos (p : T) : 1 ≤ p.ar := by cases p <;> rw [T.ar] <;> omega
theorem ars_len : ∀ (ps : List T), ps.length ≤ T.ars ps
  | [] => Nat.zero_le _
  | p :: ps => by rw [T.ars, List.length_cons]; have := ar_pos p; have := ars_len ps; omega
mutual
theorem kn_ar : ∀ (p : T), p.kn ≤ p.ar
  | .num _ => by rw [T.kn]; exact Nat.zero_le _
  | .name _ => by rw [T.kn]; exact Nat.zero_le _
  | .any _ => by rw [T.kn]; exact Nat.zero_le _
  | .of _ ps => by rw [T.kn, T.ar]; have := kns_ars ps; omega
theorem kns_ars : ∀ (ps : List T), T.kns ps ≤ T.ars ps
  | [] => by rw [T.kns]; exact Nat.zero_le _
  | p :: ps => by rw [T.kns, T.ars]; have := kn_ar p; have := kns_ars ps; omega
end
end Sw
namespace K44
open PySem L2 Sw
noncomputable def top (i : Nat) : Stmt := PySem.Challenge.pw_samewise_k44_matches_walked.main.body.getD i (.Pass ⟨0, 0, 0, 0⟩)
noncomputable abbrev s_mark : Stmt := top 1
theorem sc_mark : FnScope ["term", "leads"] ["term", "leads"] (defScope s_mark) := ⟨rfl, rfl, rfl, by decide +kernel, rfl, by decide +kernel, by decide +kernel⟩
noncomputable abbrev s_join_classes : Stmt := top 3
theorem sc_join_classes : FnScope ["leads", "a", "b", "low", "high", "k"] ["leads", "a", "b"] (defScope s_join_classes) := ⟨rfl, rfl, rfl, by decide +kernel, rfl, by decide +kernel, by decide +kernel⟩
noncomputable abbrev s_join_like : Stmt := top 4
theorem sc_join_like : FnScope ["terms", "leads", "joined", "first", "k", "term", "other"] ["terms", "leads"] (defScope s_join_like) := ⟨rfl, rfl, rfl, by decide +kernel, rfl, by decide +kernel, by decide +kernel⟩
noncomputable abbrev s_closed : Stmt := top 2
theorem sc_closed : FnScope ["terms", "edges", "leads", "edge"] ["terms", "edges"] (defScope s_closed) := ⟨rfl, rfl, rfl, by decide +kernel, rfl, by decide +kernel, by decide +kernel⟩
noncomputable abbrev s_marks : Stmt := top 5
theorem sc_marks : FnScope ["terms", "leads", "table", "k", "term"] ["terms", "leads"] (defScope s_marks) := ⟨rfl, rfl, rfl, by decide +kernel, rfl, by decide +kernel, by decide +kernel⟩
noncomputable abbrev s_nodes : Stmt := top 6
theorem sc_nodes : FnScope ["terms", "leads", "found", "seen", "k", "term", "own"] ["terms", "leads"] (defScope s_nodes) := ⟨rfl, rfl, rfl, by decide +kernel, rfl, by decide +kernel, by decide +kernel⟩
noncomputable abbrev s_matches : Stmt := top 8
theorem sc_matches : FnScope ["terms", "leads", "left", "matcher", "found", "k", "binds"] ["terms", "leads", "left"] (defScope s_matches) := ⟨rfl, rfl, rfl, by decide +kernel, rfl, by decide +kernel, by decide +kernel⟩
noncomputable abbrev s_node_numbers : Stmt := top 9
theorem sc_node_numbers : FnScope ["terms", "leads", "found", "row"] ["terms", "leads"] (defScope s_node_numbers) := ⟨rfl, rfl, rfl, by decide +kernel, rfl, by decide +kernel, by decide +kernel⟩
noncomputable abbrev s_minit : Stmt := inClass (top 10) 0
theorem sc_minit : FnScope ["self", "terms", "leads"] ["self", "terms", "leads"] (defScope s_minit) := ⟨rfl, rfl, rfl, by decide +kernel, rfl, by decide +kernel, by decide +kernel⟩
noncomputable abbrev s_term_ways : Stmt := inClass (top 10) 1
theorem sc_term_ways : FnScope ["self", "k", "pattern", "binds", "term", "ways", "number", "arm", "longer", "way"] ["self", "k", "pattern", "binds"] (defScope s_term_ways) := ⟨rfl, rfl, rfl, by decide +kernel, rfl, by decide +kernel, by decide +kernel⟩
noncomputable abbrev s_class_ways : Stmt := inClass (top 10) 2
theorem sc_class_ways : FnScope ["self", "lead", "pattern", "binds", "ways", "k"] ["self", "lead", "pattern", "binds"] (defScope s_class_ways) := ⟨rfl, rfl, rfl, by decide +kernel, rfl, by decide +kernel, by decide +kernel⟩
noncomputable abbrev s_hole_ways : Stmt := top 11
theorem sc_hole_ways : FnScope ["lead", "hole", "binds", "more"] ["lead", "hole", "binds"] (defScope s_hole_ways) := ⟨rfl, rfl, rfl, by decide +kernel, rfl, by decide +kernel, by decide +kernel⟩
noncomputable abbrev s_cell_at : Stmt := top 13
theorem sc_cell_at : FnScope ["_law_script", "_law_k"] ["_law_script", "_law_k"] (defScope s_cell_at) := ⟨rfl, rfl, rfl, by decide +kernel, rfl, by decide +kernel, by decide +kernel⟩
noncomputable abbrev s_mixed : Stmt := top 14
theorem sc_mixed : FnScope ["_law_cell", "_law_k", "_law_m"] ["_law_cell", "_law_k"] (defScope s_mixed) := ⟨rfl, rfl, rfl, by decide +kernel, rfl, by decide +kernel, by decide +kernel⟩
noncomputable abbrev s_word : Stmt := top 15
theorem sc_word : FnScope ["_law_m", "_law_signs", "_law_size", "_law_at", "_law_word_here"] ["_law_m"] (defScope s_word) := ⟨rfl, rfl, rfl, by decide +kernel, rfl, by decide +kernel, by decide +kernel⟩
noncomputable abbrev s_number : Stmt := top 16
theorem sc_number : FnScope ["_law_cell", "_law_m", "_law_most"] ["_law_cell", "_law_m"] (defScope s_number) := ⟨rfl, rfl, rfl, by decide +kernel, rfl, by decide +kernel, by decide +kernel⟩
noncomputable abbrev s_pool : Stmt := top 17
theorem sc_pool : FnScope ["_law_m", "_law_signs", "_law_word_here", "_law_at", "_law_turned", "_law_other"] ["_law_m"] (defScope s_pool) := ⟨rfl, rfl, rfl, by decide +kernel, rfl, by decide +kernel, by decide +kernel⟩
noncomputable abbrev s_term : Stmt := top 18
theorem sc_term : FnScope ["_law_cell", "_law_m", "_law_terms_here", "_law_pool_here", "_law_n", "_law_numbers_of"] ["_law_cell", "_law_m", "_law_terms_here", "_law_pool_here"] (defScope s_term) := ⟨rfl, rfl, rfl, by decide +kernel, rfl, by decide +kernel, by decide +kernel⟩
noncomputable abbrev s_terms : Stmt := top 19
theorem sc_terms : FnScope ["_law_cells", "_law_pool_here", "_law_most", "_law_ties", "_law_terms_here", "_law_edges", "_law_k", "_law_cell", "_law_m", "_law_n", "_law_term_here"] ["_law_cells", "_law_pool_here", "_law_most", "_law_ties"] (defScope s_terms) := ⟨rfl, rfl, rfl, by decide +kernel, rfl, by decide +kernel, by decide +kernel⟩
noncomputable abbrev s_hole : Stmt := top 20
theorem sc_hole : FnScope ["_law_base", "_law_at", "_law_turn_by", "_law_many", "_law_lead", "_law_letter"] ["_law_base", "_law_at", "_law_turn_by", "_law_many", "_law_lead"] (defScope s_hole) := ⟨rfl, rfl, rfl, by decide +kernel, rfl, by decide +kernel, by decide +kernel⟩
noncomputable abbrev s_general : Stmt := top 21
theorem sc_general : FnScope ["_law_terms_here", "_law_leads", "_law_t", "_law_picks", "_law_binds", "_law_room", "_law_base", "_law_mode", "_law_arms", "_law_place", "_law_m", "_law_some", "_law_j", "_law_word_here"] ["_law_terms_here", "_law_leads", "_law_t", "_law_picks", "_law_binds", "_law_room", "_law_base", "_law_mode"] (defScope s_general) := ⟨rfl, rfl, rfl, by decide +kernel, rfl, by decide +kernel, by decide +kernel⟩
noncomputable abbrev s_left : Stmt := top 22
theorem sc_left : FnScope ["_law_script", "_law_terms_here", "_law_leads", "_law_pool_here", "_law_mode", "_law_m", "_law_some", "_law_t", "_law_picks", "_law_word_here", "_law_binds", "_law_left_here"] ["_law_script", "_law_terms_here", "_law_leads", "_law_pool_here", "_law_mode"] (defScope s_left) := ⟨rfl, rfl, rfl, by decide +kernel, rfl, by decide +kernel, by decide +kernel⟩
noncomputable abbrev s_lmark : Stmt := top 23
theorem sc_lmark : FnScope ["_law_term_here", "_law_leads"] ["_law_term_here", "_law_leads"] (defScope s_lmark) := ⟨rfl, rfl, rfl, by decide +kernel, rfl, by decide +kernel, by decide +kernel⟩
noncomputable abbrev s_table : Stmt := top 24
theorem sc_table : FnScope ["_law_terms_here", "_law_leads", "_law_table_here", "_law_k", "_law_own"] ["_law_terms_here", "_law_leads"] (defScope s_table) := ⟨rfl, rfl, rfl, by decide +kernel, rfl, by decide +kernel, by decide +kernel⟩
noncomputable abbrev s_spot : Stmt := top 25
theorem sc_spot : FnScope ["_law_table_here", "_law_leads", "_law_pattern", "_law_binds", "_law_chosen", "_law_k", "_law_at", "_law_classes", "_law_arm", "_law_lead"] ["_law_table_here", "_law_leads", "_law_pattern", "_law_binds", "_law_chosen"] (defScope s_spot) := ⟨rfl, rfl, rfl, by decide +kernel, rfl, by decide +kernel, by decide +kernel⟩
noncomputable abbrev s_is_match : Stmt := top 26
theorem sc_is_match : FnScope ["_law_row", "_law_words", "_law_leads", "_law_word_here", "_law_lead"] ["_law_row", "_law_words", "_law_leads"] (defScope s_is_match) := ⟨rfl, rfl, rfl, by decide +kernel, rfl, by decide +kernel, by decide +kernel⟩
noncomputable abbrev s_law : Stmt := top 27
theorem sc_law : FnScope ["_law_script", "_law_first", "_law_pool_here", "_law_terms_here", "_law_edges", "_law_leads", "_law_left_here", "_law_handed", "_law_found", "_law_table_here", "_law_last", "_law_row", "_law_chosen"] ["_law_script"] (defScope s_law) := ⟨rfl, rfl, rfl, by decide +kernel, rfl, by decide +kernel, by decide +kernel⟩
section
variable {P : Program} {w : World} {K : PySem.W.Frag} {mg : Str → Option Value} {base : Heap}
inductive SpMark (K : PySem.W.Frag) (vs : List V) (H : Hp) (Q : VK) : Prop
  | mk (v : V) (t : Tm) (L : Addr) (ls : List Nat) (z0 : vs = [v, .ref L]) (z1 : IsTm H t v) (z2 : SqL K H L (ls.map nV)) (z3 : (∀ x as, t = .of x as → as.length ≤ 1000 ∧ ∀ a ∈ as, a < ls.length)) (z4 : ∀ v' H', Same H H' → IsTm H' (mk ls t) v' → Q v' H') : SpMark K vs H Q
noncomputable def spMark (K : PySem.W.Frag) : Sp := fun vs H Q _ => SpMark K vs H Q
theorem ok_mark (B : Blt mg) (D : Def K mg "mark" s_mark ["term", "leads"]) : Has P w K mg base 1 "mark" ["term", "leads"] (spMark K) := by
  refine D.has sc_mark (fun vs H Q E h => ?_) (fun f cdv A outer s H vs Q E hr h => ?_)
  · obtain ⟨v, t, L, ls, rfl, _⟩ := h; rfl
  obtain ⟨v, t, L, ls, rfl, hT, hL, hb, q⟩ := h
  refine ⟨_, (pss_cons (ps_if (pt_cmpR op_ne (pe_ix ix_tup (pv 0) pe_int (fun _ _ => rfl)) pe_str (nomark _)) (pss_one (ps_ret (pv 0))) pss_nil)
    (pss_one (ps_ret (pe_tup (pa_cons pe_str (pa_cons (pe_ix ix_tup (pv 0) pe_int (fun _ _ => rfl)) (pa_cons (pe_callTy call_tuple_of rfl B.tuple_ boot_tuple_ (pa_cons (pe_comp (te := (tOp (rIxL K) _ _)) (own := ["number"]) (caps := [("leads", 1)]) (comp_scope (defScope s_mark) ["term", "leads"] rfl rfl rfl (by decide +kernel)) (pi_tup (pe_ix ix_tup (pv 0) pe_int (fun _ _ => rfl))) rfl (fun _ _ _ => pg_name (i := 0) (show (["number", "leads"] : List Str).Nodup by decide +kernel) rfl (Or.inl rfl)) (fun _ _ _ => (pe_ix ix_list (pv 1) (pv 0) (fun _ _ => rfl)))) pa_nil)) pa_nil))))))), ?_⟩
  try dsimp only [cxOf]
  cases t with
  | num n =>
    obtain ⟨a, rfl, h⟩ := id hT
    refine ⟨_, rfl, a, _, 0, _, rfl, rfl, SqT.of h, atI_nat (j := 0) rfl, rfl, _, rfl, iteDN (fun _ => ⟨_, rfl, q _ _ (Same.refl _) hT⟩) (fun z => absurd (V.str.inj z) (by decide))⟩
  | name n =>
    obtain ⟨a, rfl, h⟩ := id hT
    refine ⟨_, rfl, a, _, 0, _, rfl, rfl, SqT.of h, atI_nat (j := 0) rfl, rfl, _, rfl, iteDN (fun _ => ⟨_, rfl, q _ _ (Same.refl _) hT⟩) (fun z => absurd (V.str.inj z) (by decide))⟩
  | of x as =>
    obtain ⟨a, b, rfl, h, h2⟩ := id hT
    obtain ⟨hl, hlt⟩ := hb x as rfl
    refine ⟨_, rfl, a, _, 0, _, rfl, rfl, SqT.of h, atI_nat (j := 0) rfl, rfl, _, rfl, iteDN (fun z => absurd rfl z) (fun _ => ?_)⟩
    refine ⟨_, rfl, a, _, 1, _, rfl, rfl, SqT.of h, atI_nat (j := 1) rfl, ?_⟩
    refine ⟨_, rfl, a, _, 2, _, rfl, rfl, SqT.of h, atI_nat (j := 2) rfl, b, rfl, ⟨_, SqT.of h2⟩, ?_⟩
    refine comp_tupS (ys := (as.map fun a => ls.getD a 0).map nV) (SqT.of h2) (by rw [List.length_map]; exact hl) (by simp) (fun i y z hy hz H' sm Q' q' => ?_) (fun D1 H' hD1 sm hD => ?_)
    · rw [List.getElem?_map] at hy
      rw [List.getElem?_map, List.getElem?_map] at hz
      cases e : as[i]? with
      | none => rw [e] at hy; cases hy
      | some k =>
        rw [e] at hy hz
        have e1 : nV k = y := Option.some.inj hy
        have e2 : nV (ls.getD k 0) = z := Option.some.inj hz
        subst e1 e2
        have hk := hlt k (List.mem_of_getElem? e)
        have e3 : ls[k]? = some (ls.getD k 0) := by rw [List.getD_eq_getElem?_getD, List.getElem?_eq_getElem hk]; rfl
        exact ⟨_, rfl, _, rfl, L, _, _, _, rfl, rfl, sm.seq hL, nV_at e3, q' _ (Same.refl _)⟩
    · refine ⟨D1, _, rfl, .inl ⟨SqL.of hD, fun l hl' => ?_⟩⟩
      refine ⟨(show 3 ≤ sizeLine by decide), fun t ht => ?_⟩
      refine q _ _ (sm.trans ((same_new hl' _).trans (same_new ht _))) ⟨t, l, rfl, upd_same, ?_⟩
      rw [upd_ne (ne_of_none upd_same ht), upd_same]
inductive SpJoin (vs : List V) (H : Hp) (Q : VK) : Prop
  | mk (L : Addr) (ls : List Nat) (a b la lb : Nat) (z0 : vs = [.ref L, nV a, nV b]) (z1 : H L = some (.lst (ls.map nV))) (z2 : GoodL ls) (z3 : ls.length ≤ 1000000) (z4 : ls[a]? = some la) (z5 : ls[b]? = some lb) (z6 : (la = lb → Q (.bl false) H)) (z7 : (la ≠ lb → Q (.bl true) (upd H L (.lst ((jn ls (max la lb) (min la lb)).map nV))))) : SpJoin  vs H Q
noncomputable def spJoin : Sp := fun vs H Q _ => SpJoin  vs H Q
theorem ok_join_classes (B : Blt mg) (D : Def K mg "join_classes" s_join_classes ["leads", "a", "b"]) : Has P w K mg base 1 "join_classes" ["leads", "a", "b"] spJoin := by
  refine D.has sc_join_classes (fun vs H Q E h => ?_) (fun f cdv A outer s H vs Q E hr h => ?_)
  · obtain ⟨L, ls, a, b, la, lb, rfl, _⟩ := h; rfl
  obtain ⟨L, ls, a, b, la, lb, rfl, hL, hg, hz, ha, hb, q1, q2⟩ := h
  refine ⟨_, (pss_cons (ps_set (i := 3) sc_join_classes.nd rfl (Or.inl rfl) (pe_callB (call_min2 rfl) rfl B.min_ boot_min_ (pa_cons (pe_ix ix_list (pv 0) (pv 1) (fun _ _ => rfl)) (pa_cons (pe_ix ix_list (pv 0) (pv 2) (fun _ _ => rfl)) pa_nil))))
    (pss_cons (ps_set (i := 4) sc_join_classes.nd rfl (Or.inl rfl) (pe_callB (call_max2 rfl) rfl B.max_ boot_max_ (pa_cons (pe_ix ix_list (pv 0) (pv 1) (fun _ _ => rfl)) (pa_cons (pe_ix ix_list (pv 0) (pv 2) (fun _ _ => rfl)) pa_nil))))
    (pss_cons (ps_if (pt_cmpR op_eq (pv 3) (pv 4) (nomark _)) (pss_one (ps_ret pe_bl)) pss_nil)
    (pss_cons (ps_for PassesOwn.never rfl (pi_range2 rfl B.range_ (pa_cons (pv 4) (pa_cons (pe_callB call_len_seq rfl B.len_ PySem.boot_len (pa_cons (pv 0) pa_nil)) pa_nil))) (pg_name (i := 5) sc_join_classes.nd rfl (Or.inl rfl))
    (pss_one (ps_if (pt_cmpR op_eq (pe_ix ix_list (pv 0) (pv 5) (fun _ _ => rfl)) (pv 4) (nomark _)) (pss_one (ps_asg (pv 3) (pg_sub (pv 0) (pv 5) set_list))) pss_nil)))
    (pss_one (ps_ret pe_bl)))))), ?_⟩
  try dsimp only [cxOf]
  refine ⟨_, rfl, _, rfl, L, _, _, _, rfl, rfl, SqL.of hL, nV_at ha, _, rfl, _, rfl, L, _, _, _, rfl, rfl, SqL.of hL, nV_at hb, _, _, rfl, ?_⟩
  refine ⟨_, rfl, _, rfl, L, _, _, _, rfl, rfl, SqL.of hL, nV_at ha, _, rfl, _, rfl, L, _, _, _, rfl, rfl, SqL.of hL, nV_at hb, _, _, rfl, ?_⟩
  have e1 : (if (lb : Int) < (la : Int) then (lb : Int) else (la : Int)) = ((min la lb : Nat) : Int) := by split <;> omega
  have e2 : (if (lb : Int) > (la : Int) then (lb : Int) else (la : Int)) = ((max la lb : Nat) : Int) := by split <;> omega
  dsimp only [gName]
  rw [e1, e2]
  by_cases hab : la = lb
  · refine ⟨_, rfl, _, rfl, rfl, _, rfl, iteD (fun _ => q1 hab) (fun z => absurd ?_ z)⟩
    show V.int _ = V.int _
    congr 1; omega
  · refine ⟨_, rfl, _, rfl, rfl, _, rfl, iteD (fun z => ?_) (fun _ => ?_)⟩
    · have := V.int.inj z
      omega
    have hhi : ∃ c : Nat, ls[c]? = some (max la lb) := by
      rcases Nat.le_total la lb with h | h
      · exact ⟨b, by rw [Nat.max_eq_right h]; exact hb⟩
      · exact ⟨a, by rw [Nat.max_eq_left h]; exact ha⟩
    obtain ⟨c, hc⟩ := hhi
    have hhi2 := (hg c _ hc).2
    have hlt : max la lb < ls.length := (List.getElem?_eq_some_iff.mp hhi2).1
    have q2' := q2 hab
    have hlohi : min la lb < max la lb := by omega
    generalize max la lb = hi at *
    generalize min la lb = lo at *
    refine ⟨_, rfl, _, rfl, L, _, rfl, .inl (SqL.of hL), hi, _, rfl, ?_, ?_⟩
    · rw [List.length_map]; omega
    have en : (((ls.map nV).length : Nat) : Int) - (hi : Int) = ((ls.length - hi : Nat) : Int) := by rw [List.length_map]; omega
    rw [en, Int.toNat_natCast]
    refine for_range (lo := (hi : Int)) (fun i σ H' => ∃ o, σ = [some (.ref L), some (nV a), some (nV b), some (nV lo), some (nV hi), o] ∧ H' = upd H L (.lst ((mix ls hi lo (hi + i)).map nV))) ⟨none, rfl, ?_⟩ ?_ ?_
    · rw [Nat.add_zero, mix_start hg]
      funext c'
      by_cases h : c' = L
      · subst h; rw [upd_same]; exact hL
      · rw [upd_ne h]
    · rintro i σ H' hi' ⟨o, rfl, rfl⟩
      have hk : hi + i < ls.length := by omega
      have ev := List.getElem?_eq_getElem hk
      generalize ls[hi + i] = v at ev
      have em : (mix ls hi lo (hi + i))[hi + i]? = some v := by
        rw [mix_at, ev]
        show some _ = some _
        dsimp only
        rw [if_neg (by omega)]
      have ek : (hi : Int) + (i : Int) = ((hi + i : Nat) : Int) := by omega
      show tIfS _ _ _ _ _ _
      refine ⟨_, rfl, _, rfl, L, _, _, nV v, rfl, rfl, SqL.of upd_same, (by rw [ek]; exact nV_at em), _, rfl, rfl, _, rfl, iteD (fun z => ?_) (fun z => ?_)⟩
      · have hv : v = hi := by have := V.int.inj z; omega
        refine ⟨_, rfl, _, rfl, _, rfl, L, _, _, hi + i, rfl, rfl, upd_same, ?_, ⟨_, rfl, ?_⟩⟩
        · rw [ek, List.length_map, mix_len]
          unfold ixN
          rw [if_pos (by omega), if_pos (by omega), Int.toNat_natCast]
        · rw [upd_upd]
          have := mix_set (hi := hi) (lo := lo) ev
          unfold ren at this
          rw [if_pos hv] at this
          rw [nV_set, this]
          rfl
      · have hv : v ≠ hi := fun e => z (by rw [e])
        refine ⟨_, rfl, ?_⟩
        have := mix_stay (hi := hi) (lo := lo) ev hv
        rw [show hi + (i + 1) = hi + i + 1 from rfl, this]
    · rintro σ H' ⟨o, rfl, rfl⟩
      rw [mix_end (by omega)]
      exact q2'
inductive SpJoinLike (P : Program) (w : World) (vs : List V) (H : Hp) (Q : VK) : Prop
  | mk (T L : Addr) (us : List V) (ts : List Tm) (ls : List Nat) (es : List (Nat × Nat)) (z0 : vs = [.ref T, .ref L]) (z1 : H T = some (.lst us)) (z2 : Tms H us ts) (z3 : H L = some (.lst (ls.map nV))) (z4 : T ≠ L) (z5 : GoodL ls) (z6 : Sound ts es ls) (z7 : Arms ts) (z8 : ls.length = ts.length) (z9 : ts.length ≤ 1000) (z10 : (∀ (i : Nat) x as, ts[i]? = some (.of x as) → as.length ≤ 1000)) (z11 : ∀ ls' b H', But L H H' → H' L = some (.lst (ls'.map nV)) → GoodL ls' → Sound ts es ls' → Keeps ls ls' → ls'.length = ls.length → (b = true → ls'.sum < ls.sum) → (b = false → ls' = ls ∧ ∀ (i j : Nat) (t u : Tm), ts[i]? = some t → ts[j]? = some u → mk ls t = mk ls u → ls[i]? = ls[j]?) → Q (.bl b) H') : SpJoinLike P w vs H Q
noncomputable def spJoinLike (P : Program) (w : World) : Sp := fun vs H Q _ => SpJoinLike P w vs H Q
inductive Iv_join_like1 (P : Program) (w : World) (H : Hp) (T : Addr) (L : Addr) (p : Addr) (ts : List Tm) (es : List (Nat × Nat)) (ls : List Nat) (i : Nat) (σ : St) (H' : Hp) : Prop
  | mk : ∀ (ls' : List Nat) (jd : Bool) (kvs : List (NK × V)) (x4 x5 x6 : Option V), (σ = [some (.ref T), some (.ref L), some (.bl jd), some (.ref p), x4, x5, x6]) → (But L H H') → (H' L = some (.lst (ls'.map nV))) → (DN P w H' p kvs) → (GoodL ls') → (Sound ts es ls') → (Keeps ls ls') → (ls'.length = ls.length) → ((jd = true → ls'.sum < ls.sum)) → ((jd = false → ls' = ls)) → (ls'.sum ≤ ls.sum) → (kvs.length ≤ i) → ((∀ key v, valV kvs key = some v → ∃ j t m, v = nV j ∧ ts[j]? = some t ∧ key = tmNK m ∧ Stands ts es t m)) → ((jd = false → ∀ (j : Nat) t, j < i → ts[j]? = some t → ∃ j', valV kvs (tmNK (mk ls t)) = some (nV j') ∧ ls[j']? = ls[j]?)) → Iv_join_like1 P w H T L p ts es ls i σ H'
theorem ok_join_like (B : Blt mg) (h_mark : Has P w K mg base 1 "mark" ["term", "leads"] (spMark K)) (h_join_classes : Has P w K mg base 1 "join_classes" ["leads", "a", "b"] spJoin) (D : Def K mg "join_like" s_join_like ["terms", "leads"]) :
    Has P w K mg base 2 "join_like" ["terms", "leads"] (spJoinLike P w) := by
  refine D.has sc_join_like (fun vs H Q E h => ?_) (fun f cdv A outer s H vs Q E hr h => ?_)
  · obtain ⟨T, L, us, ts, ls, es, rfl, _⟩ := h; rfl
  obtain ⟨T, L, us, ts, ls, es, rfl, hT, hts, hL, hTL, hg, hs, har, hlen, hz, hza, q⟩ := h
  refine ⟨_, (pss_cons (ps_set (i := 2) sc_join_like.nd rfl (Or.inl rfl) pe_bl)
    (pss_cons (ps_set (i := 3) sc_join_like.nd rfl (Or.inl rfl) pe_dnewN)
    (pss_cons (ps_for PassesOwn.never rfl (pi_enum rfl B.enumerate_ (pa_cons (pv 0) pa_nil)) (pg_tup rfl (pgs_cons (pg_name (i := 4) sc_join_like.nd rfl (Or.inl rfl)) (pgs_cons (pg_name (i := 5) sc_join_like.nd rfl (Or.inl rfl)) pgs_nil)))
    (pss_cons (ps_set (i := 6) sc_join_like.nd rfl (Or.inl rfl) (pe_setD (un10 hr) (pv 3) (pe_callH h_mark hr (by omega) rfl (pa_cons (pv 5) (pa_cons (pv 1) pa_nil))) (pv 4) ⟨rfl, rfl, rfl, rfl⟩))
    (pss_one (ps_if (pt_val (pe_callH h_join_classes hr (by omega) rfl (pa_cons (pv 1) (pa_cons (pv 6) (pa_cons (pv 4) pa_nil))))) (pss_one (ps_set (i := 2) sc_join_like.nd rfl (Or.inl rfl) pe_bl)) pss_nil))))
    (pss_one (ps_ret (pv 2)))))), ?_⟩
  try dsimp only [cxOf]
  have hut := Paired.length hts
  intro p φ hp dn0
  dsimp only [gName]
  have hpL : p ≠ L := fun e => by rw [e, hL] at hp; cases hp
  have hpT : p ≠ T := fun e => by rw [e, hT] at hp; cases hp
  refine ⟨_, rfl, T, rfl, ⟨us, SqL.of (by rw [upd_ne (Ne.symm hpT)]; exact hT)⟩, ?_⟩
  refine for_enum (xs := us) (Iv_join_like1 P w H T L p ts es ls)
    ⟨ls, false, [], none, none, none, rfl, (But.refl L H).new hp, by rw [upd_ne (Ne.symm hpL)]; exact hL, dn0, hg, hs, keeps_refl ls, rfl, (fun z => nomatch z), fun _ => rfl, Nat.le_refl _, Nat.zero_le _, (fun key v e => by rw [valV_nil] at e; cases e), fun _ j t hj => absurd hj (Nat.not_lt_zero _)⟩ ?_ ?_ ?_
  · rintro i σ H' _ ⟨ls', jd, kvs, x4, x5, x6, rfl, bt, _⟩
    exact SqL.of (bt T _ hTL hT)
  · rintro i x a0 σ H' hx ⟨ls', jd, kvs, x4, x5, x6, rfl, bt, hL', dn, hg', hs', hk', hlen', hjt, hjf, hsum, hkl, iA, iB⟩ ha0
    obtain ⟨t, ht, hx'⟩ := tms_at hts hx
    have hi : i < ts.length := (List.getElem?_eq_some_iff.mp ht).1
    have sm0 := same_new ha0 (.tup [.int (i : Int), x])
    have bt1 := bt.same sm0
    have itx : IsTm (upd H' a0 (.tup [.int (i : Int), x])) t x := hx'.keep (bt1.tup hL)
    have hL1 := sm0 _ _ hL'
    have dn1 := dn.same sm0
    refine ⟨a0, _, rfl, SqT.of upd_same, rfl, _, _, rfl, _, _, rfl, rfl, ?_⟩
    generalize upd H' a0 (.tup [.int (i : Int), x]) = H1 at bt1 itx hL1 dn1 ⊢
    have hb : ∀ x as, t = .of x as → as.length ≤ 1000 ∧ ∀ a ∈ as, a < ls'.length := fun x as e => by
      subst e
      refine ⟨hza i x as ht, fun a ha => ?_⟩
      have := har i x as ht a ha
      omega
    refine ⟨_, rfl, p, rfl, ⟨kvs, dn1⟩, _, rfl, _, rfl, x, t, L, ls', rfl, itx, SqL.of hL1, hb, fun v' H2 sm2 hm => ?_⟩
    obtain ⟨b, rfl, nk⟩ := hm.key
    have dn2 := dn1.same sm2
    have hL2 := sm2 _ _ hL1
    have bt2 := bt1.same sm2
    obtain ⟨li, hli⟩ : ∃ li, ls'[i]? = some li := ⟨_, List.getElem?_eq_getElem (by omega)⟩
    refine ⟨_, rfl, kvs, tmNK (mk ls' t), b, dn2, rfl, nk, small1000 (by omega), fun v hv => ?_, fun hn φ2 dn3 => ?_⟩
    · -- there is one already
      obtain ⟨j, u, m, rfl, hu, hkey, hst⟩ := iA _ _ hv
      have em : m = mk ls' t := tmNK_inj hkey.symm
      subst em
      have hj : j < ts.length := (List.getElem?_eq_some_iff.mp hu).1
      obtain ⟨lj, hlj⟩ : ∃ lj, ls'[j]? = some lj := ⟨_, List.getElem?_eq_getElem (by omega)⟩
      have eq : Eqv ts es j i := stands_eqv hu ht hst (stands_mk hs' (fun x as e => (hb x as e).2))
      refine ⟨_, rfl, _, rfl, _, rfl, L, ls', j, i, lj, li, rfl, hL2, hg', by omega, hlj, hli, fun e => ?_, fun e => ?_⟩
      · refine ⟨_, rfl, iteF ⟨ls', jd, kvs, _, _, _, rfl, bt2, hL2, dn2, hg', hs', hk', hlen', hjt, hjf, hsum, by omega, iA, fun hjd j' t' hj' ht' => ?_⟩⟩
        by_cases hji : j' < i
        · exact iB hjd j' t' hji ht'
        · have e' : j' = i := by omega
          subst e'
          rw [ht] at ht'; cases ht'
          have el := hjf hjd
          rw [el] at hv hlj hli
          exact ⟨j, hv, by rw [hlj, hli, e]⟩
      · have e1 : Eqv ts es lj li := .trans (.symm (hs' j lj hlj)) (.trans eq (hs' i li hli))
        have g1 := (hg' j lj hlj).2
        have g2 := (hg' i li hli).2
        have eqv : Eqv ts es (max lj li) (min lj li) := by
          rcases Nat.le_total lj li with h | h
          · rw [Nat.max_eq_right h, Nat.min_eq_left h]; exact e1.symm
          · rw [Nat.max_eq_left h, Nat.min_eq_right h]; exact e1
        have hlo : ls'[min lj li]? = some (min lj li) := by
          rcases Nat.le_total lj li with h | h
          · rw [Nat.min_eq_left h]; exact g1
          · rw [Nat.min_eq_right h]; exact g2
        have hhi : max lj li ∈ ls' := by
          rcases Nat.le_total lj li with h | h
          · rw [Nat.max_eq_right h]; exact List.mem_of_getElem? g2
          · rw [Nat.max_eq_left h]; exact List.mem_of_getElem? g1
        have hlt : min lj li < max lj li := by omega
        have hsm := sum_jn hlt hhi
        refine ⟨_, rfl, iteT ?_⟩
        refine ⟨jn ls' (max lj li) (min lj li), true, kvs, _, _, _, rfl, bt2.put, upd_same, dn2.keep (fun φ e => by rw [upd_ne hpL]; exact e) (fun c ys e => by rw [upd_ne (ne_of e hL2 (fun z => nomatch z))]; exact e),
          good_jn hg' hlo hlt, sound_jn hs' eqv, hk'.trans (keeps_jn _ _ _), by rw [jn_len]; exact hlen', fun _ => by omega, (fun z => nomatch z), by omega, by omega, iA, (fun z => nomatch z)⟩
    · -- it is the first one
      have hL3 : (upd H2 p (.ext φ2)) L = some (.lst (ls'.map nV)) := by rw [upd_ne (Ne.symm hpL)]; exact hL2
      refine ⟨_, rfl, _, rfl, _, rfl, L, ls', i, i, li, li, rfl, hL3, hg', by omega, hli, hli, fun _ => ?_, fun z => absurd rfl z⟩
      refine ⟨_, rfl, iteF ⟨ls', jd, _, _, _, _, rfl, bt2.new hp, hL3, dn3, hg', hs', hk', hlen', hjt, hjf, hsum, by rw [List.length_append]; show kvs.length + 1 ≤ i + 1; omega, fun key v e => ?_, fun hjd j' t' hj' ht' => ?_⟩⟩
      · rw [valV_snoc _ _ _ _ hn] at e
        by_cases hk : key = tmNK (mk ls' t)
        · rw [if_pos hk] at e
          cases e
          exact ⟨i, t, mk ls' t, rfl, ht, hk, stands_mk hs' (fun x as e => (hb x as e).2)⟩
        · rw [if_neg hk] at e
          exact iA key v e
      · have el := hjf hjd
        rw [valV_snoc _ _ _ _ hn]
        by_cases hji : j' < i
        · obtain ⟨j2, e1, e2⟩ := iB hjd j' t' hji ht'
          by_cases hk : tmNK (mk ls t') = tmNK (mk ls' t)
          · rw [hk, hn] at e1; cases e1
          · rw [if_neg hk]; exact ⟨j2, e1, e2⟩
        · have e' : j' = i := by omega
          subst e'
          rw [ht] at ht'; cases ht'
          rw [el, if_pos rfl]
          exact ⟨j', rfl, rfl⟩
  · rintro σ H' ⟨ls', jd, kvs, x4, x5, x6, rfl, bt, hL', dn, hg', hs', hk', hlen', hjt, hjf, hsum, hkl, iA, iB⟩
    refine ⟨_, rfl, q ls' jd H' bt hL' hg' hs' hk' hlen' hjt fun hjd => ⟨hjf hjd, fun i j t u hi hj hm => ?_⟩⟩
    obtain ⟨i', a1, a2⟩ := iB hjd i t (by rw [hut]; exact (List.getElem?_eq_some_iff.mp hi).1) hi
    obtain ⟨j', b1, b2⟩ := iB hjd j u (by rw [hut]; exact (List.getElem?_eq_some_iff.mp hj).1) hj
    rw [hm, b1] at a1
    have e : i' = j' := by have := V.int.inj (Option.some.inj a1); omega
    rw [← a2, ← b2, e]
inductive SpClosed (K : PySem.W.Frag) (vs : List V) (H : Hp) (Q : VK) : Prop
  | mk (T E : Addr) (us evs : List V) (ts : List Tm) (es : List (Nat × Nat)) (z0 : vs = [.ref T, .ref E]) (z1 : H T = some (.lst us)) (z2 : Tms H us ts) (z3 : SqL K H E evs) (z4 : Edges H evs es) (z5 : Arms ts) (z6 : ts.length ≤ 1000) (z7 : (∀ (i : Nat) x as, ts[i]? = some (.of x as) → as.length ≤ 1000)) (z8 : (∀ a b : Nat, (a, b) ∈ es → a < ts.length ∧ b < ts.length)) (z9 : ∀ L ls H', Same H H' → H L = none → H' L = some (.lst (ls.map nV)) → Closed ts es ls → Q (.ref L) H') : SpClosed K vs H Q
noncomputable def spClosed (K : PySem.W.Frag) : Sp := fun vs H Q _ => SpClosed K vs H Q
inductive Iv_closed2 (H : Hp) (T : Addr) (E : Addr) (L : Addr) (ts : List Tm) (es : List (Nat × Nat)) (σ' : St) (H' : Hp) : Prop
  | mk : ∀ (ls : List Nat) (x3 : Option V), (σ' = [some (.ref T), some (.ref E), some (.ref L), x3]) → (Same H H') → (H' L = some (.lst (ls.map nV))) → (GoodL ls) → (Sound ts es ls) → (ls.length = ts.length) → (∀ a b : Nat, (a, b) ∈ es → ls[a]? = ls[b]?) → Iv_closed2 H T E L ts es σ' H'
inductive Iv_closed3 (H : Hp) (T : Addr) (E : Addr) (L : Addr) (ts : List Tm) (es : List (Nat × Nat)) (i : Nat) (σ' : St) (H' : Hp) : Prop
  | mk : ∀ (ls : List Nat) (x3 : Option V), (σ' = [some (.ref T), some (.ref E), some (.ref L), x3]) → (Same H H') → (H' L = some (.lst (ls.map nV))) → (GoodL ls) → (Sound ts es ls) → (ls.length = ts.length) → (∀ (j a b : Nat), j < i → es[j]? = some (a, b) → ls[a]? = ls[b]?) → Iv_closed3 H T E L ts es i σ' H'
theorem ok_closed (B : Blt mg) (h_join_classes : Has P w K mg base 1 "join_classes" ["leads", "a", "b"] spJoin) (h_join_like : Has P w K mg base 2 "join_like" ["terms", "leads"] (spJoinLike P w)) (D : Def K mg "closed" s_closed ["terms", "edges"]) :
    Has P w K mg base 3 "closed" ["terms", "edges"] (spClosed K) := by
  refine D.has sc_closed (fun vs H Q E h => ?_) (fun f cdv A outer s H vs Q E hr h => ?_)
  · obtain ⟨T, E, us, evs, ts, es, rfl, _⟩ := h; rfl
  obtain ⟨T, E, us, evs, ts, es, rfl, hT, hts, hE, hes, har, hz, hza, hee, q⟩ := h
  refine ⟨_, (pss_cons (ps_set (i := 2) sc_closed.nd rfl (Or.inl rfl) (pe_callTy (call_list_rng rfl) rfl B.list_ boot_list_ (pa_cons (pe_callTy call_range1V rfl B.range_ PyProof.Rows.boot_range (pa_cons (pe_callB call_len_seq rfl B.len_ PySem.boot_len (pa_cons (pv 0) pa_nil)) pa_nil)) pa_nil)))
    (pss_cons (ps_for PassesOwn.never rfl (pi_list (pv 1)) (pg_name (i := 3) sc_closed.nd rfl (Or.inl rfl))
    (pss_one (ps_expr (pe_callH h_join_classes hr (by omega) rfl (pa_cons (pv 2) (pa_cons (pe_ix ix_tup (pv 3) pe_int (fun _ _ => rfl)) (pa_cons (pe_ix ix_tup (pv 3) pe_int (fun _ _ => rfl)) pa_nil)))))))
    (pss_cons (ps_while PassesOwn.never (pt_val (pe_callH h_join_like hr (by omega) rfl (pa_cons (pv 0) (pa_cons (pv 2) pa_nil))))
    (pss_one ps_pass))
    (pss_one (ps_ret (pv 2)))))), ?_⟩
  try dsimp only [cxOf]
  have hut := Paired.length hts
  have hue := Paired.length hes
  refine ⟨_, rfl, T, us, rfl, .inl (SqL.of hT), _, rfl, fun r hr0 => ⟨r, us.length, rfl, upd_same, by omega, fun L hL0 => ?_⟩⟩
  dsimp only [gName]
  have hLH : H L = none := by
    by_cases e : L = r
    · rw [e]; exact hr0
    · rw [upd_ne e] at hL0; exact hL0
  have sm0 : Same H (upd (upd H r (.rng 0 ((us.length : Nat) : Int))) L (.lst ((List.range us.length).map fun i : Nat => V.int (i : Int)))) := (same_new hr0 _).trans (same_new hL0 _)
  have hL1 : (upd (upd H r (.rng 0 ((us.length : Nat) : Int))) L (.lst ((List.range us.length).map fun i : Nat => V.int (i : Int)))) L = some (.lst ((List.range ts.length).map nV)) := by rw [upd_same, hut]
  generalize (upd (upd H r (.rng 0 ((us.length : Nat) : Int))) L (.lst ((List.range us.length).map fun i : Nat => V.int (i : Int)))) = H1 at sm0 hL1 ⊢
  have hTL : T ≠ L := fun e => by rw [e, hLH] at hT; cases hT
  refine rd_cut (Iv_closed2 H T E L ts es) ?_ (fun key => ?_)
  · rintro σ' H2 ⟨ls, x3, rfl, sm2, hL2, hg2, hs2, hlen2, hed2⟩
    refine ⟨fun m σ' H' => ∃ (ls : List Nat), m = ls.sum ∧ σ' = [some (.ref T), some (.ref E), some (.ref L), x3] ∧ Same H H' ∧ H' L = some (.lst (ls.map nV)) ∧ GoodL ls ∧ Sound ts es ls ∧ ls.length = ts.length ∧ ∀ a b : Nat, (a, b) ∈ es → ls[a]? = ls[b]?,
      ⟨_, ls, rfl, rfl, sm2, hL2, hg2, hs2, hlen2, hed2⟩, ?_⟩
    rintro m σ' H3 ⟨ls, rfl, rfl, sm3, hL3, hg3, hs3, hlen3, hed3⟩
    refine ⟨_, rfl, _, rfl, T, L, us, ts, ls, es, rfl, sm3 _ _ hT, tms_same sm3 hts, hL3, hTL, hg3, hs3, har, hlen3, hz, hza, fun ls' b H4 bt hL4 hg4 hs4 hk4 hlen4 hbt hbf => ?_⟩
    have sm4 : Same H H4 := fun c o h => bt c o (fun e => by rw [e, hLH] at h; cases h) (sm3 c o h)
    have hed4 : ∀ a b : Nat, (a, b) ∈ es → ls'[a]? = ls'[b]? := fun a b h => by
      obtain ⟨h1, h2⟩ := hee a b h
      obtain ⟨v, hv⟩ : ∃ v, ls[a]? = some v := ⟨_, List.getElem?_eq_getElem (by omega)⟩
      obtain ⟨u, e1, e2⟩ := hk4 a b v hv (by rw [← hed3 a b h]; exact hv)
      rw [e1, e2]
    refine ⟨_, rfl, ?_⟩
    cases b with
    | true =>
      refine iteT ⟨fun σ' H' => ∃ m', m' < ls.sum ∧ ∃ (ls : List Nat), m' = ls.sum ∧ σ' = [some (.ref T), some (.ref E), some (.ref L), x3] ∧ Same H H' ∧ H' L = some (.lst (ls.map nV)) ∧ GoodL ls ∧ Sound ts es ls ∧ ls.length = ts.length ∧ ∀ a b : Nat, (a, b) ∈ es → ls[a]? = ls[b]?, fun σ' H' h => h, ?_⟩
      exact ⟨_, hbt rfl, ls', rfl, rfl, sm4, hL4, hg4, hs4, by omega, hed4⟩
    | false =>
      obtain ⟨el, hm⟩ := hbf rfl
      refine iteF ⟨_, rfl, q L ls' H4 sm4 hLH hL4 ⟨by omega, hg4, hs4, fun i j hi hj e => ?_⟩⟩
      rw [el]
      exact complete har hee hlen3 hed3 hm e
  · refine ⟨_, rfl, E, rfl, ⟨evs, sm0.seq hE⟩, ?_⟩
    refine for_list (xs := evs) (Iv_closed3 H T E L ts es)
      ⟨_, none, rfl, sm0, hL1, good_id _, sound_id _ _ _, List.length_range, fun j a b hj => absurd hj (Nat.not_lt_zero _)⟩ ?_ ?_ ?_
    · rintro i σ' H' _ ⟨ls, x3, rfl, sm, _⟩
      exact sm.seq hE
    · rintro i x σ' H' hx ⟨ls, x3, rfl, sm, hL', hg', hs', hlen', hed'⟩
      obtain ⟨⟨a, b⟩, he, ea, rest, rfl, hea⟩ := edges_at hes hx
      have hea' := sm _ _ hea
      obtain ⟨ha, hb⟩ := hee a b (List.mem_of_getElem? he)
      obtain ⟨la, hla⟩ : ∃ la, ls[a]? = some la := ⟨_, List.getElem?_eq_getElem (by omega)⟩
      obtain ⟨lb, hlb⟩ : ∃ lb, ls[b]? = some lb := ⟨_, List.getElem?_eq_getElem (by omega)⟩
      refine ⟨_, rfl, _, rfl, ea, _, 0, _, rfl, rfl, SqT.of hea', atI_nat (j := 0) rfl, _, rfl, ea, _, 1, _, rfl, rfl, SqT.of hea', atI_nat (j := 1) rfl, L, ls, a, b, la, lb, rfl, hL', hg', by omega, hla, hlb, fun e => ?_, fun e => ?_⟩
      · refine ⟨ls, _, rfl, sm, hL', hg', hs', hlen', fun j c d hj hcd => ?_⟩
        by_cases hji : j < i
        · exact hed' j c d hji hcd
        · have e' : j = i := by omega
          subst e'
          rw [he] at hcd; cases hcd
          rw [hla, hlb, e]
      · have e1 : Eqv ts es la lb := .trans (.symm (hs' a la hla)) (.trans (.edge (List.mem_of_getElem? he)) (hs' b lb hlb))
        have g1 := (hg' a la hla).2
        have g2 := (hg' b lb hlb).2
        have eqv : Eqv ts es (max la lb) (min la lb) := by
          rcases Nat.le_total la lb with h | h
          · rw [Nat.max_eq_right h, Nat.min_eq_left h]; exact e1.symm
          · rw [Nat.max_eq_left h, Nat.min_eq_right h]; exact e1
        have hlo : ls[min la lb]? = some (min la lb) := by
          rcases Nat.le_total la lb with h | h
          · rw [Nat.min_eq_left h]; exact g1
          · rw [Nat.min_eq_right h]; exact g2
        have hlt : min la lb < max la lb := by omega
        refine ⟨jn ls (max la lb) (min la lb), _, rfl, sm.put hLH, upd_same, good_jn hg' hlo hlt, sound_jn hs' eqv, by rw [jn_len]; exact hlen', fun j c d hj hcd => ?_⟩
        by_cases hji : j < i
        · have := hed' j c d hji hcd
          rw [jn_at, jn_at, this]
        · have e' : j = i := by omega
          subst e'
          rw [he] at hcd; cases hcd
          rw [jn_at, jn_at, hla, hlb]
          show some _ = some _
          unfold ren
          by_cases h : la ≤ lb
          · rw [Nat.max_eq_right h, Nat.min_eq_left h, if_neg e, if_pos rfl]
          · rw [Nat.max_eq_left (by omega), Nat.min_eq_right (by omega), if_pos rfl, if_neg (fun z => e z.symm)]
    · rintro σ' H' ⟨ls, x3, rfl, sm, hL', hg', hs', hlen', hed'⟩
      refine key _ _ ⟨ls, x3, rfl, sm, hL', hg', hs', hlen', fun a b h => ?_⟩
      obtain ⟨j, hj⟩ := List.mem_iff_getElem?.mp h
      exact hed' j a b (by rw [hue]; exact (List.getElem?_eq_some_iff.mp hj).1) hj
end

end K44
namespace K44
open PySem L2 Sw
section
variable {P : Program} {w : World} {K : PySem.W.Frag} {mg : Str → Option Value} {base : Heap}
inductive SpCell (K : PySem.W.Frag) (vs : List V) (H : Hp) (Q : VK) : Prop
  | mk (a : Addr) (ns : List Int) (k : Int) (z0 : vs = [.ref a, .int k]) (z1 : SqL K H a (ns.map V.int)) (z2 : 0 ≤ k) (z3 : ∀ c : Int, Q (.int c) H) : SpCell K vs H Q
noncomputable def spCell (K : PySem.W.Frag) : Sp := fun vs H Q _ => SpCell K vs H Q
theorem ok_cell_at (B : Blt mg) (D : Def K mg "_law_cell_at" s_cell_at ["_law_script", "_law_k"]) : Has P w K mg base 1 "_law_cell_at" ["_law_script", "_law_k"] (spCell K) := by
  refine D.has sc_cell_at (fun vs H Q E h => ?_) (fun f cdv A outer s H vs Q E hr h => ?_)
  · obtain ⟨a, ns, k, rfl, _⟩ := h; rfl
  obtain ⟨a, ns, k, rfl, hS, h0, q⟩ := h
  refine ⟨_, (pss_cons (ps_if (pt_cmpR op_lt (pv 1) (pe_callB call_len_seq rfl B.len_ PySem.boot_len (pa_cons (pv 0) pa_nil)) (nomark _)) (pss_one (ps_ret (pe_ix ix_list (pv 0) (pv 1) (fun _ _ => rfl)))) pss_nil)
    (pss_one (ps_ret pe_int))), ?_⟩
  try dsimp only [cxOf]
  refine ⟨_, rfl, _, rfl, a, _, rfl, .inl hS, k, _, rfl, rfl, _, rfl, ?_⟩
  refine iteD (fun c => ?_) (fun c => ?_)
  · rw [List.length_map] at c
    have hk : k.toNat < ns.length := by omega
    have ek : ((k.toNat : Nat) : Int) = k := by omega
    have ha : atI (ns.map V.int) k = some (.int ns[k.toNat]) := by
      have z : atI (ns.map V.int) ((k.toNat : Nat) : Int) = some (.int ns[k.toNat]) := atI_nat (by rw [List.getElem?_map, List.getElem?_eq_getElem hk]; rfl)
      rw [ek] at z
      exact z
    exact ⟨_, rfl, _, rfl, a, _, k, _, rfl, rfl, hS, ha, q _⟩
  · exact q 0
inductive SpMixed (vs : List V) (H : Hp) (Q : VK) : Prop
  | mk (c k : Int) (z0 : vs = [.int c, .int k]) (z1 : 0 ≤ k) (z2 : k ≤ 100000) (z3 : ∀ m : Int, 0 ≤ m → m < 2147483629 → Q (.int m) H) : SpMixed  vs H Q
noncomputable def spMixed : Sp := fun vs H Q _ => SpMixed  vs H Q
theorem ok_mixed (D : Def K mg "_law_mixed" s_mixed ["_law_cell", "_law_k"]) : Has P w K mg base 1 "_law_mixed" ["_law_cell", "_law_k"] spMixed := by
  refine D.has sc_mixed (fun vs H Q E h => ?_) (fun f cdv A outer s H vs Q E hr h => ?_)
  · obtain ⟨c, k, rfl, _⟩ := h; rfl
  obtain ⟨c, k, rfl, h0, h1, q⟩ := h
  refine ⟨_, (pss_cons (ps_set (i := 2) sc_mixed.nd rfl (Or.inl rfl) (pe_op op_mod (pe_op op_mul (pe_op op_add (pe_op op_mod (pv 0) pe_int) pe_int) (pe_op op_add pe_int (pe_op op_mul (pe_op op_mul pe_int (pv 1)) (pv 1)))) pe_int))
    (pss_one (ps_ret (pe_op op_mod (pe_op op_mul (pv 2) (pv 2)) pe_int)))), ?_⟩
  try dsimp only [cxOf]
  have p1 : 0 ≤ c % 2147483647 := Int.emod_nonneg _ (by decide)
  have p2 : c % 2147483647 < 2147483647 := Int.emod_lt_of_pos _ (by decide)
  refine ⟨_, rfl, c, 2147483647, rfl, rfl, pos', _, _, rfl, rfl, _, rfl, 2, k, rfl, rfl, .inl (by decide), _, rfl, _, _, rfl, rfl, .inl ⟨by omega, by omega⟩, _, _, rfl, rfl, _, _, rfl, rfl, .inl ⟨by omega, by omega⟩, _, _, rfl, rfl, pos', ?_⟩
  have m1 : 0 ≤ (c % 2147483647 + 1) * (48271 + 2 * k * k) % 2147483647 := Int.emod_nonneg _ (by decide)
  have m2 : (c % 2147483647 + 1) * (48271 + 2 * k * k) % 2147483647 < 2147483647 := Int.emod_lt_of_pos _ (by decide)
  refine ⟨_, rfl, _, rfl, _, _, rfl, rfl, .inl ⟨Int.lt_of_lt_of_le (by decide) m1, Int.lt_trans m2 (by decide)⟩, _, _, rfl, rfl, pos', ?_⟩
  exact q _ (Int.emod_nonneg _ (by decide)) (Int.emod_lt_of_pos _ (by decide))

inductive SpWord (vs : List V) (H : Hp) (Q : VK) : Prop
  | mk (m : Int) (z0 : vs = [.int m]) (z1 : Q (.str (wordOf m)) H) : SpWord  vs H Q
noncomputable def spWord : Sp := fun vs H Q _ => SpWord  vs H Q
theorem ok_word (D : Def K mg "_law_word" s_word ["_law_m"]) : Has P w K mg base 1 "_law_word" ["_law_m"] spWord := by
  refine D.has sc_word (fun vs H Q E h => ?_) (fun f cdv A outer s H vs Q E hr h => ?_)
  · obtain ⟨m, rfl, _⟩ := h; rfl
  obtain ⟨m, rfl, q⟩ := h
  refine ⟨_, (pss_cons (ps_set (i := 1) sc_word.nd rfl (Or.inl rfl) pe_str)
    (pss_cons (ps_set (i := 2) sc_word.nd rfl (Or.inl rfl) (pe_op op_add pe_int (pe_op op_mod (pv 0) pe_int)))
    (pss_cons (ps_set (i := 3) sc_word.nd rfl (Or.inl rfl) (pe_op op_mod (pe_op op_fdiv (pv 0) pe_int) (pv 2)))
    (pss_cons (ps_set (i := 4) sc_word.nd rfl (Or.inl rfl) (pe_op op_mul_str0 (pe_ix ix_str (pv 1) (pe_op op_mod (pe_op op_fdiv (pv 0) pe_int) pe_int) (fun _ _ => rfl)) (pv 2)))
    (pss_one (ps_ret (pe_op op_add_str (pe_op op_add_str (pe_slice sl_str (pv 4) po_none (po_some (pv 3))) (pe_ix ix_str (pv 1) (pe_op op_mod (pe_op op_fdiv (pv 0) pe_int) pe_int) (fun _ _ => rfl))) (pe_slice sl_str (pv 4) (po_some (pe_op op_add (pv 3) pe_int)) po_none)))))))), ?_⟩
  try dsimp only [cxOf]
  have a1 : 0 ≤ m % 8 := Int.emod_nonneg _ (by decide)
  have a2 : m % 8 < 8 := Int.emod_lt_of_pos _ (by decide)
  have b1 : 0 ≤ m / 1664 % 26 := Int.emod_nonneg _ (by decide)
  have b2 : m / 1664 % 26 < 26 := Int.emod_lt_of_pos _ (by decide)
  have c1 : 0 ≤ m / 64 % 26 := Int.emod_nonneg _ (by decide)
  have c2 : m / 64 % 26 < 26 := Int.emod_lt_of_pos _ (by decide)
  have hA : (wordA m).length ≤ 8 := by
    unfold wordA
    rw [timesS_len, sg_len]
    omega
  have sl1 := Txt.slice_le (wordA m) none (some (m / 8 % (1 + m % 8)))
  have sl2 := Txt.slice_le (wordA m) (some (m / 8 % (1 + m % 8) + 1)) none
  refine ⟨_, rfl, _, _, rfl, rfl, pos', _, _, rfl, rfl, ?_⟩
  refine ⟨_, rfl, _, _, rfl, rfl, div', _, rfl, _, _, rfl, rfl, by omega, ?_⟩
  refine ⟨_, rfl, _, rfl, _, _, rfl, rfl, div', _, _, rfl, rfl, pos', _, _, _, rfl, rfl, by decide, abc_at b1 b2, _, rfl, _, _, rfl, rfl, by omega, by omega, by show (1 : Nat) ≤ 1000; decide, ?_⟩
  refine ⟨_, rfl, _, rfl, _, rfl, wordA m, rfl, Nat.le_trans hA (by decide), _, rfl, _, rfl, _, _, rfl, rfl, div', _, _, rfl, rfl, pos', _, _, _, rfl, rfl, by decide, abc_at c1 c2, _, _, rfl, rfl, ?_, ?_⟩
  · show (Txt.slice (wordA m) none (some (m / 8 % (1 + m % 8)))).length + (sg (m / 64 % 26)).length ≤ sizeLine
    rw [sg_len]
    exact Nat.le_trans (by omega : _ ≤ 1000) (by decide)
  refine ⟨_, rfl, _, rfl, _, _, rfl, rfl, _, rfl, wordA m, rfl, Nat.le_trans hA (by decide), _, _, rfl, rfl, ?_, ?_⟩
  · show (Txt.slice (wordA m) none (some (m / 8 % (1 + m % 8))) ++ sg (m / 64 % 26)).length + (Txt.slice (wordA m) (some (m / 8 % (1 + m % 8) + 1)) none).length ≤ sizeLine
    rw [Str.length_append, sg_len]
    exact Nat.le_trans (by omega : _ ≤ 1000) (by decide)
  · exact q
inductive SpNumber (vs : List V) (H : Hp) (Q : VK) : Prop
  | mk (c m : Int) (z0 : vs = [.int c, .int m]) (z1 : -(2 ^ 64) < m) (z2 : m < 2 ^ 64) (z3 : ∀ n : Int, -(10 ^ 60) < n → n < 10 ^ 60 → ∀ H', Same H H' → Q (.int n) H') : SpNumber  vs H Q
noncomputable def spNumber : Sp := fun vs H Q _ => SpNumber  vs H Q
theorem mod_in {x y M : Int} (hy : y = 2 * M + 1) (hM : 0 ≤ M) : -M ≤ x % y - M ∧ x % y - M ≤ M := by
  have h1 : 0 ≤ x % y := Int.emod_nonneg _ (by omega)
  have h2 : x % y < y := Int.emod_lt_of_pos _ (by omega)
  omega
theorem ok_number (D : Def K mg "_law_number" s_number ["_law_cell", "_law_m"]) : Has P w K mg base 1 "_law_number" ["_law_cell", "_law_m"] spNumber := by
  refine D.has sc_number (fun vs H Q E h => ?_) (fun f cdv A outer s H vs Q E hr h => ?_)
  · obtain ⟨c, m, rfl, _⟩ := h; rfl
  obtain ⟨c, m, rfl, h0, h1, q⟩ := h
  have big : (10 : Int) ^ (60 : Int).toNat - 1 = 10 ^ 60 - 1 := rfl
  have hm : m.natAbs < 2 ^ 64 := by omega
  refine ⟨_, (pss_cons (ps_set (i := 2) sc_number.nd rfl (Or.inl rfl) (pe_op op_sub (pe_op op_pow pe_int pe_int) pe_int))
    (pss_cons (ps_if (pt_cmpR op_eq (pe_op op_mod (pv 1) pe_int) pe_int (nomark _)) (pss_one (ps_ret (pe_op op_sub (pe_op op_mod (pv 0) pe_int) pe_int))) pss_nil)
    (pss_cons (ps_if (pt_cmpR op_eq (pe_op op_mod (pv 1) pe_int) pe_int (nomark _)) (pss_one (ps_ret (pe_op op_sub (pe_op op_mod (pe_op op_pow (pv 1) pe_int) (pe_op op_add (pe_op op_mul pe_int (pv 2)) pe_int)) (pv 2)))) pss_nil)
    (pss_cons (ps_if (pt_cmpR op_eq (pe_op op_mod (pv 1) pe_int) pe_int (nomark _)) (pss_one (ps_ret (pe_op op_sub (pe_op op_mod (pv 0) (pe_op op_add (pe_op op_mul pe_int (pv 2)) pe_int)) (pv 2)))) pss_nil)
    (pss_one (ps_ret (pe_ix ix_list (pe_lst (pa_cons (pv 2) (pa_cons (pe_un un_neg (pv 2)) (pa_cons (pe_op op_pow pe_int pe_int) (pa_cons (pe_un un_neg (pe_op op_pow pe_int pe_int)) (pa_cons pe_int (pa_cons pe_int pa_nil))))))) (pe_op op_mod (pe_op op_fdiv (pv 1) pe_int) pe_int) (fun _ _ => rfl)))))))), ?_⟩
  try dsimp only [cxOf]
  refine ⟨10, 60, rfl, rfl, ⟨by decide, by decide, by decide⟩, _, _, rfl, rfl, ?_⟩
  refine ⟨_, rfl, _, _, rfl, rfl, pos', rfl, _, rfl, ?_⟩
  refine iteD (fun _ => ?_) (fun _ => ?_)
  · have p1 : 0 ≤ c % 19 := Int.emod_nonneg _ (by decide)
    have p2 : c % 19 < 19 := Int.emod_lt_of_pos _ (by decide)
    exact ⟨_, rfl, _, _, rfl, rfl, pos', _, _, rfl, rfl, q _ (by omega) (by omega) _ (Same.refl _)⟩
  refine ⟨_, rfl, _, _, rfl, rfl, pos', rfl, _, rfl, ?_⟩
  refine iteD (fun _ => ?_) (fun _ => ?_)
  · have z := mod_in (x := m ^ (11 : Int).toNat) (y := 2 * ((10 : Int) ^ (60 : Int).toNat - 1) + 1) (M := (10 : Int) ^ (60 : Int).toNat - 1) rfl (by rw [big]; decide)
    have z1 := Int.lt_of_lt_of_le (show -(10 ^ 60 : Int) < -((10 : Int) ^ (60 : Int).toNat - 1) by decide) z.1
    have z2 := Int.lt_of_le_of_lt z.2 (show (10 : Int) ^ (60 : Int).toNat - 1 < 10 ^ 60 by decide)
    exact ⟨_, rfl, m, 11, rfl, rfl, ⟨by decide, by decide, hm⟩, _, rfl, 2, _, rfl, rfl, .inl (by decide), _, _, rfl, rfl, _, _, rfl, rfl, (by decide : (0 : Int) < 2 * ((10 : Int) ^ (60 : Int).toNat - 1) + 1), _, rfl, _, _, rfl, rfl, q _ z1 z2 _ (Same.refl _)⟩
  refine ⟨_, rfl, _, _, rfl, rfl, pos', rfl, _, rfl, ?_⟩
  refine iteD (fun _ => ?_) (fun _ => ?_)
  · have z := mod_in (x := c) (y := 2 * ((10 : Int) ^ (60 : Int).toNat - 1) + 1) (M := (10 : Int) ^ (60 : Int).toNat - 1) rfl (by rw [big]; decide)
    have z1 := Int.lt_of_lt_of_le (show -(10 ^ 60 : Int) < -((10 : Int) ^ (60 : Int).toNat - 1) by decide) z.1
    have z2 := Int.lt_of_le_of_lt z.2 (show (10 : Int) ^ (60 : Int).toNat - 1 < 10 ^ 60 by decide)
    exact ⟨_, rfl, _, rfl, 2, _, rfl, rfl, .inl (by decide), _, _, rfl, rfl, _, _, rfl, rfl, (by decide : (0 : Int) < 2 * ((10 : Int) ^ (60 : Int).toNat - 1) + 1), _, rfl, _, _, rfl, rfl, q _ z1 z2 _ (Same.refl _)⟩
  have p1 : 0 ≤ m / 4 % 6 := Int.emod_nonneg _ (by decide)
  have p2 : m / 4 % 6 < 6 := Int.emod_lt_of_pos _ (by decide)
  refine ⟨_, rfl, _, rfl, _, rfl, 10, 59, rfl, rfl, ⟨by decide, by decide, by decide⟩, 10, 59, rfl, rfl, ⟨by decide, by decide, by decide⟩, _, rfl, (by show 6 ≤ sizeLine; decide), fun p hp => ?_⟩
  refine ⟨_, rfl, _, _, rfl, rfl, div', _, _, rfl, rfl, pos', ?_⟩
  have sm : Same H (upd H p (.lst [.int ((10 : Int) ^ (60 : Int).toNat - 1), .int (-((10 : Int) ^ (60 : Int).toNat - 1)), .int ((10 : Int) ^ (59 : Int).toNat), .int (-((10 : Int) ^ (59 : Int).toNat)), .int 10, .int 0])) := same_new hp _
  have fin : ∀ n : Int, -(10 ^ 60) < n → n < 10 ^ 60 → atI [.int ((10 : Int) ^ (60 : Int).toNat - 1), .int (-((10 : Int) ^ (60 : Int).toNat - 1)), .int ((10 : Int) ^ (59 : Int).toNat), .int (-((10 : Int) ^ (59 : Int).toNat)), V.int 10, .int 0] (m / 4 % 6) = some (.int n) →
      rIxL K (.ref p) (.int (m / 4 % 6)) (upd H p (.lst [.int ((10 : Int) ^ (60 : Int).toNat - 1), .int (-((10 : Int) ^ (60 : Int).toNat - 1)), .int ((10 : Int) ^ (59 : Int).toNat), .int (-((10 : Int) ^ (59 : Int).toNat)), .int 10, .int 0])) Q :=
    fun n n1 n2 hn => ⟨p, _, _, .int n, rfl, rfl, SqL.of upd_same, hn, q n n1 n2 _ sm⟩
  rcases (by omega : m / 4 % 6 = 0 ∨ m / 4 % 6 = 1 ∨ m / 4 % 6 = 2 ∨ m / 4 % 6 = 3 ∨ m / 4 % 6 = 4 ∨ m / 4 % 6 = 5) with e | e | e | e | e | e
  · exact fin ((10 : Int) ^ (60 : Int).toNat - 1) (by decide) (by decide) (by rw [e]; rfl)
  · exact fin (-((10 : Int) ^ (60 : Int).toNat - 1)) (by decide) (by decide) (by rw [e]; rfl)
  · exact fin ((10 : Int) ^ (59 : Int).toNat) (by decide) (by decide) (by rw [e]; rfl)
  · exact fin (-((10 : Int) ^ (59 : Int).toNat)) (by decide) (by decide) (by rw [e]; rfl)
  · exact fin 10 (by decide) (by decide) (by rw [e]; rfl)
  · exact fin 0 (by decide) (by decide) (by rw [e]; rfl)
end

section
variable {P : Program} {w : World} {K : PySem.W.Frag} {mg : Str → Option Value} {base : Heap}
theorem isW_turn {z : Str} (h : IsW z) {k : Nat} (hk : k < z.length) {j : Int} (h0 : 0 ≤ j) (h1 : j < 26) : IsW (Txt.slice z none (some ((k : Nat) : Int)) ++ sg j ++ Txt.slice z (some (((k : Nat) : Int) + 1)) none) := by
  obtain ⟨l1, l8, hc⟩ := h
  have e1 : HT.sIx z.length z.length (some (k : Int)) = k := by rw [HT.sIx_nat]; exact Nat.min_eq_left (Nat.le_of_lt hk)
  have e2 : HT.sIx z.length 0 (some ((k : Int) + 1)) = k + 1 := by
    have e : (k : Int) + 1 = ((k + 1 : Nat) : Int) := rfl
    rw [e, HT.sIx_nat]; exact Nat.min_eq_left hk
  have ec : (Txt.slice z none (some ((k : Nat) : Int)) ++ sg j ++ Txt.slice z (some (((k : Nat) : Int) + 1)) none).cps.toList = z.cps.toList.take k ++ [97 + j.toNat] ++ z.cps.toList.drop (k + 1) := by
    rw [app_cps, app_cps, slice_cps, slice_cps, e1, e2, HT.sIx_none, HT.sIx_none, List.drop_zero, Nat.sub_zero]
    congr 1
    refine List.take_of_length_le ?_
    rw [List.length_drop, ← len_cps]
    exact Nat.le_refl _
  have el : (Txt.slice z none (some ((k : Nat) : Int)) ++ sg j ++ Txt.slice z (some (((k : Nat) : Int) + 1)) none).length = z.length := by
    rw [len_cps, ec, List.length_append, List.length_append, List.length_take, List.length_drop, ← len_cps]
    show min k z.length + 1 + (z.length - (k + 1)) = z.length
    omega
  refine ⟨by rw [el]; exact l1, by rw [el]; exact l8, fun c hc' => ?_⟩
  rw [ec] at hc'
  rcases List.mem_append.mp hc' with hc' | hc'
  · rcases List.mem_append.mp hc' with hc' | hc'
    · exact hc c (List.mem_of_mem_take hc')
    · have := List.mem_singleton.mp hc'
      omega
  · exact hc c (List.mem_of_mem_drop hc')
theorem isW_more {z : Str} (h : IsW z) (hl : z.length < 8) {j : Int} (h0 : 0 ≤ j) (h1 : j < 26) : IsW (z ++ sg j) := by
  obtain ⟨l1, l8, hc⟩ := h
  refine ⟨by rw [Str.length_append]; omega, by rw [Str.length_append, sg_len]; omega, fun c hc' => ?_⟩
  rw [app_cps] at hc'
  rcases List.mem_append.mp hc' with hc' | hc'
  · exact hc c hc'
  · have := List.mem_singleton.mp (show c ∈ [97 + j.toNat] from hc')
    omega
theorem isW_cut {z : Str} (h : IsW z) : IsW (Txt.slice z none (some 7)) := by
  obtain ⟨l1, l8, hc⟩ := h
  have e7 : HT.sIx z.length z.length (some (7 : Int)) = min 7 z.length := HT.sIx_nat z.length z.length 7
  have ec : (Txt.slice z none (some 7)).cps.toList = z.cps.toList.take (min 7 z.length) := by
    rw [slice_cps, e7, HT.sIx_none, List.drop_zero, Nat.sub_zero]
  have el : (Txt.slice z none (some 7)).length = min 7 z.length := by
    rw [len_cps, ec, List.length_take, ← len_cps]; omega
  refine ⟨by rw [el]; omega, by rw [el]; omega, fun c hc' => ?_⟩
  rw [ec] at hc'
  exact hc c (List.mem_of_mem_take hc')
noncomputable def PoolAt (H : Hp) (l : Addr) (ws : List Str) : Prop := H l = some (.lst (ws.map V.str)) ∧ ws.length = 3 ∧ ∀ z ∈ ws, IsW z
inductive SpPool (vs : List V) (H : Hp) (Q : VK) : Prop
  | mk (m : Int) (z0 : vs = [.int m]) (z1 : ∀ l ws H', Same H H' → PoolAt H' l ws → Q (.ref l) H') : SpPool  vs H Q
noncomputable def spPool : Sp := fun vs H Q _ => SpPool  vs H Q
theorem ok_pool (B : Blt mg) (h_word : Has P w K mg base 1 "_law_word" ["_law_m"] spWord) (D : Def K mg "_law_pool" s_pool ["_law_m"]) : Has P w K mg base 2 "_law_pool" ["_law_m"] spPool := by
  refine D.has sc_pool (fun vs H Q E h => ?_) (fun f cdv A outer s H vs Q E hr h => ?_)
  · obtain ⟨m, rfl, _⟩ := h; rfl
  obtain ⟨m, rfl, q⟩ := h
  refine ⟨_, (pss_cons (ps_set (i := 1) sc_pool.nd rfl (Or.inl rfl) pe_str)
    (pss_cons (ps_set (i := 2) sc_pool.nd rfl (Or.inl rfl) (pe_callH h_word hr (by omega) rfl (pa_cons (pv 0) pa_nil)))
    (pss_cons (ps_set (i := 3) sc_pool.nd rfl (Or.inl rfl) (pe_op op_mod (pe_op op_fdiv (pv 0) pe_int) (pe_callB call_len_str rfl B.len_ PySem.boot_len (pa_cons (pv 2) pa_nil))))
    (pss_cons (ps_set (i := 4) sc_pool.nd rfl (Or.inl rfl) (pe_ix ix_str (pv 1) (pe_op op_mod (pe_op op_add (pe_op op_add (pe_bm PySem.F.plainAttrs_str PySem.F.slot_str_index PySem.F.type_str_index mt_abcIx (pv 1) (pa_cons (pe_ix ix_str (pv 2) (pv 3) (fun _ _ => rfl)) pa_nil)) pe_int) (pe_op op_mod (pe_op op_fdiv (pv 0) pe_int) pe_int)) pe_int) (fun _ _ => rfl)))
    (pss_cons (ps_set (i := 5) sc_pool.nd rfl (Or.inl rfl) (pe_op op_add_str (pe_op op_add_str (pe_slice sl_str (pv 2) po_none (po_some (pv 3))) (pv 4)) (pe_slice sl_str (pv 2) (po_some (pe_op op_add (pv 3) pe_int)) po_none)))
    (pss_cons (ps_if (pt_cmpR op_lt (pe_callB call_len_str rfl B.len_ PySem.boot_len (pa_cons (pv 2) pa_nil)) pe_int (nomark _)) (pss_one (ps_ret (pe_lst (pa_cons (pv 2) (pa_cons (pv 5) (pa_cons (pe_op op_add_str (pv 2) (pe_ix ix_str (pv 1) (pe_op op_mod (pe_op op_fdiv (pv 0) pe_int) pe_int) (fun _ _ => rfl))) pa_nil)))))) pss_nil)
    (pss_one (ps_ret (pe_lst (pa_cons (pv 2) (pa_cons (pv 5) (pa_cons (pe_slice sl_str (pv 2) po_none (po_some pe_int)) pa_nil)))))))))))), ?_⟩
  try dsimp only [cxOf]
  have hw := wordOf_ok m
  refine ⟨_, rfl, m, rfl, ?_⟩
  dsimp only [gName]
  generalize wordOf m = z at hw
  obtain ⟨l1, l8, hc⟩ := id hw
  have hz : z.length ≤ sizeLine := Nat.le_trans l8 (by decide)
  refine ⟨_, rfl, _, _, rfl, rfl, div', _, rfl, z, rfl, hz, _, _, rfl, rfl, (by omega), ?_⟩
  dsimp only [gName]
  have k0 : 0 ≤ m / 7 % ((z.length : Nat) : Int) := Int.emod_nonneg _ (by omega)
  have k1 : m / 7 % ((z.length : Nat) : Int) < ((z.length : Nat) : Int) := Int.emod_lt_of_pos _ (by omega)
  obtain ⟨k, ek⟩ : ∃ k : Nat, m / 7 % ((z.length : Nat) : Int) = (k : Int) := ⟨_, (Int.toNat_of_nonneg k0).symm⟩
  rw [ek] at k1 ⊢
  have hk : k < z.length := Int.ofNat_lt.mp k1
  have hk' : k < z.cps.toList.length := by rw [← len_cps]; exact hk
  have hcm := hc _ (List.getElem_mem hk')
  refine ⟨_, rfl, _, rfl, rfl, _, rfl, _, rfl, z, _, _, rfl, rfl, hz, atI_nat (List.getElem?_eq_getElem hk'), _, rfl, rfl, hcm.1, hcm.2, fun ix => ?_⟩
  refine ⟨_, _, rfl, rfl, _, rfl, _, _, rfl, rfl, div', _, _, rfl, rfl, pos', _, _, rfl, rfl, _, _, rfl, rfl, pos', ?_⟩
  have t0 : 0 ≤ ((ix : Int) + 1 + m / 50 % 25) % 26 := Int.emod_nonneg _ (by decide)
  have t1 : ((ix : Int) + 1 + m / 50 % 25) % 26 < 26 := Int.emod_lt_of_pos _ (by decide)
  refine ⟨_, _, _, rfl, rfl, by decide, abc_at t0 t1, ?_⟩
  dsimp only [gName]
  have ho := isW_turn hw hk t0 t1
  generalize ((ix : Int) + 1 + m / 50 % 25) % 26 = tj at t0 t1 ho ⊢
  have sl1 := Txt.slice_le z none (some ((k : Nat) : Int))
  have sl2 := Txt.slice_le z (some (((k : Nat) : Int) + 1)) none
  refine ⟨_, rfl, _, rfl, _, rfl, z, rfl, hz, _, rfl, _, _, rfl, rfl, ?_, ?_⟩
  · show (Txt.slice z none (some ((k : Nat) : Int))).length + (sg tj).length ≤ sizeLine
    rw [sg_len]
    exact Nat.le_trans (by omega : _ ≤ 1000) (by decide)
  refine ⟨_, rfl, _, rfl, _, _, rfl, rfl, _, rfl, z, rfl, hz, _, _, rfl, rfl, ?_, ?_⟩
  · show (Txt.slice z none (some ((k : Nat) : Int)) ++ sg tj).length + (Txt.slice z (some (((k : Nat) : Int) + 1)) none).length ≤ sizeLine
    rw [Str.length_append, sg_len]
    exact Nat.le_trans (by omega : _ ≤ 1000) (by decide)
  dsimp only [gName]
  have g0 : 0 ≤ m / 90 % 26 := Int.emod_nonneg _ (by decide)
  have g1 : m / 90 % 26 < 26 := Int.emod_lt_of_pos _ (by decide)
  refine ⟨_, rfl, z, rfl, hz, _, _, rfl, rfl, _, rfl, iteD (fun hlt => ?_) (fun hge => ?_)⟩
  · have hl8 : z.length < 8 := by omega
    refine ⟨_, rfl, _, rfl, _, rfl, _, rfl, _, rfl, _, _, rfl, rfl, div', _, _, rfl, rfl, pos', _, _, _, rfl, rfl, by decide, abc_at g0 g1, _, _, rfl, rfl, ?_, (show 3 ≤ sizeLine by decide), fun l hl => ?_⟩
    · show z.length + (sg (m / 90 % 26)).length ≤ sizeLine
      rw [sg_len]
      exact Nat.le_trans (by omega : _ ≤ 1000) (by decide)
    · refine q l [z, _, z ++ sg (m / 90 % 26)] _ (same_new hl _) ⟨upd_same, rfl, fun y hy => ?_⟩
      rcases List.mem_cons.mp hy with rfl | hy
      · exact hw
      rcases List.mem_cons.mp hy with rfl | hy
      · exact ho
      · rw [List.mem_singleton.mp hy]; exact isW_more hw hl8 g0 g1
  · refine ⟨_, rfl, _, rfl, _, rfl, _, rfl, z, rfl, hz, (show 3 ≤ sizeLine by decide), fun l hl => ?_⟩
    refine q l [z, _, Txt.slice z none (some 7)] _ (same_new hl _) ⟨upd_same, rfl, fun y hy => ?_⟩
    rcases List.mem_cons.mp hy with rfl | hy
    · exact hw
    rcases List.mem_cons.mp hy with rfl | hy
    · exact ho
    · rw [List.mem_singleton.mp hy]; exact isW_cut hw
end

end K44
namespace K44
open PySem L2 Sw
section
variable {P : Program} {w : World} {K : PySem.W.Frag} {mg : Str → Option Value} {base : Heap}
theorem atI_ex {xs : List V} {i : Int} (h0 : 0 ≤ i) (h1 : i < xs.length) : ∃ v, atI xs i = some v ∧ v ∈ xs := by
  have hi : i.toNat < xs.length := by omega
  have z : atI xs ((i.toNat : Nat) : Int) = some xs[i.toNat] := atI_nat (List.getElem?_eq_getElem hi)
  rw [show ((i.toNat : Nat) : Int) = i by omega] at z
  exact ⟨_, z, List.getElem_mem hi⟩
noncomputable def TmOk (many : Nat) (t : Tm) : Prop := ∀ x as, t = .of x as → as.length ≤ 4 ∧ 1 ≤ as.length ∧ ∀ a ∈ as, a < many
theorem leaf_num {many : Nat} {n : Int} : TmOk many (.num n) := fun x as e => nomatch e
theorem leaf_name {many : Nat} {n : Str} : TmOk many (.name n) := fun x as e => nomatch e
theorem tsok_snoc {ts : List Tm} {t : Tm} (h : TsOk ts) (ht : TmOk ts.length t) (hn : tmD t ∉ ts.map tmD) : TsOk (ts ++ [t]) := by
  have key : ∀ (i : Nat) y as, (ts ++ [t])[i]? = some (.of y as) → ts[i]? = some (.of y as) ∨ (i = ts.length ∧ t = .of y as) := fun i y as e => by
    by_cases hi : i < ts.length
    · rw [List.getElem?_append_left hi] at e; exact .inl e
    · rw [List.getElem?_append_right (by omega)] at e
      by_cases h0 : i - ts.length = 0
      · rw [h0] at e
        exact .inr ⟨by omega, by simpa using e⟩
      · rw [List.getElem?_eq_none (by simp; omega)] at e; cases e
  refine ⟨fun i y as e a ha => ?_, fun i y as e => ?_, ?_⟩
  · rcases key i y as e with e' | ⟨rfl, e'⟩
    · exact h.1 i y as e' a ha
    · exact (ht _ _ e').2.2 a ha
  · rcases key i y as e with e' | ⟨rfl, e'⟩
    · exact h.2.1 i y as e'
    · exact ⟨(ht _ _ e').1, (ht _ _ e').2.1⟩
  · rw [List.nodup_append]
    refine ⟨h.2.2, by simp, fun a ha b hb => ?_⟩
    rw [List.mem_singleton.mp hb]
    intro e
    exact hn (List.mem_map.mpr ⟨a, ha, by rw [e]⟩)
structure MadeOk (H H' : Hp) (T E : Addr) (us evs : List V) (ts : List Tm) (es : List (Nat × Nat)) : Prop where
  same : Same H H'
  t0 : H T = none
  e0 : H E = none
  te : T ≠ E
  hT : H' T = some (.lst us)
  tms : Tms H' us ts
  hE : H' E = some (.lst evs)
  eds : Edges H' evs es
  ok : TsOk ts
  few : ts.length ≤ 24
  lt : ∀ a b : Nat, (a, b) ∈ es → a < ts.length ∧ b < ts.length
theorem paired_snoc_lt {ts : List Tm} {es : List (Nat × Nat)} {a b : Nat} (h : ∀ a b : Nat, (a, b) ∈ es → a < ts.length ∧ b < ts.length) (ha : a < ts.length) (hb : b < ts.length) : ∀ x y : Nat, (x, y) ∈ es ++ [(a, b)] → x < ts.length ∧ y < ts.length := fun x y hm => by
  rcases List.mem_append.mp hm with hm | hm
  · exact h x y hm
  · have := List.mem_singleton.mp hm
    cases this
    exact ⟨ha, hb⟩
inductive SpTermP (vs : List V) (H : Hp) (Q : VK) : Prop
  | mk (c m : Int) (T l : Addr) (us : List V) (n : Nat) (ws : List Str) (z0 : vs = [.int c, .int m, .ref T, .ref l]) (z1 : 0 ≤ m) (z2 : m < 2147483629) (z3 : H T = some (.lst us)) (z4 : us.length = n) (z5 : 0 < n) (z6 : PoolAt H l ws) (z7 : ∀ v t H', Same H H' → IsTm H' t v → TmOk n t → Q v H') : SpTermP  vs H Q
noncomputable def spTermP : Sp := fun vs H Q _ => SpTermP  vs H Q
theorem pool_at {H : Hp} {l : Addr} {ws : List Str} (h : PoolAt H l ws) {i : Int} (h0 : 0 ≤ i) (h1 : i < 3) : ∃ z, z ∈ ws ∧ atI (ws.map V.str) i = some (.str z) := by
  obtain ⟨y, hy, hm⟩ := atI_ex (xs := ws.map V.str) h0 (by rw [List.length_map, h.2.1]; exact h1)
  obtain ⟨z, hz, rfl⟩ := List.mem_map.mp hm
  exact ⟨z, hz, hy⟩
theorem PoolAt.same {H H' : Hp} {l : Addr} {ws : List Str} (h : PoolAt H l ws) (s : Same H H') : PoolAt H' l ws := ⟨s _ _ h.1, h.2⟩
theorem nats_of {xs : List V} {n : Nat} (h : ∀ x ∈ xs, ∃ k : Nat, x = nV k ∧ k < n) : ∃ ks : List Nat, xs = ks.map nV ∧ ∀ k ∈ ks, k < n := by
  induction xs with
  | nil => exact ⟨[], rfl, fun k hk => nomatch hk⟩
  | cons x xs ih =>
    obtain ⟨k, rfl, hk⟩ := h x List.mem_cons_self
    obtain ⟨ks, rfl, hks⟩ := ih fun y hy => h y (List.mem_cons_of_mem _ hy)
    refine ⟨k :: ks, rfl, fun j hj => ?_⟩
    rcases List.mem_cons.mp hj with rfl | hj
    · exact hk
    · exact hks j hj
theorem mod_nat {m : Int} {c n : Nat} (hn : 0 < n) : ∃ k : Nat, V.int (m / (c : Int) % ((n : Nat) : Int)) = nV k ∧ k < n := by
  have h0 : 0 ≤ m / (c : Int) % ((n : Nat) : Int) := Int.emod_nonneg _ (by omega)
  have h1 : m / (c : Int) % ((n : Nat) : Int) < ((n : Nat) : Int) := Int.emod_lt_of_pos _ (by omega)
  refine ⟨(m / (c : Int) % ((n : Nat) : Int)).toNat, ?_, by omega⟩
  show V.int _ = V.int _
  rw [Int.toNat_of_nonneg h0]
theorem ok_termP (B : Blt mg) (h_number : Has P w K mg base 1 "_law_number" ["_law_cell", "_law_m"] spNumber) (D : Def K mg "_law_term" s_term ["_law_cell", "_law_m", "_law_terms_here", "_law_pool_here"]) : Has P w K mg base 2 "_law_term" ["_law_cell", "_law_m", "_law_terms_here", "_law_pool_here"] spTermP := by
  refine D.has sc_term (fun vs H Q E h => ?_) (fun f cdv A outer s H vs Q E hr h => ?_)
  · obtain ⟨c, m, T, l, us, n, ws, rfl, _⟩ := h; rfl
  obtain ⟨c, m, T, l, us, n, ws, rfl, m0, m1, hT, hun, hn, hp, q⟩ := h
  refine ⟨_, (pss_cons (ps_set (i := 4) sc_term.nd rfl (Or.inl rfl) (pe_callB call_len_seq rfl B.len_ PySem.boot_len (pa_cons (pv 2) pa_nil)))
    (pss_cons (ps_if (pt_cmpR op_eq (pe_op op_mod (pv 1) pe_int) pe_int (nomark _)) (pss_cons (ps_if (pt_cmpR op_eq (pe_op op_mod (pe_op op_fdiv (pv 1) pe_int) pe_int) pe_int (nomark _)) (pss_one (ps_ret (pe_tup (pa_cons pe_str (pa_cons (pe_callH h_number hr (by omega) rfl (pa_cons (pv 0) (pa_cons (pe_op op_fdiv (pv 1) pe_int) pa_nil))) pa_nil))))) pss_nil)
    (pss_one (ps_ret (pe_tup (pa_cons pe_str (pa_cons (pe_ix ix_list (pv 3) (pe_op op_mod (pe_op op_fdiv (pv 1) pe_int) pe_int) (fun _ _ => rfl)) pa_nil)))))) pss_nil)
    (pss_cons (ps_set (i := 5) sc_term.nd rfl (Or.inl rfl) (pe_lst (pa_cons (pe_op op_mod (pe_op op_fdiv (pv 1) pe_int) (pv 4)) (pa_cons (pe_op op_mod (pe_op op_fdiv (pv 1) pe_int) (pv 4)) (pa_cons (pe_op op_mod (pe_op op_fdiv (pv 1) pe_int) (pv 4)) (pa_cons (pe_op op_mod (pe_op op_fdiv (pv 1) pe_int) (pv 4)) pa_nil))))))
    (pss_one (ps_ret (pe_tup (pa_cons pe_str (pa_cons (pe_ix ix_list (pv 3) (pe_op op_mod (pe_op op_fdiv (pv 1) pe_int) pe_int) (fun _ _ => rfl)) (pa_cons (pe_callTy call_tuple_of rfl B.tuple_ boot_tuple_ (pa_cons (pe_slice sl_list (pv 5) po_none (po_some (pe_ix ix_list (pe_lst (pa_intsB (L := [1, 2, 2, 3, 4]) (by decide +kernel))) (pe_op op_mod (pe_op op_fdiv (pv 1) pe_int) pe_int) (fun _ _ => rfl)))) pa_nil)) pa_nil))))))))), ?_⟩
  try dsimp only [cxOf]
  refine ⟨_, rfl, T, us, rfl, .inl (SqL.of hT), ?_⟩
  dsimp only [gName]
  rw [hun]
  refine ⟨_, rfl, _, _, rfl, rfl, pos', rfl, _, rfl, iteD (fun _ => ?_) (fun _ => ?_)⟩
  · have a0 : 0 ≤ m / 4 % 3 := Int.emod_nonneg _ (by decide)
    have a1 : m / 4 % 3 < 3 := Int.emod_lt_of_pos _ (by decide)
    refine ⟨_, rfl, _, _, rfl, rfl, div', _, _, rfl, rfl, pos', rfl, _, rfl, iteD (fun _ => ?_) (fun _ => ?_)⟩
    · refine ⟨_, rfl, _, rfl, _, _, rfl, rfl, div', c, m / 12, rfl, by omega, by omega, fun k k0 k1 H' sm => ?_⟩
      exact ⟨(show 2 ≤ sizeLine by decide), fun p hp' => q (.ref p) (.num k) _ (sm.trans (same_new hp' _)) ⟨p, rfl, upd_same⟩ leaf_num⟩
    · obtain ⟨z, hz, hat⟩ := pool_at hp a0 a1
      exact ⟨_, rfl, _, rfl, _, _, rfl, rfl, div', _, _, rfl, rfl, pos', l, _, _, _, rfl, rfl, SqL.of hp.1, hat, (show 2 ≤ sizeLine by decide), fun p hp' => q (.ref p) (.name z) _ (same_new hp' _) ⟨p, rfl, upd_same⟩ leaf_name⟩
  · have b0 : 0 ≤ m / 4 % 2 := Int.emod_nonneg _ (by decide)
    have b1 : m / 4 % 2 < 2 := Int.emod_lt_of_pos _ (by decide)
    obtain ⟨z, hz, hat⟩ := pool_at hp b0 (Int.lt_trans b1 (by decide))
    have hn0 : (0 : Int) < ((n : Nat) : Int) := by omega
    refine ⟨_, rfl, _, _, rfl, rfl, div', _, rfl, _, _, rfl, rfl, hn0, _, rfl, _, _, rfl, rfl, div', _, rfl, _, _, rfl, rfl, hn0, _, rfl, _, _, rfl, rfl, div', _, rfl, _, _, rfl, rfl, hn0, _, rfl, _, _, rfl, rfl, div', _, rfl, _, _, rfl, rfl, hn0, (show 4 ≤ sizeLine by decide), fun N hN => ?_⟩
    dsimp only [gName]
    have hall : ∀ x ∈ [V.int (m / 12 % ((n : Nat) : Int)), V.int (m / 180 % ((n : Nat) : Int)), V.int (m / 2700 % ((n : Nat) : Int)), V.int (m / 40500 % ((n : Nat) : Int))], ∃ k : Nat, x = nV k ∧ k < n := fun x hx => by
      rcases List.mem_cons.mp hx with rfl | hx
      · exact mod_nat (c := 12) hn
      rcases List.mem_cons.mp hx with rfl | hx
      · exact mod_nat (c := 180) hn
      rcases List.mem_cons.mp hx with rfl | hx
      · exact mod_nat (c := 2700) hn
      · rw [List.mem_singleton.mp hx]; exact mod_nat (c := 40500) hn
    have hxl : 1 ≤ [V.int (m / 12 % ((n : Nat) : Int)), V.int (m / 180 % ((n : Nat) : Int)), V.int (m / 2700 % ((n : Nat) : Int)), V.int (m / 40500 % ((n : Nat) : Int))].length ∧ [V.int (m / 12 % ((n : Nat) : Int)), V.int (m / 180 % ((n : Nat) : Int)), V.int (m / 2700 % ((n : Nat) : Int)), V.int (m / 40500 % ((n : Nat) : Int))].length ≤ 4 := (show 1 ≤ 4 ∧ 4 ≤ 4 by decide)
    generalize [V.int (m / 12 % ((n : Nat) : Int)), V.int (m / 180 % ((n : Nat) : Int)), V.int (m / 2700 % ((n : Nat) : Int)), V.int (m / 40500 % ((n : Nat) : Int))] = xs at hall hxl ⊢
    have s1 := same_new hN (.lst xs)
    have hN1 := upd_same (H := H) (a := N) (o := .lst xs)
    generalize upd H N (.lst xs) = H1 at s1 hN1 ⊢
    refine ⟨_, rfl, _, rfl, _, _, rfl, rfl, div', _, _, rfl, rfl, pos', l, _, _, _, rfl, rfl, SqL.of (hp.same s1).1, hat, _, rfl, (show 5 ≤ sizeLine by decide), fun F hF => ?_⟩
    have d0 : 0 ≤ m / 8 % 5 := Int.emod_nonneg _ (by decide)
    have d1 : m / 8 % 5 < 5 := Int.emod_lt_of_pos _ (by decide)
    have hk5 : ∃ kk : Nat, 1 ≤ kk ∧ atI ([1, 2, 2, 3, 4].map V.int) (m / 8 % 5) = some (.int (kk : Int)) := by
      rcases (show m / 8 % 5 = 0 ∨ m / 8 % 5 = 1 ∨ m / 8 % 5 = 2 ∨ m / 8 % 5 = 3 ∨ m / 8 % 5 = 4 by omega) with e | e | e | e | e <;> rw [e]
      · exact ⟨1, by decide, rfl⟩
      · exact ⟨2, by decide, rfl⟩
      · exact ⟨2, by decide, rfl⟩
      · exact ⟨3, by decide, rfl⟩
      · exact ⟨4, by decide, rfl⟩
    obtain ⟨kk, hkk, hat5⟩ := hk5
    have s2 := s1.trans (same_new hF (.lst ([1, 2, 2, 3, 4].map V.int)))
    have hN2 := same_new hF (.lst ([1, 2, 2, 3, 4].map V.int)) _ _ hN1
    have hF2 := upd_same (H := H1) (a := F) (o := .lst ([1, 2, 2, 3, 4].map V.int))
    show _
    generalize upd H1 F (.lst ([1, 2, 2, 3, 4].map V.int)) = H2 at s2 hN2 hF2 ⊢
    refine ⟨_, rfl, _, _, rfl, rfl, div', _, _, rfl, rfl, pos', F, _, _, _, rfl, rfl, SqL.of hF2, hat5, _, rfl, N, xs, rfl, SqL.of hN2, fun p hp1 => ?_⟩
    obtain ⟨ks, eks, hks⟩ := nats_of fun x hx => hall x (cutV_mem hx : x ∈ xs)
    have hcl := cutV_length xs none (some (kk : Int))
    have hcl1 : 1 ≤ (cutV xs none (some (kk : Int))).length := by
      unfold cutV
      rw [HT.sIx_nat, HT.sIx_none, List.length_take, List.length_drop]
      omega
    rw [eks] at hcl hcl1 ⊢
    rw [List.length_map] at hcl hcl1
    have s3 := s2.trans (same_new hp1 (.lst (ks.map nV)))
    have hp3 := upd_same (H := H2) (a := p) (o := .lst (ks.map nV))
    generalize upd H2 p (.lst (ks.map nV)) = H3 at s3 hp3 ⊢
    refine ⟨p, _, rfl, .inl ⟨SqL.of hp3, fun r hr' => ?_⟩⟩
    have s4 := s3.trans (same_new hr' (.tup (ks.map nV)))
    have hr4 := upd_same (H := H3) (a := r) (o := .tup (ks.map nV))
    generalize upd H3 r (.tup (ks.map nV)) = H4 at s4 hr4 ⊢
    refine ⟨(show 3 ≤ sizeLine by decide), fun o ho => q (.ref o) (.of z ks) _ (s4.trans (same_new ho _)) ⟨o, r, rfl, upd_same, same_new ho _ _ _ hr4⟩ fun x as e => ?_⟩
    cases e
    exact ⟨by omega, hcl1, hks⟩
end

end K44
namespace K44
open PySem L2 Sw
section
variable {P : Program} {w : World} {K : PySem.W.Frag} {mg : Str → Option Value} {base : Heap}
theorem rd_ifR {c : TT} {t u : TS} {D : Ends} {σ : St} {H : Hp} (R : Bool → Hp → Prop) (hc : ∀ Q : Bool → Hp → Prop, (∀ b H', R b H' → Q b H') → c σ H Q) (h1 : ∀ H', R true H' → t D σ H') (h2 : ∀ H', R false H' → u D σ H') : tIfS c t u D σ H := by
  refine hc _ (fun b H' r => ?_)
  cases b with
  | true => exact iteT (h1 H' r)
  | false => exact iteF (h2 H' r)
noncomputable def ofV (H : Hp) : V → Option V
  | .ref b => match H b with
    | some (.tup (.str k :: _)) => if k = "of" then some (.ref b) else none
    | _ => none
  | _ => none
theorem of_head {H : Hp} {t : Tm} {x : V} (h : IsTm H t x) : ∃ b k vs, x = .ref b ∧ H b = some (.tup (.str k :: vs)) ∧ ofV H x = if k = "of" then some x else none := by
  cases t with
  | num n => obtain ⟨b, rfl, h2⟩ := id h; exact ⟨b, _, _, rfl, h2, by unfold ofV; dsimp only; rw [h2]⟩
  | name n => obtain ⟨b, rfl, h2⟩ := id h; exact ⟨b, _, _, rfl, h2, by unfold ofV; dsimp only; rw [h2]⟩
  | of y as => obtain ⟨b, c, rfl, h2, h3⟩ := id h; exact ⟨b, _, _, rfl, h2, by unfold ofV; dsimp only; rw [h2]⟩
noncomputable def HasOf (ts : List Tm) : Prop := ∃ (i : Nat) (x : Str) (as : List Nat), ts[i]? = some (.of x as)
theorem has_of {H : Hp} {us : List V} {ts : List Tm} (h : Tms H us ts) (hn : us.filterMap (ofV H) ≠ []) : HasOf ts := by
  obtain ⟨y, hy⟩ := List.exists_mem_of_ne_nil _ hn
  obtain ⟨x, hx, e⟩ := List.mem_filterMap.mp hy
  obtain ⟨j, hj⟩ := List.getElem?_of_mem hx
  obtain ⟨t, ht, hT⟩ := tms_at h hj
  cases t with
  | num n => obtain ⟨b, rfl, h2⟩ := id hT; unfold ofV at e; dsimp only at e; rw [h2] at e; simp at e; exact absurd e.1 (by decide)
  | name n => obtain ⟨b, rfl, h2⟩ := id hT; unfold ofV at e; dsimp only at e; rw [h2] at e; simp at e; exact absurd e.1 (by decide)
  | of y as => exact ⟨j, y, as, ht⟩
inductive SpTerms (vs : List V) (H : Hp) (Q : VK) : Prop
  | mk (a l : Addr) (ns : List Int) (ws : List Str) (most ties : Int) (z0 : vs = [.ref a, .ref l, .int most, .int ties]) (z1 : H a = some (.lst (ns.map V.int))) (z2 : ns.length ≤ 80) (z3 : PoolAt H l ws) (z4 : most ≤ 11) (z5 : ∀ p T E us evs ts es H', MadeOk H H' T E us evs ts es → H' p = some (.tup [.ref T, .ref E]) → 0 < ts.length → HasOf ts → evs.length ≤ 80 → Q (.ref p) H') : SpTerms  vs H Q
noncomputable def spTerms : Sp := fun vs H Q _ => SpTerms  vs H Q
inductive GsI (H : Hp) (a l T E : Addr) (most ties : Int) (i : Nat) (σ : St) (H' : Hp) : Prop
  | mk : ∀ (us evs : List V) (ts : List Tm) (es : List (Nat × Nat)) (x6 x7 x8 x9 x10 : Option V), (σ = [some (.ref a), some (.ref l), some (.int most), some (.int ties), some (.ref T), some (.ref E), x6, x7, x8, x9, x10]) → (MadeOk H H' T E us evs ts es) → (0 < ts.length) → (ts.length ≤ 11) → (evs.length ≤ i) → GsI H a l T E most ties i σ H'
theorem tsok_one {t : Tm} (h : TmOk 0 t) : TsOk [t] := tsok_snoc (ts := []) tsok_nil h (fun z => nomatch z)
theorem ok_terms (B : Blt mg) (h_mixed : Has P w K mg base 1 "_law_mixed" ["_law_cell", "_law_k"] spMixed) (h_term : Has P w K mg base 2 "_law_term" ["_law_cell", "_law_m", "_law_terms_here", "_law_pool_here"] spTermP) (D : Def K mg "_law_terms" s_terms ["_law_cells", "_law_pool_here", "_law_most", "_law_ties"]) : Has P w K mg base 3 "_law_terms" ["_law_cells", "_law_pool_here", "_law_most", "_law_ties"] spTerms := by
  refine D.has sc_terms (fun vs H Q E h => ?_) (fun f cdv A outer s H vs Q E hr h => ?_)
  · obtain ⟨a, l, ns, ws, most, ties, rfl, _⟩ := h; rfl
  obtain ⟨a, l, ns, ws, most, ties, rfl, ha, hns, hp, hmost, q⟩ := h
  refine ⟨_, (pss_cons (ps_set (i := 4) sc_terms.nd rfl (Or.inl rfl) (pe_lst (pa_cons (pe_tup (pa_cons pe_str (pa_cons (pe_ix ix_list (pv 1) pe_int (fun _ _ => rfl)) pa_nil))) pa_nil)))
    (pss_cons (ps_set (i := 5) sc_terms.nd rfl (Or.inl rfl) (pe_lst pa_nil))
    (pss_cons (ps_for PassesOwn.never rfl (pi_enum rfl B.enumerate_ (pa_cons (pv 0) pa_nil)) (pg_tup rfl (pgs_cons (pg_name (i := 6) sc_terms.nd rfl (Or.inl rfl)) (pgs_cons (pg_name (i := 7) sc_terms.nd rfl (Or.inl rfl)) pgs_nil)))
    (pss_cons (ps_set (i := 8) sc_terms.nd rfl (Or.inl rfl) (pe_callH h_mixed hr (by omega) rfl (pa_cons (pv 7) (pa_cons (pv 6) pa_nil))))
    (pss_cons (ps_set (i := 9) sc_terms.nd rfl (Or.inl rfl) (pe_callB call_len_seq rfl B.len_ PySem.boot_len (pa_cons (pv 4) pa_nil)))
    (pss_one (ps_if (PW.pt (pw_or (pt_cmpR op_eq (pe_op op_mod (pv 8) pe_int) pe_int (nomark _)) (pw_or1 (pt_cmpR op_ge (pv 9) (pv 2) (nomark _))))) (pss_one (ps_if (pt_cmpR op_lt (pe_callB call_len_seq rfl B.len_ PySem.boot_len (pa_cons (pv 5) pa_nil)) (pv 3) (nomark _)) (pss_one (ps_expr (pe_bm PySem.F.plainAttrs_list PySem.F.slot_list_append PySem.F.type_list_append mt_append (pv 5) (pa_cons (pe_tup (pa_cons (pe_op op_mod (pe_op op_fdiv (pv 8) pe_int) (pv 9)) (pa_cons (pe_op op_mod (pe_op op_fdiv (pv 8) pe_int) (pv 9)) (pa_cons (pe_op op_add pe_int (pe_op op_mod (pv 7) (pe_op op_pow pe_int pe_int))) (pa_cons (pe_tup (pa_cons pe_str pa_nil)) pa_nil))))) pa_nil)))) pss_nil)) (pss_cons (ps_set (i := 10) sc_terms.nd rfl (Or.inl rfl) (pe_callH h_term hr (by omega) rfl (pa_cons (pv 7) (pa_cons (pe_op op_fdiv (pv 8) pe_int) (pa_cons (pv 4) (pa_cons (pv 1) pa_nil))))))
    (pss_one (ps_if (pt_cmpR (op_notInD (un101 hr)) (pv 10) (pv 4) (by with_unfolding_all rfl)) (pss_one (ps_expr (pe_bm PySem.F.plainAttrs_list PySem.F.slot_list_append PySem.F.type_list_append mt_append (pv 4) (pa_cons (pv 10) pa_nil)))) pss_nil))))))))
    (pss_cons (ps_if (pt_cmpR op_eq (pe_callB call_len_seq rfl B.len_ PySem.boot_len (pa_cons (pe_compI (te := _) (ct := (tTest (tOp _ (tOp (rIxT K) _ _) _))) (own := ["_law_term_here"]) (caps := []) (comp_scope (defScope s_terms) ["_law_cells", "_law_pool_here", "_law_most", "_law_ties", "_law_terms_here", "_law_edges", "_law_k", "_law_cell", "_law_m", "_law_n", "_law_term_here"] rfl rfl rfl (by decide +kernel)) (pi_list (pv 4)) rfl (fun _ _ _ => pg_name (i := 0) (show (["_law_term_here"] : List Str).Nodup by decide +kernel) rfl (Or.inl rfl)) (fun _ _ _ => (pt_cmpR op_eq (pe_ix ix_tup (pv 0) pe_int (fun _ _ => rfl)) pe_str (nomark _))) (fun _ _ _ => (pv 0))) pa_nil)) pe_int (nomark _)) (pss_one (ps_expr (pe_bm PySem.F.plainAttrs_list PySem.F.slot_list_append PySem.F.type_list_append mt_append (pv 4) (pa_cons (pe_tup (pa_cons pe_str (pa_cons (pe_ix ix_list (pv 1) pe_int (fun _ _ => rfl)) (pa_cons (pe_tup (pa_cons pe_int pa_nil)) pa_nil)))) pa_nil)))) pss_nil)
    (pss_one (ps_ret (pe_tup (pa_cons (pv 4) (pa_cons (pv 5) pa_nil))))))))), ?_⟩
  try dsimp only [cxOf]
  obtain ⟨z0, hz0, hat0⟩ := pool_at hp (i := 0) (Int.le_refl _) (by decide)
  obtain ⟨z1, hz1, hat1⟩ := pool_at hp (i := 1) (by decide) (by decide)
  refine ⟨_, rfl, l, _, _, _, rfl, rfl, SqL.of hp.1, hat0, (show 2 ≤ sizeLine by decide), fun p0 hp0 => ⟨(show 1 ≤ sizeLine by decide), fun T hT => ?_⟩⟩
  dsimp only [gName]
  have s1 := same_new hp0 (.tup [.str "name", .str z0])
  have hp1 := upd_same (H := H) (a := p0) (o := .tup [.str "name", .str z0])
  generalize upd H p0 (.tup [.str "name", .str z0]) = H1 at s1 hp1 hT ⊢
  have s2 := s1.trans (same_new hT (.lst [.ref p0]))
  have hp2 := same_new hT (.lst [.ref p0]) _ _ hp1
  have hT2 := upd_same (H := H1) (a := T) (o := .lst [.ref p0])
  generalize upd H1 T (.lst [.ref p0]) = H2 at s2 hp2 hT2 ⊢
  refine ⟨Nat.zero_le _, fun E1 hE => ?_⟩
  dsimp only [gName]
  have s3 := s2.trans (same_new hE (.lst []))
  have hp3 := same_new hE (.lst []) _ _ hp2
  have hT3 := same_new hE (.lst []) _ _ hT2
  have hE3 := upd_same (H := H2) (a := E1) (o := .lst [])
  have hTE : T ≠ E1 := ne_of_none hT2 hE
  have hT0 : H T = none := s1.free hT
  have hE0 : H E1 = none := s2.free hE
  generalize upd H2 E1 (.lst []) = H3 at s3 hp3 hT3 hE3 ⊢
  refine rd_cut (fun σ' H' => ∃ i, GsI H a l T E1 most ties i σ' H' ∧ i ≤ 80) ?_ (fun key => ?_)
  rotate_left
  · refine ⟨_, rfl, a, rfl, ⟨_, SqL.of (s3 _ _ ha)⟩, ?_⟩
    refine for_enum (xs := ns.map V.int) (GsI H a l T E1 most ties) (GsI.mk [.ref p0] [] [.name z0] [] none none none none none rfl ⟨s3, hT0, hE0, hTE, hT3, .cons ⟨p0, rfl, hp3⟩ .nil, hE3, .nil, tsok_one leaf_name, (show 1 ≤ 24 by decide), (fun a b h => nomatch h)⟩ (show 0 < 1 by decide) (show 1 ≤ 11 by decide) (Nat.zero_le _)) ?_ ?_ ?_
    · rintro i σ H' _ ⟨us, evs, ts, es, x6, x7, x8, x9, x10, rfl, mo, _⟩
      exact SqL.of (mo.same _ _ ha)
    · rintro i x p σ H' hx ⟨us, evs, ts, es, x6, x7, x8, x9, x10, rfl, mo, hpos, h11, hev⟩ hp'
      obtain ⟨c, hc, rfl⟩ := List.mem_map.mp (List.mem_of_getElem? hx)
      have hi : i < ns.length := by have := (List.getElem?_eq_some_iff.mp hx).1; rwa [List.length_map] at this
      have w1 := same_new hp' (.tup [.int (i : Int), .int c])
      refine ⟨p, _, rfl, SqT.of upd_same, rfl, _, _, rfl, _, _, rfl, rfl, ?_⟩
      generalize upd H' p (.tup [.int (i : Int), .int c]) = H4 at w1 ⊢
      have mo : MadeOk H H4 T E1 us evs ts es := { mo with same := mo.same.trans w1, hT := w1 _ _ mo.hT, tms := tms_same w1 mo.tms, hE := w1 _ _ mo.hE, eds := edges_keep (fun b ys => w1 _ _) mo.eds }
      have hlen := Paired.length mo.tms
      have helen := Paired.length mo.eds
      refine ⟨_, rfl, _, rfl, c, (i : Int), rfl, by omega, by omega, fun m m0 m1 => ?_⟩
      dsimp only [gName]
      refine ⟨_, rfl, T, us, rfl, .inl (SqL.of mo.hT), ?_⟩
      dsimp only [gName]
      rw [hlen]
      have hn0 : (0 : Int) < ((ts.length : Nat) : Int) := by omega
      refine rd_ifR (fun b Hc => Hc = H4 ∧ (b = false → ((ts.length : Nat) : Int) < most)) (fun Qc qc => ⟨_, rfl, _, _, rfl, rfl, pos', rfl, _, rfl, iteD (fun _ => qc true _ ⟨rfl, fun z => nomatch z⟩) (fun _ => ⟨_, rfl, _, rfl, _, _, rfl, rfl, _, rfl, qc _ _ ⟨rfl, fun z => ?_⟩⟩)⟩) ?_ ?_
      · have := of_decide_eq_false z
        omega
      · rintro H4 ⟨rfl, _⟩
        refine ⟨_, rfl, E1, evs, rfl, .inl (SqL.of mo.hE), _, rfl, _, _, rfl, rfl, _, rfl, iteD (fun _ => ?_) (fun _ => GsI.mk us evs ts es _ _ _ _ _ rfl mo hpos h11 (by omega))⟩
        have a0 : 0 ≤ m / 4 % ((ts.length : Nat) : Int) := Int.emod_nonneg _ (by omega)
        have a1 : m / 4 % ((ts.length : Nat) : Int) < ((ts.length : Nat) : Int) := Int.emod_lt_of_pos _ hn0
        have c0 : 0 ≤ m / 100 % ((ts.length : Nat) : Int) := Int.emod_nonneg _ (by omega)
        have c1 : m / 100 % ((ts.length : Nat) : Int) < ((ts.length : Nat) : Int) := Int.emod_lt_of_pos _ hn0
        obtain ⟨na, ena⟩ : ∃ na : Nat, m / 4 % ((ts.length : Nat) : Int) = (na : Int) := ⟨_, (Int.toNat_of_nonneg a0).symm⟩
        obtain ⟨nb, enb⟩ : ∃ nb : Nat, m / 100 % ((ts.length : Nat) : Int) = (nb : Int) := ⟨_, (Int.toNat_of_nonneg c0).symm⟩
        rw [ena] at a1
        rw [enb] at c1
        refine ⟨_, rfl, .inl ⟨rfl, _, SqL.of mo.hE⟩, ?_⟩
        refine ⟨_, rfl, _, _, rfl, rfl, div', _, rfl, _, _, rfl, rfl, hn0, _, rfl, _, _, rfl, rfl, div', _, rfl, _, _, rfl, rfl, hn0, _, rfl, 10, 12, rfl, rfl, ⟨by decide, by decide, by decide⟩, _, _, rfl, rfl, (by show (0 : Int) < 10 ^ 12; decide), _, _, rfl, rfl, (show 1 ≤ sizeLine by decide), fun tp htp => ⟨(show 4 ≤ sizeLine by decide), fun te hte => ?_⟩⟩
        rw [ena, enb]
        have s5 := (same_new htp (.tup [.str "told"])).trans (same_new hte (.tup [nV na, nV nb, .int (1 + c % 10 ^ (12 : Int).toNat), .ref tp]))
        have hte5 := upd_same (H := upd H4 tp (.tup [.str "told"])) (a := te) (o := .tup [nV na, nV nb, .int (1 + c % 10 ^ (12 : Int).toNat), .ref tp])
        generalize upd (upd H4 tp (.tup [.str "told"])) te (.tup [nV na, nV nb, .int (1 + c % 10 ^ (12 : Int).toNat), .ref tp]) = H5 at s5 hte5 ⊢
        have hE5 := s5 _ _ mo.hE
        have kp : ∀ b ys, H5 b = some (.tup ys) → (upd H5 E1 (.lst (evs ++ [.ref te]))) b = some (.tup ys) := fun b ys e => by rw [upd_ne (ne_of e hE5 (fun z => nomatch z))]; exact e
        refine ⟨E1, evs, _, rfl, rfl, hE5, small1000 (by omega), ?_⟩
        refine GsI.mk us (evs ++ [.ref te]) ts (es ++ [(na, nb)]) _ _ _ _ _ rfl ⟨(mo.same.trans s5).put mo.e0, mo.t0, mo.e0, mo.te, by rw [upd_ne mo.te]; exact s5 _ _ mo.hT, tms_keep kp (tms_same s5 mo.tms), upd_same, Paired.snoc (edges_keep kp (edges_keep (fun b ys => s5 _ _) mo.eds)) ⟨te, _, rfl, kp _ _ hte5⟩, mo.ok, mo.few, paired_snoc_lt mo.lt (by omega) (by omega)⟩ hpos h11 ?_
        rw [List.length_append]; show evs.length + 1 ≤ i + 1; omega
      · rintro H4 ⟨rfl, hlt⟩
        have hlt := hlt rfl
        refine ⟨_, rfl, _, rfl, _, _, rfl, rfl, div', _, rfl, _, rfl, c, m / 4, T, l, us, ts.length, ws, rfl, by omega, by omega, mo.hT, hlen, hpos, hp.same mo.same, fun v t H5 s5 hv htm => ?_⟩
        dsimp only [gName]
        have hT5 := s5 _ _ mo.hT
        have h5' := tms_same s5 mo.tms
        refine ⟨_, rfl, _, rfl, _, _, hv.den, .inl (by rw [Den]; exact ⟨T, us, rfl, hT5, tms_den h5'⟩), Nat.le_trans (tms_deep ts) (by decide), _, rfl, ?_⟩
        by_cases hm : tmD t ∈ ts.map tmD
        · rw [decide_eq_true hm]
          exact iteF (GsI.mk us evs ts es _ _ _ _ _ rfl { mo with same := mo.same.trans s5, hT := hT5, tms := h5', hE := s5 _ _ mo.hE, eds := edges_keep (fun b ys => s5 _ _) mo.eds } hpos h11 (by omega))
        · rw [decide_eq_false hm]
          have kp : ∀ b ys, H5 b = some (.tup ys) → (upd H5 T (.lst (us ++ [v]))) b = some (.tup ys) := fun b ys e => by rw [upd_ne (ne_of e hT5 (fun z => nomatch z))]; exact e
          refine iteT ⟨_, rfl, .inl ⟨rfl, _, SqL.of hT5⟩, _, rfl, T, us, v, rfl, rfl, hT5, small1000 (by omega), ?_⟩
          refine GsI.mk (us ++ [v]) evs (ts ++ [t]) es _ _ _ _ _ rfl ⟨(mo.same.trans s5).put mo.t0, mo.t0, mo.e0, mo.te, upd_same, tms_snoc (tms_keep kp h5') (hv.keep kp), by rw [upd_ne (Ne.symm mo.te)]; exact s5 _ _ mo.hE, edges_keep kp (edges_keep (fun b ys => s5 _ _) mo.eds), tsok_snoc mo.ok htm hm, ?_, fun x y hxy => ?_⟩ ?_ ?_ (by omega)
          · rw [List.length_append]; show ts.length + 1 ≤ 24; omega
          · have := mo.lt x y hxy; rw [List.length_append]; omega
          · rw [List.length_append]; exact Nat.succ_pos _
          · rw [List.length_append]; show ts.length + 1 ≤ 11; omega
    · rintro σ H' h
      exact key _ _ ⟨_, h, by rw [List.length_map]; exact hns⟩
  rintro σ' H4 ⟨i, ⟨us, evs, ts, es, x6, x7, x8, x9, x10, rfl, mo, hpos, h11, hev⟩, hi⟩
  have hlen := Paired.length mo.tms
  refine rd_cut (fun σ' H5 => ∃ us ts, σ' = [some (.ref a), some (.ref l), some (.int most), some (.int ties), some (.ref T), some (.ref E1), x6, x7, x8, x9, x10] ∧ MadeOk H H5 T E1 us evs ts es ∧ 0 < ts.length ∧ HasOf ts) ?_ (fun key => ?_)
  · rintro σ' H5 ⟨us, ts, rfl, mo, hpos, hof⟩
    refine ⟨_, rfl, _, rfl, (show 2 ≤ sizeLine by decide), fun p hp' => ?_⟩
    have s5 := same_new hp' (.tup [.ref T, .ref E1])
    exact q p T E1 us evs ts es _ { mo with same := mo.same.trans s5, hT := s5 _ _ mo.hT, tms := tms_same s5 mo.tms, hE := s5 _ _ mo.hE, eds := edges_keep (fun b ys => s5 _ _) mo.eds } upd_same hpos hof (by omega)
  refine ⟨_, rfl, T, rfl, ⟨_, SqL.of mo.hT⟩, ?_⟩
  refine compI_listS (ofV H4) (SqL.of mo.hT) (by omega) (fun x hx H' sm R r => ?_) (fun x v hx e H' sm Q' q' => ?_) (fun D1 H5 hD1 s5 hD => ?_)
  · obtain ⟨j, hj⟩ := List.getElem?_of_mem hx
    obtain ⟨t, _, ht⟩ := tms_at mo.tms hj
    obtain ⟨b, k, vs, rfl, hb, e⟩ := of_head ht
    have r := r H' (Same.refl _)
    refine ⟨_, rfl, b, _, 0, _, rfl, rfl, SqT.of (sm _ _ hb), atI_nat (j := 0) rfl, rfl, _, rfl, ?_⟩
    rw [e] at r
    by_cases hk : k = "of"
    · rw [if_pos hk] at r; rw [decide_eq_true (by rw [hk])]; exact r
    · rw [if_neg hk] at r; rw [decide_eq_false fun z => hk (V.str.inj z)]; exact r
  · obtain ⟨j, hj⟩ := List.getElem?_of_mem hx
    obtain ⟨t, _, ht⟩ := tms_at mo.tms hj
    obtain ⟨b, k, vs, rfl, hb, e'⟩ := of_head ht
    rw [e'] at e
    split at e
    · have := Option.some.inj e
      subst this
      exact ⟨_, rfl, q' _ (Same.refl _)⟩
    · cases e
  have mo5 : MadeOk H H5 T E1 us evs ts es := { mo with same := mo.same.trans s5, hT := s5 _ _ mo.hT, tms := tms_same s5 mo.tms, hE := s5 _ _ mo.hE, eds := edges_keep (fun b ys => s5 _ _) mo.eds }
  refine ⟨D1, _, rfl, .inl (SqL.of hD), rfl, _, rfl, iteD (fun hno => ?_) (fun hne => key _ _ ⟨us, ts, rfl, mo5, hpos, has_of mo.tms (fun z => hne (by rw [z]; rfl))⟩)⟩
  refine ⟨_, rfl, .inl ⟨rfl, _, SqL.of mo5.hT⟩, _, rfl, l, _, _, _, rfl, rfl, SqL.of (hp.same mo5.same).1, hat1, (show 1 ≤ sizeLine by decide), fun c hc => ⟨(show 3 ≤ sizeLine by decide), fun d hd => ?_⟩⟩
  have s6 := (same_new hc (.tup [V.int 0])).trans (same_new hd (.tup [.str "of", .str z1, .ref c]))
  have hd6 := upd_same (H := upd H5 c (.tup [V.int 0])) (a := d) (o := .tup [.str "of", .str z1, .ref c])
  have hc6 := same_new hd (.tup [.str "of", .str z1, .ref c]) _ _ (upd_same (H := H5) (a := c) (o := .tup ([0].map nV)))
  show _
  generalize upd (upd H5 c (.tup [V.int 0])) d (.tup [.str "of", .str z1, .ref c]) = H6 at s6 hd6 hc6 ⊢
  have hT6 := s6 _ _ mo5.hT
  have hnil : us.filterMap (ofV H4) = [] := List.length_eq_zero_iff.mp (by have := V.int.inj hno; omega)
  have hnot : tmD (.of z1 [0]) ∉ ts.map tmD := fun z => by
    obtain ⟨t, ht, e⟩ := List.mem_map.mp z
    have et := tmD_inj e
    subst et
    obtain ⟨j, hj⟩ := List.getElem?_of_mem ht
    obtain ⟨v, hv⟩ : ∃ v, us[j]? = some v := ⟨_, List.getElem?_eq_getElem (by rw [hlen]; exact (List.getElem?_eq_some_iff.mp hj).1)⟩
    obtain ⟨t', ht', hvt⟩ := tms_at mo.tms hv
    rw [hj] at ht'
    have := Option.some.inj ht'
    subst this
    obtain ⟨b, c', rfl, h2, h3⟩ := id hvt
    have e2 : ofV H4 (.ref b) = some (.ref b) := by unfold ofV; dsimp only; rw [h2]; rfl
    have : V.ref b ∈ us.filterMap (ofV H4) := List.mem_filterMap.mpr ⟨_, List.mem_of_getElem? hv, e2⟩
    rw [hnil] at this
    cases this
  have kp : ∀ b ys, H6 b = some (.tup ys) → (upd H6 T (.lst (us ++ [.ref d]))) b = some (.tup ys) := fun b ys e => by rw [upd_ne (ne_of e hT6 (fun z => nomatch z))]; exact e
  have hv6 : IsTm H6 (.of z1 [0]) (.ref d) := ⟨d, c, rfl, hd6, hc6⟩
  refine ⟨T, us, _, rfl, rfl, hT6, small1000 (by omega), key _ _ ⟨us ++ [.ref d], ts ++ [.of z1 [0]], rfl, ⟨(mo5.same.trans s6).put mo.t0, mo.t0, mo.e0, mo.te, upd_same, tms_snoc (tms_keep kp (tms_same s6 mo5.tms)) (hv6.keep kp), by rw [upd_ne (Ne.symm mo.te)]; exact s6 _ _ mo5.hE, edges_keep kp (edges_keep (fun b ys => s6 _ _) mo5.eds), tsok_snoc mo.ok (fun x as e => ?_) hnot, ?_, fun x y hxy => ?_⟩, ?_, ⟨ts.length, z1, [0], List.getElem?_concat_length⟩⟩⟩
  · cases e
    exact ⟨by decide, by decide, fun a ha' => by rw [List.mem_singleton.mp ha']; exact hpos⟩
  · rw [List.length_append]; show ts.length + 1 ≤ 24; omega
  · have := mo.lt x y hxy; rw [List.length_append]; omega
  · rw [List.length_append]; exact Nat.succ_pos _
end

end K44
namespace K44
open PySem L2 Sw
section
variable {P : Program} {w : World} {K : PySem.W.Frag} {mg : Str → Option Value} {base : Heap}
structure TLok (ts : List Tm) (ls : List Nat) : Prop where
  arms : Arms ts
  len : ls.length = ts.length
  few : ts.length ≤ 900
  small : ∀ (i : Nat) x as, ts[i]? = some (.of x as) → as.length ≤ 1000
  like : LikeL ts ls
theorem TLok.at {ts : List Tm} {ls : List Nat} (h : TLok ts ls) {i : Nat} {t : Tm} (ht : ts[i]? = some t) : ∀ x as, t = .of x as → as.length ≤ 1000 ∧ ∀ a ∈ as, a < ls.length := fun x as e => by
  subst e
  have hl := (List.getElem?_eq_some_iff.mp ht).1
  exact ⟨h.small i x as ht, fun a ha => by have := h.arms i x as ht a ha; have := h.len; omega⟩
inductive SpMarks (P : Program) (w : World) (vs : List V) (H : Hp) (Q : VK) : Prop
  | mk (T L : Addr) (us : List V) (ts : List Tm) (ls : List Nat) (z0 : vs = [.ref T, .ref L]) (z1 : H T = some (.lst us)) (z2 : Tms H us ts) (z3 : H L = some (.lst (ls.map nV))) (z4 : TLok ts ls) (z5 : ∀ p kvs H', Same H H' → H p = none → DN P w H' p kvs → TabOk ts ls ts.length kvs → Q (.ref p) H') : SpMarks P w vs H Q
noncomputable def spMarks (P : Program) (w : World) : Sp := fun vs H Q _ => SpMarks P w vs H Q
theorem ok_marks (B : Blt mg) (h_mark : Has P w K mg base 1 "mark" ["term", "leads"] (spMark K)) (D : Def K mg "marks" s_marks ["terms", "leads"]) : Has P w K mg base 2 "marks" ["terms", "leads"] (spMarks P w) := by
  refine D.has sc_marks (fun vs H Q E h => ?_) (fun f cdv A outer s H vs Q E hr h => ?_)
  · obtain ⟨T, L, us, ts, ls, rfl, _⟩ := h; rfl
  obtain ⟨T, L, us, ts, ls, rfl, hT, hts, hL, ok, q⟩ := h
  refine ⟨_, (pss_cons (ps_set (i := 2) sc_marks.nd rfl (Or.inl rfl) pe_dnewN)
    (pss_cons (ps_for PassesOwn.never rfl (pi_enum rfl B.enumerate_ (pa_cons (pv 0) pa_nil)) (pg_tup rfl (pgs_cons (pg_name (i := 3) sc_marks.nd rfl (Or.inl rfl)) (pgs_cons (pg_name (i := 4) sc_marks.nd rfl (Or.inl rfl)) pgs_nil)))
    (pss_one (ps_nput (un10 hr) (pv 2) (pe_callH h_mark hr (by omega) rfl (pa_cons (pv 4) (pa_cons (pv 1) pa_nil))) (pe_ix ix_list (pv 1) (pv 3) (fun _ _ => rfl)) rfl)))
    (pss_one (ps_ret (pv 2))))), ?_⟩
  try dsimp only [cxOf]
  have hut := Paired.length hts
  intro p φ hp dn0
  dsimp only [gName]
  have sm0 := same_new hp (.ext φ)
  generalize upd H p (.ext φ) = H0 at sm0 dn0 ⊢
  refine ⟨_, rfl, T, rfl, ⟨us, SqL.of (sm0 _ _ hT)⟩, ?_⟩
  refine for_enum (xs := us) (fun i σ H' => ∃ (kvs : List (NK × V)) (x3 x4 : Option V), σ = [some (.ref T), some (.ref L), some (.ref p), x3, x4] ∧ Same H H' ∧ DN P w H' p kvs ∧ TabOk ts ls i kvs)
    ⟨[], none, none, rfl, sm0, dn0, (fun i t hi => absurd hi (Nat.not_lt_zero _)), (fun k v e => by rw [valV_nil] at e; cases e), rfl⟩ ?_ ?_ ?_
  · rintro i σ H' _ ⟨kvs, x3, x4, rfl, sm, _⟩
    exact SqL.of (sm _ _ hT)
  · rintro i x a0 σ H' hx ⟨kvs, x3, x4, rfl, sm, dn, tb⟩ ha0
    obtain ⟨t, ht, hx'⟩ := tms_at hts hx
    have hi : i < ts.length := (List.getElem?_eq_some_iff.mp ht).1
    have s1 := same_new ha0 (.tup [.int (i : Int), x])
    have g1 := sm.trans s1
    have dn1 := dn.same s1
    refine ⟨a0, _, rfl, SqT.of upd_same, rfl, _, _, rfl, _, _, rfl, rfl, ?_⟩
    generalize upd H' a0 (.tup [.int (i : Int), x]) = H1 at s1 g1 dn1 ⊢
    have hl := ok.len
    have hli : ls[i]? = some (ls.getD i 0) := getD_at (by omega)
    refine ⟨_, rfl, _, rfl, L, _, _, _, rfl, rfl, SqL.of (g1 _ _ hL), nV_at hli, ?_⟩
    refine ⟨_, rfl, _, rfl, _, rfl, x, t, L, ls, rfl, hx'.same g1, SqL.of (g1 _ _ hL), ok.at ht, fun v' H2 s2 hm => ?_⟩
    obtain ⟨b, rfl, nk⟩ := hm.key
    have hkl : kvs.length ≤ i := by rw [tb.2.2]; exact firsts_len _ _
    have hpH2 : H p = none := hp
    refine ⟨p, b, kvs, tmNK (mk ls t), rfl, rfl, dn1.same s2, nk, small1000 (by have := ok.few; omega), fun φ2 dn3 => ⟨_, _, _, rfl, ?_, dn3, tab_step ok.like ok.len tb ht⟩⟩
    exact fun c o e => by rw [upd_ne (fun z => by rw [z, hp] at e; cases e)]; exact (g1.trans s2) c o e
  · rintro σ H' ⟨kvs, x3, x4, rfl, sm, dn, tb⟩
    rw [hut] at tb
    exact ⟨_, rfl, q p kvs H' sm hp dn tb⟩
end

end K44
namespace K44
open PySem L2 Sw
section
variable {P : Program} {w : World} {K : PySem.W.Frag} {mg : Str → Option Value} {base : Heap}
inductive SpNodes (vs : List V) (H : Hp) (Q : VK) : Prop
  | mk (T L : Addr) (us : List V) (ts : List Tm) (ls : List Nat) (z0 : vs = [.ref T, .ref L]) (z1 : H T = some (.lst us)) (z2 : Tms H us ts) (z3 : H L = some (.lst (ls.map nV))) (z4 : TLok ts ls) (z5 : ∀ F kvs H', Same H H' → H F = none → H' F = some (.dK kvs) → Rws H' kvs (rowsF ls (firstsF (ts.map (mk ls)) ts.length)) → Own H kvs → Q (.ref F) H') : SpNodes  vs H Q
noncomputable def spNodes : Sp := fun vs H Q _ => SpNodes  vs H Q
theorem ok_nodes (B : Blt mg) (h_mark : Has P w K mg base 1 "mark" ["term", "leads"] (spMark K)) (D : Def K mg "nodes" s_nodes ["terms", "leads"]) : Has P w K mg base 2 "nodes" ["terms", "leads"] spNodes := by
  refine D.has sc_nodes (fun vs H Q E h => ?_) (fun f cdv A outer s H vs Q E hr h => ?_)
  · obtain ⟨T, L, us, ts, ls, rfl, _⟩ := h; rfl
  obtain ⟨T, L, us, ts, ls, rfl, hT, hts, hL, ok, q⟩ := h
  refine ⟨_, (pss_cons (ps_set (i := 2) sc_nodes.nd rfl (Or.inl rfl) pe_dnewK)
    (pss_cons (ps_set (i := 3) sc_nodes.nd rfl (Or.inl rfl) pe_dnewN)
    (pss_cons (ps_for PassesOwn.never rfl (pi_enum rfl B.enumerate_ (pa_cons (pv 0) pa_nil)) (pg_tup rfl (pgs_cons (pg_name (i := 4) sc_nodes.nd rfl (Or.inl rfl)) (pgs_cons (pg_name (i := 5) sc_nodes.nd rfl (Or.inl rfl)) pgs_nil)))
    (pss_cons (ps_set (i := 6) sc_nodes.nd rfl (Or.inl rfl) (pe_callH h_mark hr (by omega) rfl (pa_cons (pv 5) (pa_cons (pv 1) pa_nil))))
    (pss_one (ps_if (pt_cmp (pc_nnotin (un10 hr) (pv 6) (pv 3)) (by with_unfolding_all rfl)) (pss_cons (ps_nput (un10 hr) (pv 3) (pv 6) pe_bl rfl)
    (pss_one (ps_expr (pe_bm PySem.F.plainAttrs_list PySem.F.slot_list_append PySem.F.type_list_append mt_append (pe_setK (pv 2) (pe_ix ix_list (pv 1) (pv 4) (fun _ _ => rfl)) (pe_lst pa_nil) ⟨rfl, rfl, rfl, rfl⟩) (pa_cons (pv 4) pa_nil))))) pss_nil))))
    (pss_one (ps_ret (pv 2)))))), ?_⟩
  try dsimp only [cxOf]
  have hut := Paired.length hts
  have few := ok.few
  intro F hF
  dsimp only [gName]
  have sF := same_new hF (.dK [])
  have hF0 := upd_same (H := H) (a := F) (o := .dK [])
  generalize upd H F (.dK []) = H0 at sF hF0 ⊢
  intro S φ hS dn0
  dsimp only [gName]
  have hSH : H S = none := sF.free hS
  have sS := sF.trans (same_new hS (.ext φ))
  have hF1 := same_new hS (.ext φ) _ _ hF0
  generalize upd H0 S (.ext φ) = H1 at sS hF1 dn0 ⊢
  refine ⟨_, rfl, T, rfl, ⟨us, SqL.of (sS _ _ hT)⟩, ?_⟩
  refine for_enum (xs := us) (fun i σ H' => ∃ (kvs : List (Key × V)) (sks : List (NK × V)) (x4 x5 x6 : Option V), σ = [some (.ref T), some (.ref L), some (.ref F), some (.ref S), x4, x5, x6] ∧ Same H H' ∧ H' F = some (.dK kvs) ∧ Rws H' kvs (rowsF ls (firstsF (ts.map (mk ls)) i)) ∧ Own H kvs ∧ DN P w H' S sks ∧ SeenOk ts ls i sks)
    ⟨[], [], none, none, none, rfl, sS, hF1, .nil, ⟨List.nodup_nil, fun kv hm => by cases hm⟩, dn0, seen_nil ts ls⟩ ?_ ?_ ?_
  · rintro i σ H' _ ⟨kvs, sks, x4, x5, x6, rfl, sm, _⟩
    exact SqL.of (sm _ _ hT)
  · rintro i x a0 σ H' hx ⟨kvs, sks, x4, x5, x6, rfl, sm, hF', rw', own, dn, sn⟩ ha0
    obtain ⟨t, ht, hx'⟩ := tms_at hts hx
    have hi : i < ts.length := (List.getElem?_eq_some_iff.mp ht).1
    have s1 := same_new ha0 (.tup [.int (i : Int), x])
    have g1 := sm.trans s1
    have dn1 := dn.same s1
    have hF1 := s1 _ _ hF'
    have rw1 := rw'.same s1
    refine ⟨a0, _, rfl, SqT.of upd_same, rfl, _, _, rfl, _, _, rfl, rfl, ?_⟩
    generalize upd H' a0 (.tup [.int (i : Int), x]) = H1 at s1 g1 dn1 hF1 rw1 ⊢
    have hl := ok.len
    have hli : ls[i]? = some (ls.getD i 0) := getD_at (by omega)
    refine ⟨_, rfl, _, rfl, x, t, L, ls, rfl, hx'.same g1, SqL.of (g1 _ _ hL), ok.at ht, fun v' H2 s2 hm => ?_⟩
    dsimp only [gName]
    obtain ⟨b, rfl, nk⟩ := hm.key
    have g2 := g1.trans s2
    have dn2 := dn1.same s2
    have hF2 := s2 _ _ hF1
    have rw2 := rw1.same s2
    have rlen := rows_len ls (firstsF (ts.map (mk ls)) i)
    have flen := firsts_len (ts.map (mk ls)) i
    have klen := Paired.length rw2
    refine ⟨_, rfl, _, rfl, S, b, sks, tmNK (mk ls t), rfl, rfl, dn2, nk, _, rfl, ?_⟩
    rcases seen_iff sn ht with ⟨hv, hnew⟩ | ⟨hv, hnew⟩
    · rw [hv]
      refine iteT ?_
      refine ⟨_, rfl, _, rfl, S, b, sks, tmNK (mk ls t), rfl, rfl, dn2, nk, small1000 (by have := sn.2.2; omega), fun φ3 dn3 => ?_⟩
      obtain ⟨φ0, e0⟩ := dn2.ext
      have g3 : Same H (upd H2 S (.ext φ3)) := fun c o e => by rw [upd_ne (fun z => by rw [z, hSH] at e; cases e)]; exact g2 c o e
      have hF3 : (upd H2 S (.ext φ3)) F = some (.dK kvs) := by rw [upd_ne (ne_of hF2 e0 (fun z => nomatch z))]; exact hF2
      have rw3 : Rws (upd H2 S (.ext φ3)) kvs _ := rw2.updO e0 (fun xs z => nomatch z)
      generalize upd H2 S (.ext φ3) = H3 at g3 hF3 rw3 dn3 ⊢
      refine ⟨_, rfl, F, rfl, .inl ⟨kvs, .inl hF3⟩, _, rfl, _, rfl, L, _, _, _, rfl, rfl, SqL.of (g3 _ _ hL), nV_at hli, Nat.zero_le _, fun N hN => ?_⟩
      have s4 := same_new hN (.lst [])
      have hN4 := upd_same (H := H3) (a := N) (o := .lst [])
      have hNH : H N = none := g3.free hN
      have g4 := g3.trans s4
      have hF4 := s4 _ _ hF3
      have rw4 := rw3.same s4
      have dn4 := dn3.same s4
      have own4 := own.snoc (k := .inl ((ls.getD i 0 : Nat) : Int)) rw3 hN hNH
      generalize upd H3 N (.lst []) = H4 at s4 hN4 g4 hF4 rw4 dn4 ⊢
      have efs : rowsF ls (firstsF (ts.map (mk ls)) (i + 1)) = addR (rowsF ls (firstsF (ts.map (mk ls)) i)) (ls.getD i 0) i := by
        rw [firsts_succ, hnew]
        exact rows_snoc ls _ i
      have nk' := rows_keys ls (firstsF (ts.map (mk ls)) i)
      have small := rows_small ls (firstsF (ts.map (mk ls)) i)
      generalize rowsF ls (firstsF (ts.map (mk ls)) i) = ps at rw4 efs nk' small rlen klen
      have sn' := seen_put (V.bl true) sn ht
      refine ⟨kvs, .inl ((ls.getD i 0 : Nat) : Int), hF4, rfl, small1000 (by omega), fun v hval => ?_, fun hnone => ?_⟩
      · rcases rw4.look (ls.getD i 0) with ⟨e, _⟩ | ⟨a, zs, e, el, ha⟩
        · rw [hval] at e; cases e
        · have ev : v = .ref a := Option.some.inj (hval.symm.trans e)
          subst ev
          have haH := own.fresh (val_mem hval)
          have hsz : zs.length ≤ 900 := by have := small _ (lookR_mem el); show zs.length ≤ 900; simp only at this; omega
          refine ⟨.inl ⟨rfl, _, SqL.of ha⟩, _, rfl, a, _, _, rfl, rfl, ha, small1000 (by rw [List.length_map]; omega), ?_⟩
          have egr := rw4.grow (zs := zs ++ [i]) own.1 nk' hval
          have eL : (zs ++ [i]).map nV = zs.map nV ++ [nV i] := by rw [List.map_append]; rfl
          rw [eL] at egr
          refine ⟨kvs, putK sks (tmNK (mk ls t)) (.bl true), _, _, _, rfl, ?_, ?_, ?_, own, Sw.DN.updO (P := P) (w := w) dn4 ha (fun φ z => nomatch z) (fun ys z => nomatch z), sn'⟩
          · exact fun c o e => by rw [upd_ne (fun z => by rw [z, haH] at e; cases e)]; exact g4 c o e
          · rw [upd_ne (ne_of hF4 ha (fun z => nomatch z))]; exact hF4
          · rw [efs]
            unfold addR
            rw [el]
            exact egr
      · rcases rw4.look (ls.getD i 0) with ⟨e, el⟩ | ⟨a, zs, e, el, ha⟩
        · have hN5 : (upd H4 F (.dK (kvs ++ [(.inl ((ls.getD i 0 : Nat) : Int), .ref N)]))) N = some (.lst []) := by rw [upd_ne (ne_of hN4 hF4 (fun z => nomatch z))]; exact hN4
          refine ⟨.inl ⟨rfl, _, SqL.of hN5⟩, _, rfl, N, _, _, rfl, rfl, hN5, small1000 (Nat.zero_le _), ?_⟩
          refine ⟨kvs ++ [(.inl ((ls.getD i 0 : Nat) : Int), .ref N)], putK sks (tmNK (mk ls t)) (.bl true), _, _, _, rfl, ?_, ?_, ?_, own4, ?_, sn'⟩
          · exact fun c o e => by rw [upd_ne (fun z => by rw [z, hNH] at e; cases e), upd_ne (fun z => by rw [z, hF] at e; cases e)]; exact g4 c o e
          · rw [upd_ne (ne_of upd_same hN5 (fun z => nomatch z)), upd_same]
          · rw [efs]
            unfold addR putR
            have hany : (ps.any fun p => decide (p.1 = ls.getD i 0)) = false := by rw [← rw4.any, valV_any, hnone]; rfl
            rw [hany, el]
            have r5 : Rws (upd (upd H4 F (.dK (kvs ++ [(.inl ((ls.getD i 0 : Nat) : Int), .ref N)]))) N (.lst ([] ++ [V.int (i : Int)]))) kvs ps := (rw4.updO hF4 (fun xs z => nomatch z)).keep fun l xs ⟨kv, hm, e2⟩ e3 => by
              obtain ⟨l', e4, hl4⟩ := own.2 kv hm
              rw [e2] at e4
              cases e4
              rw [upd_ne (fun z => ?_)]
              · exact e3
              · subst z
                have : ∀ {kvs : List (Key × V)} {ps : List Row}, Rws H3 kvs ps → (∃ kv ∈ kvs, kv.2 = .ref l) → False := by
                  intro kvs ps r
                  induction r with
                  | nil => rintro ⟨kv, hm, _⟩; cases hm
                  | @cons kv p kvs ps q t ih =>
                    rintro ⟨kv', hm, e⟩
                    rcases List.mem_cons.mp hm with rfl | hm
                    · obtain ⟨_, l', e2, hl⟩ := q
                      rw [e] at e2
                      cases e2
                      rw [hN] at hl
                      cases hl
                    · exact ih ⟨kv', hm, e⟩
                exact this rw3 ⟨kv, hm, e2⟩
            exact Paired.snoc r5 ⟨rfl, N, rfl, upd_same⟩
          · exact Sw.DN.updO (P := P) (w := w) (Sw.DN.updO (P := P) (w := w) dn4 hF4 (fun φ z => nomatch z) (fun ys z => nomatch z)) hN5 (fun φ z => nomatch z) (fun ys z => nomatch z)
        · rw [hnone] at e; cases e
    · obtain ⟨v, hv'⟩ := Option.isSome_iff_exists.mp hv
      rw [hv']
      refine iteF ⟨kvs, sks, _, _, _, rfl, g2, hF2, ?_, own, dn2, seen_skip sn ht hv⟩
      rw [firsts_succ, hnew]
      show Rws H2 kvs (rowsF ls (firstsF (ts.map (mk ls)) i ++ []))
      rw [List.append_nil]
      exact rw2
  · rintro σ H' ⟨kvs, sks, x4, x5, x6, rfl, sm, hF', rw', own, dn, sn⟩
    rw [hut] at rw'
    exact ⟨_, rfl, q F kvs H' sm hF hF' rw' own⟩
end

end K44
namespace K44
open PySem L2 Sw
section
variable {P : Program} {w : World} {K : PySem.W.Frag} {mg : Str → Option Value} {base : Heap}
noncomputable def enc (b : Bd) : List (Key × V) := b.map fun p => ((.inr p.1 : Key), nV p.2)
theorem enc_val : ∀ (b : Bd) (x : Str), valV (enc b) (.inr x) = (look b x).map nV
  | [], x => rfl
  | p :: r, x => by
    rw [look]
    show valV (((.inr p.1 : Key), nV p.2) :: enc r) (.inr x) = _
    by_cases e : p.1 = x
    · rw [if_pos e, valV_pos (by rw [e])]; rfl
    · rw [if_neg e, valV_neg (fun z => e (Sum.inr.inj z)), enc_val r x]
theorem enc_put {b : Bd} {x : Str} {l : Nat} (h : look b x = none) : putK (enc b) (.inr x) (nV l) = enc (b ++ [(x, l)]) := by
  rw [putK_new _ (by rw [enc_val, h]; rfl)]
  unfold enc
  rw [List.map_append]; rfl
noncomputable def WaysAt (H : Hp) (vs : List V) (ws : List Bd) : Prop := Paired (fun v b => ∃ g, v = V.ref g ∧ H g = some (.dK (enc b))) vs ws
inductive SpHole (vs : List V) (H : Hp) (Q : VK) : Prop
  | mk (lead : Nat) (x : Str) (G : Addr) (b : Bd) (z0 : vs = [nV lead, .str x, .ref G]) (z1 : H G = some (.dK (enc b))) (z2 : b.length ≤ 900) (z3 : ∀ R us H', Same H H' → H R = none → H' R = some (.lst us) → WaysAt H' us (holeW lead x b) → Q (.ref R) H') : SpHole vs H Q
noncomputable def spHole : Sp := fun vs H Q _ => SpHole vs H Q
theorem ok_hole_ways (b_dict : mg "dict" = none) (D : Def K mg "hole_ways" s_hole_ways ["lead", "hole", "binds"]) : Has P w K mg base 1 "hole_ways" ["lead", "hole", "binds"] spHole := by
  refine D.has sc_hole_ways (fun vs H Q E h => ?_) (fun f cdv A outer s H vs Q E hr h => ?_)
  · obtain ⟨lead, x, G, b, rfl, _⟩ := h; rfl
  obtain ⟨lead, x, G, b, rfl, hG, hb, q⟩ := h
  refine ⟨_, (pss_cons (ps_if (pt_cmp (pc_din (hu_of hr) (pv 1) (pv 2)) (by with_unfolding_all rfl)) (pss_one (ps_ret (pe_ifExp (pt_cmpR op_eq (pe_dget (hu_of hr) (pv 2) (pv 1) (fun _ _ => rfl)) (pv 0) (nomark _)) (pe_lst (pa_cons (pv 2) pa_nil)) (pe_lst pa_nil)))) pss_nil)
    (pss_cons (ps_set (i := 3) sc_hole_ways.nd rfl (Or.inl rfl) (pe_callTy call_dictK rfl b_dict boot_dict_ (pa_cons (pv 2) pa_nil)))
    (pss_cons (ps_dput (hu_of hr) (pv 3) (pv 1) (pv 0) rfl)
    (pss_one (ps_ret (pe_lst (pa_cons (pv 3) pa_nil))))))), ?_⟩
  try dsimp only [cxOf]
  have hg := DGet.k (k := (.inr x : Key)) hG
  rw [enc_val] at hg
  unfold holeW at q
  refine ⟨_, rfl, _, rfl, G, _, rfl, hg, _, rfl, ?_⟩
  cases e : look b x with
  | some l =>
    rw [e] at hg q
    refine iteT ?_
    dsimp only at q
    refine ⟨_, rfl, _, rfl, G, _, rfl, hg, _, rfl, rfl, _, rfl, iteD (fun el => ?_) (fun el => ?_)⟩
    · have el' : l = lead := by have := V.int.inj el; omega
      rw [if_pos el'] at q
      refine ⟨_, rfl, (show 1 ≤ sizeLine by decide), fun R hR => q R _ _ (same_new hR _) hR upd_same (.cons ⟨G, rfl, same_new hR _ _ _ hG⟩ .nil)⟩
    · have el' : l ≠ lead := fun z => el (by rw [z])
      rw [if_neg el'] at q
      exact ⟨Nat.zero_le _, fun R hR => q R _ _ (same_new hR _) hR upd_same .nil⟩
  | none =>
    rw [e] at q
    refine iteF ?_
    dsimp only at q
    refine ⟨_, rfl, G, _, rfl, hG, fun M hM => ?_⟩
    dsimp only [gName]
    have hel : (enc b).length = b.length := by unfold enc; rw [List.length_map]
    refine ⟨_, rfl, _, rfl, _, rfl, M, _, rfl, DPut.k (k := .inr x) upd_same (small1000 (by omega)), ?_⟩
    have s1 : Same H (upd (upd H M (.dK (enc b))) M (.dK (putK (enc b) (.inr x) (nV lead)))) := fun c o h => by rw [upd_ne (ne_of_none h hM), upd_ne (ne_of_none h hM)]; exact h
    have hM1 := upd_same (H := upd H M (.dK (enc b))) (a := M) (o := .dK (putK (enc b) (.inr x) (nV lead)))
    generalize upd (upd H M (.dK (enc b))) M (.dK (putK (enc b) (.inr x) (nV lead))) = H1 at s1 hM1 ⊢
    rw [enc_put e] at hM1
    refine ⟨_, rfl, (show 1 ≤ sizeLine by decide), fun R hR => q R _ _ (s1.trans (same_new hR _)) ?_ upd_same (.cons ⟨M, rfl, same_new hR _ _ _ hM1⟩ .nil)⟩
    cases e2 : H R with
    | none => rfl
    | some o => have := s1 _ _ e2; rw [hR] at this; cases this
end

end K44
namespace K44
open PySem L2 Sw
section
variable {P : Program} {w : World} {K : PySem.W.Frag} {mg : Str → Option Value} {base : Heap} {CM : Addr}
theorem nat_ints : ∀ {ns : List Int} {fs : List Nat}, ns.Perm (fs.map fun n : Nat => (n : Int)) → (ns.map Int.toNat).Perm fs ∧ ns.map V.int = (ns.map Int.toNat).map nV := fun {ns fs} h => by
  refine ⟨?_, ?_⟩
  · have := h.map Int.toNat
    rw [List.map_map] at this
    refine this.trans (List.Perm.of_eq ((List.map_congr_left fun n _ => ?_).trans (List.map_id _)))
    exact Int.toNat_natCast n
  · rw [List.map_map]
    refine List.map_congr_left fun n hn => ?_
    obtain ⟨m, _, rfl⟩ := List.mem_map.mp (h.mem_iff.mp hn)
    rfl
theorem rise_of {ns' : List Int} {ms : List Tm} {n : Nat} (so : ns'.Pairwise (· ≤ ·)) (pm : (ns'.map Int.toNat).Perm (firstsF ms n)) : (ns'.map Int.toNat).Pairwise (· < ·) := by
  have nd : (ns'.map Int.toNat).Nodup := pm.nodup_iff.mpr (firsts_nodup _ _)
  have le : (ns'.map Int.toNat).Pairwise (· ≤ ·) := by
    rw [List.pairwise_map]
    exact so.imp fun {a b} h => by omega
  exact (List.Pairwise.and le nd).imp fun {a b} h => Nat.lt_of_le_of_ne h.1 h.2
inductive SpNums (vs : List V) (H : Hp) (Q : VK) : Prop
  | mk (T L : Addr) (us : List V) (ts : List Tm) (ls : List Nat) (z0 : vs = [.ref T, .ref L]) (z1 : H T = some (.lst us)) (z2 : Tms H us ts) (z3 : H L = some (.lst (ls.map nV))) (z4 : TLok ts ls) (z5 : ts.length ≤ 60)
    (z6 : ∀ (R : Addr) (ns : List Nat) (H' : Hp), Same H H' → H R = none → H' R = some (.lst (ns.map nV)) → ns.Perm (firstsF (ts.map (mk ls)) ts.length) → ns.Pairwise (· < ·) → Q (.ref R) H') : SpNums vs H Q
noncomputable def spNums : Sp := fun vs H Q _ => SpNums vs H Q
inductive NnI (T L Fd F : Addr) (o : Obj) (H H0 : Hp) (kvs : List (Key × V)) (ps : List Row) (i : Nat) (σ : St) (H' : Hp) : Prop
  | mk (x3 : Option V) : (σ = [some (.ref T), some (.ref L), some (.ref Fd), x3]) → Same H H' → H' F = some (Ext F o) → H' Fd = some (.lst (((ps.take i).flatMap (·.2)).map nV)) → Rws H' kvs ps → NnI T L Fd F o H H0 kvs ps i σ H'
theorem ok_node_numbers (b_sorted : mg "sorted" = none) (h_nodes : Has P w K mg base 2 "nodes" ["terms", "leads"] spNodes) (D : Def K mg "node_numbers" s_node_numbers ["terms", "leads"]) : Has P w K mg base 3 "node_numbers" ["terms", "leads"] spNums := by
  refine D.has sc_node_numbers (fun vs H Q E h => ?_) (fun f cdv A outer s H vs Q E hr h => ?_)
  · obtain ⟨T, L, us, ts, ls, rfl, _⟩ := h; rfl
  obtain ⟨T, L, us, ts, ls, rfl, hT, hts, hL, ok, few, q⟩ := h
  refine ⟨_, (pss_cons (ps_set (i := 2) sc_node_numbers.nd rfl (Or.inl rfl) (pe_lst pa_nil))
    (pss_cons (ps_for PassesOwn.never rfl (pi_vals (pe_callH h_nodes hr (by omega) rfl (pa_cons (pv 0) (pa_cons (pv 1) pa_nil)))) (pg_name (i := 3) sc_node_numbers.nd rfl (Or.inl rfl))
    (pss_one (ps_expr (pe_bm PySem.F.plainAttrs_list PySem.F.slot_list_extend PySem.F.type_list_extend mt_extend (pv 2) (pa_cons (pv 3) pa_nil)))))
    (pss_one (ps_ret (pe_callB call_sortedL rfl b_sorted boot_sorted_ (pa_cons (pv 2) pa_nil)))))), ?_⟩
  try dsimp only [cxOf]
  refine ⟨Nat.zero_le _, fun Fd hFd => ?_⟩
  dsimp only [gName]
  have s0 := same_new hFd (.lst [])
  have hF0 := upd_same (H := H) (a := Fd) (o := .lst [])
  generalize upd H Fd (.lst []) = H0 at s0 hF0 ⊢
  refine ⟨_, rfl, _, rfl, T, L, us, ts, ls, rfl, s0 _ _ hT, tms_same s0 hts, s0 _ _ hL, ok, fun F kvs H1 s1 hF hF1 rw1 own => ?_⟩
  refine ⟨F, kvs, rfl, hF1, fun o _ => ?_⟩
  have sF : Same H0 (upd H1 F (Ext F o)) := s1.put hF
  have hFd1 : (upd H1 F (Ext F o)) Fd = some (.lst []) := sF _ _ hF0
  have rwF : Rws (upd H1 F (Ext F o)) kvs _ := rw1.updO hF1 (fun xs z => nomatch z)
  have g1 := s0.trans sF
  have hFo := upd_same (H := H1) (a := F) (o := Ext F o)
  generalize upd H1 F (Ext F o) = H2 at sF hFd1 rwF g1 hFo ⊢
  have perm := rows_perm ls (ts.map (mk ls)) ts.length
  have fl := firsts_len (ts.map (mk ls)) ts.length
  generalize rowsF ls (firstsF (ts.map (mk ls)) ts.length) = ps at rw1 rwF perm
  have klen := Paired.length rwF
  have tot := perm.length_eq
  have split : ∀ i, ((ps.take i).flatMap (·.2)).length + ((ps.drop i).flatMap (·.2)).length = (ps.flatMap (·.2)).length := fun i => by
    rw [← List.length_append, ← List.flatMap_append, List.take_append_drop]
  refine for_vals (NnI T L Fd F o H H0 kvs ps) ⟨none, rfl, g1, hFo, hFd1, rwF⟩ ?_ ?_ ?_
  · rintro i σ H' _ ⟨x3, rfl, sm, hFo', _⟩
    exact hFo'
  · rintro i kv σ H' hkv ⟨x3, rfl, sm, hFo', hFd', rw'⟩
    obtain ⟨p, hp, ek, l, el, hl⟩ := Paired.at rw' hkv
    have hm := List.mem_of_getElem? hkv
    obtain ⟨l', el', hl0⟩ := own.2 kv hm
    have e2 : (ps.take (i + 1)).flatMap (·.2) = (ps.take i).flatMap (·.2) ++ p.2 := by rw [List.take_add_one, hp, List.flatMap_append]; show _ ++ (p.2 ++ []) = _; rw [List.append_nil]
    have hb := split (i + 1)
    rw [e2, List.length_append] at hb
    have hlF : ∀ kv' ∈ kvs, kv'.2 ≠ .ref Fd := fun kv' hk z => by
      obtain ⟨l2, e3, h3⟩ := own.2 kv' hk
      rw [z] at e3; cases e3
      rw [hF0] at h3; cases h3
    refine ⟨_, rfl, .inl ⟨rfl, _, SqL.of hFd'⟩, _, rfl, Fd, l, _, _, rfl, by rw [el], hFd', hl, ?_, ⟨_, rfl, sm.put hFd, ?_, ?_, rw'.keep fun l2 xs ⟨kv', hk, e3⟩ h3 => ?_⟩⟩
    · rw [List.length_map, List.length_map]; exact Nat.le_of_lt (small1000 (n := _ + _) (by omega))
    · rw [upd_ne (ne_of hFo' hFd' (fun z => nomatch z))]; exact hFo'
    · rw [upd_same, e2, List.map_append]
    · rw [upd_ne (fun z => hlF kv' hk (by rw [e3, z]))]; exact h3
  · rintro σ H' ⟨x3, rfl, sm, hFo', hFd', rw'⟩
    rw [klen, List.take_length] at hFd'
    have e : (ps.flatMap (·.2)).map nV = ((ps.flatMap (·.2)).map fun n : Nat => (n : Int)).map V.int := by rw [List.map_map]; rfl
    refine ⟨_, rfl, Fd, (ps.flatMap (·.2)).map fun n : Nat => (n : Int), rfl, by rw [← e]; exact SqL.of hFd', by rw [List.length_map]; omega, fun ns' l pm so hl => ?_⟩
    obtain ⟨p1, p2⟩ := nat_ints pm
    rw [p2]
    exact q l _ _ (sm.trans (same_new hl _)) (sm.free hl) upd_same (p1.trans perm) (rise_of so (p1.trans perm))
structure TopMt (K : PySem.W.Frag) (mg : Str → Option Value) (CM : Addr) : Prop where
  cM : Cls K CM
  nTerms : NoAttr K CM "terms"
  nLeads : NoAttr K CM "leads"
  nTable : NoAttr K CM "table"
  nHeads : NoAttr K CM "heads"
structure MatAt (P : Program) (w : World) (CM : Addr) (H : Hp) (a dx T L S F : Addr) (us : List V) (ts : List Tm) (ls : List Nat) (tks : List (NK × V)) (kvs : List (Key × V)) : Prop where
  ins : H a = some (.ins CM dx [("terms", .ref T), ("leads", .ref L), ("table", .ref S), ("heads", .ref F)])
  hT : H T = some (.lst us)
  tms : Tms H us ts
  hL : H L = some (.lst (ls.map nV))
  dn : DN P w H S tks
  tab : TabOk ts ls ts.length tks
  hF : H F = some (.dK kvs)
  rows : Rws H kvs (rowsF ls (firstsF (ts.map (mk ls)) ts.length))
theorem MatAt.same {H H' : Hp} {a dx T L S F : Addr} {us : List V} {ts : List Tm} {ls : List Nat} {tks : List (NK × V)} {kvs : List (Key × V)} (h : MatAt P w CM H a dx T L S F us ts ls tks kvs) (sm : Same H H') : MatAt P w CM H' a dx T L S F us ts ls tks kvs :=
  ⟨sm _ _ h.ins, sm _ _ h.hT, tms_same sm h.tms, sm _ _ h.hL, h.dn.same sm, h.tab, sm _ _ h.hF, h.rows.same sm⟩
theorem tab_val {ts : List Tm} {ls : List Nat} {tks : List (NK × V)} (h : TabOk ts ls ts.length tks) (m : Tm) : valV tks (tmNK m) = (tabF ts ls m).map nV := by
  unfold tabF
  cases q : posF (ts.map (mk ls)) m with
  | none =>
    cases e : valV tks (tmNK m) with
    | none => rfl
    | some v =>
      obtain ⟨i, t, hi, ht, ek⟩ := h.2.1 _ _ e
      have := tmNK_inj ek
      exact absurd (by rw [this]; exact List.mem_map.mpr ⟨t, List.mem_of_getElem? ht, rfl⟩) (pos_none.mp q)
  | some i =>
    have h1 := pos_at q
    rw [List.getElem?_map] at h1
    obtain ⟨t, ht, em⟩ := Option.map_eq_some_iff.mp h1
    rw [← em, h.1 i t (List.getElem?_eq_some_iff.mp ht).1 ht]; rfl
inductive SpMinit (P : Program) (w : World) (CM : Addr) (vs : List V) (H : Hp) (Q : VK) : Prop
  | mk (a dx T L : Addr) (us : List V) (ts : List Tm) (ls : List Nat) (z0 : vs = [.ref a, .ref T, .ref L]) (z : H a = some (.ins CM dx [])) (z1 : H T = some (.lst us)) (z2 : Tms H us ts) (z3 : H L = some (.lst (ls.map nV))) (z4 : TLok ts ls)
    (z6 : ∀ H' S F tks kvs, But a H H' → MatAt P w CM H' a dx T L S F us ts ls tks kvs → Q .non H') : SpMinit P w CM vs H Q
noncomputable def spMinit (P : Program) (w : World) (CM : Addr) : Sp := fun vs H Q _ => SpMinit P w CM vs H Q
theorem ok_minit (Z : TopMt K mg CM) (h_marks : Has P w K mg base 2 "marks" ["terms", "leads"] (spMarks P w)) (h_nodes : Has P w K mg base 2 "nodes" ["terms", "leads"] spNodes) (D : DefC K mg "Matcher" CM "Matcher.__init__" s_minit ["self", "terms", "leads"]) :
    HasC P w K mg base 3 "Matcher" CM ["self", "terms", "leads"] (spMinit P w CM) := by
  refine D.has sc_minit (fun vs H Q E h => ?_) (fun f cdv A outer s H vs Q E hr h => ?_)
  · obtain ⟨a, dx, T, L, us, ts, ls, rfl, _⟩ := h; rfl
  obtain ⟨a, dx, T, L, us, ts, ls, rfl, ha, hT, hts, hL, ok, q⟩ := h
  refine ⟨_, (pss_cons (ps_fld (pv 0) (pv 1) rfl)
    (pss_cons (ps_fld (pv 0) (pv 2) rfl)
    (pss_cons (ps_fld (pv 0) (pe_callH h_marks hr (by omega) rfl (pa_cons (pv 1) (pa_cons (pv 2) pa_nil))) rfl)
    (pss_one (ps_fld (pv 0) (pe_callH h_nodes hr (by omega) rfl (pa_cons (pv 1) (pa_cons (pv 2) pa_nil))) rfl))))), ?_⟩
  try dsimp only [cxOf]
  have bs : ∀ {H0 : Hp} {o : HO}, But a H H0 → But a H (upd H0 a o) := fun b => b.put
  have aT : T ≠ a := ne_of hT ha (fun z => nomatch z)
  have aL : L ≠ a := ne_of hL ha (fun z => nomatch z)
  have tt : ∀ {H0 : Hp}, But a H H0 → Tms H0 us ts := fun b => tms_keep (fun c ys e => b c _ (ne_of e ha (fun z => nomatch z)) e) hts
  refine ⟨_, rfl, _, rfl, a, CM, dx, _, rfl, ha, Z.cM, Z.nTerms, by decide, ?_⟩
  have b1 : But a H (upd H a (.ins CM dx (putF "terms" (.ref T) []))) := (But.refl a H).put
  have i1 := upd_same (H := H) (a := a) (o := .ins CM dx (putF "terms" (.ref T) []))
  refine ⟨_, rfl, _, rfl, a, CM, dx, [("terms", .ref T)], rfl, i1, Z.cM, Z.nLeads, (show 1 < 1000 by decide), ?_⟩
  have b2 : But a H (upd (upd H a (.ins CM dx (putF "terms" (.ref T) []))) a (.ins CM dx (putF "leads" (.ref L) [("terms", .ref T)]))) := bs b1
  have i2 : (upd (upd H a (.ins CM dx (putF "terms" (.ref T) []))) a (.ins CM dx (putF "leads" (.ref L) [("terms", .ref T)]))) a = some (.ins CM dx [("terms", .ref T), ("leads", .ref L)]) := upd_same
  generalize upd (upd H a (.ins CM dx (putF "terms" (.ref T) []))) a (.ins CM dx (putF "leads" (.ref L) [("terms", .ref T)])) = H2 at b2 i2 ⊢
  refine ⟨_, rfl, _, rfl, T, L, us, ts, ls, rfl, b2 _ _ aT hT, tt b2, b2 _ _ aL hL, ok, fun S tks H3 s3 hS dn tb => ?_⟩
  have i3 := s3 _ _ i2
  have b3 : But a H H3 := fun c o n e => s3 _ _ (b2 _ _ n e)
  refine ⟨_, rfl, a, CM, dx, [("terms", .ref T), ("leads", .ref L)], rfl, i3, Z.cM, Z.nTable, (show 2 < 1000 by decide), ?_⟩
  have b4 : But a H (upd H3 a (.ins CM dx (putF "table" (.ref S) [("terms", .ref T), ("leads", .ref L)]))) := bs b3
  have i4 : (upd H3 a (.ins CM dx (putF "table" (.ref S) [("terms", .ref T), ("leads", .ref L)]))) a = some (.ins CM dx [("terms", .ref T), ("leads", .ref L), ("table", .ref S)]) := upd_same
  have dn4 : DN P w (upd H3 a (.ins CM dx (putF "table" (.ref S) [("terms", .ref T), ("leads", .ref L)]))) S tks := Sw.DN.updO (P := P) (w := w) dn i3 (fun φ z => nomatch z) (fun ys z => nomatch z)
  generalize upd H3 a (.ins CM dx (putF "table" (.ref S) [("terms", .ref T), ("leads", .ref L)])) = H4 at b4 i4 dn4 ⊢
  refine ⟨_, rfl, _, rfl, T, L, us, ts, ls, rfl, b4 _ _ aT hT, tt b4, b4 _ _ aL hL, ok, fun F kvs H5 s5 hF hF5 rw5 own => ?_⟩
  have i5 := s5 _ _ i4
  have b5 : But a H H5 := fun c o n e => s5 _ _ (b4 _ _ n e)
  have dn5 := dn4.same s5
  refine ⟨_, rfl, a, CM, dx, [("terms", .ref T), ("leads", .ref L), ("table", .ref S)], rfl, i5, Z.cM, Z.nHeads, (show 3 < 1000 by decide), ?_⟩
  have b6 : But a H (upd H5 a (.ins CM dx (putF "heads" (.ref F) [("terms", .ref T), ("leads", .ref L), ("table", .ref S)]))) := bs b5
  refine q _ S F tks kvs b6 ⟨upd_same, b6 _ _ aT hT, tt b6, b6 _ _ aL hL, Sw.DN.updO (P := P) (w := w) dn5 i5 (fun φ z => nomatch z) (fun ys z => nomatch z), tb, ?_, rw5.updO i5 (fun xs z => nomatch z)⟩
  rw [upd_ne (ne_of hF5 i5 (fun z => nomatch z))]; exact hF5
end

end K44
namespace K44
open PySem L2 Sw
section
variable {P : Program} {w : World} {K : PySem.W.Frag} {mg : Str → Option Value} {base : Heap} {CM : Addr}
theorem hols_app : ∀ (xs ys : List T), T.hols (xs ++ ys) = T.hols xs ++ T.hols ys
  | [], ys => rfl
  | x :: xs, ys => by rw [List.cons_append, T.hols, T.hols, hols_app xs ys, List.append_assoc]
theorem kns_app : ∀ (xs ys : List T), T.kns (xs ++ ys) = T.kns xs + T.kns ys
  | [], ys => by rw [List.nil_append, T.kns, Nat.zero_add]
  | x :: xs, ys => by rw [List.cons_append, T.kns, T.kns, kns_app xs ys, Nat.add_assoc]
theorem arm_part {ps : List T} {p : T} {i : Nat} (h : ps[i]? = some p) : (T.hols (ps.take i)).length + p.hol.length ≤ (T.hols ps).length ∧ T.kns (ps.take i) + p.kn ≤ T.kns ps := by
  have hl := (List.getElem?_eq_some_iff.mp h).1
  have e : ps = ps.take i ++ (p :: ps.drop (i + 1)) := by
    conv => lhs; rw [← List.take_append_drop i ps]
    rw [List.drop_eq_getElem_cons hl, (List.getElem?_eq_some_iff.mp h).2]
  have e1 := congrArg (fun z => (T.hols z).length) e
  have e2 := congrArg T.kns e
  simp only [hols_app, kns_app, T.hols, T.kns, List.length_append] at e1 e2
  exact ⟨by omega, by omega⟩
theorem ways_same {H H' : Hp} {vs : List V} {ws : List Bd} (h : WaysAt H vs ws) (sm : Same H H') : WaysAt H' vs ws := Paired.mapP h fun v b ⟨g, e, hg⟩ => ⟨g, e, sm _ _ hg⟩
theorem ways_upd {H : Hp} {R : Addr} {us us' : List V} {vs : List V} {ws : List Bd} (h : WaysAt H vs ws) (hR : H R = some (.lst us)) : WaysAt (upd H R (.lst us')) vs ws := Paired.mapP h fun v b ⟨g, e, hg⟩ => ⟨g, e, by rw [upd_ne (ne_of hg hR (fun z => nomatch z))]; exact hg⟩
theorem flat_split {α β : Type} (f : α → List β) (l : List α) (i : Nat) : ((l.take i).flatMap f).length ≤ (l.flatMap f).length := by
  have e : ((l.take i).flatMap f).length + ((l.drop i).flatMap f).length = (l.flatMap f).length := by rw [← List.length_append, ← List.flatMap_append, List.take_append_drop]
  omega
theorem flat_step {α β : Type} (f : α → List β) {l : List α} {i : Nat} {x : α} (h : l[i]? = some x) : (l.take (i + 1)).flatMap f = (l.take i).flatMap f ++ f x := by
  rw [List.take_add_one, h, List.flatMap_append]
  show _ ++ (f x ++ []) = _
  rw [List.append_nil]
theorem line_of {n : Nat} (h : n ≤ 1000000) : n ≤ sizeLine := Nat.le_trans h (by decide)
inductive SpTW (P : Program) (w : World) (CM : Addr) (n : Nat) (vs : List V) (H : Hp) (Q : VK) : Prop
  | mk (a dx Ta L S F : Addr) (us : List V) (ts : List Tm) (ls : List Nat) (tks : List (NK × V)) (kvs : List (Key × V)) (k : Nat) (v : V) (x : Str) (ps : List T) (G : Addr) (b : Bd)
    (z0 : vs = [.ref a, nV k, v, .ref G]) (z1 : MatAt P w CM H a dx Ta L S F us ts ls tks kvs) (z2 : TLok ts ls) (z3 : k < ts.length) (z4 : IsTr H (.of x ps) v) (z5 : T.deepest ps ≤ n) (z6 : H G = some (.dK (enc b))) (z7 : b.length + (T.hols ps).length ≤ 900)
    (z8 : ts.length ^ T.kns ps ≤ 1000000) (z9 : ∀ R us' H', Same H H' → H R = none → H' R = some (.lst us') → WaysAt H' us' (teW ts ls k x ps b) → Q (.ref R) H') : SpTW P w CM n vs H Q
noncomputable def spTW (P : Program) (w : World) (CM : Addr) (n : Nat) : Sp := fun vs H Q _ => SpTW P w CM n vs H Q
inductive SpCW (P : Program) (w : World) (CM : Addr) (n : Nat) (vs : List V) (H : Hp) (Q : VK) : Prop
  | mk (a dx Ta L S F : Addr) (us : List V) (ts : List Tm) (ls : List Nat) (tks : List (NK × V)) (kvs : List (Key × V)) (j : Nat) (v : V) (p : T) (G : Addr) (b : Bd)
    (z0 : vs = [.ref a, nV (ls.getD j 0), v, .ref G]) (z1 : MatAt P w CM H a dx Ta L S F us ts ls tks kvs) (z2 : TLok ts ls) (z3 : j < ts.length) (z4 : IsTr H p v) (z5 : p.depth ≤ n) (z6 : H G = some (.dK (enc b))) (z7 : b.length + p.hol.length ≤ 900)
    (z8 : ts.length ^ p.kn ≤ 1000000) (z9 : ∀ R us' H', Same H H' → H R = none → H' R = some (.lst us') → WaysAt H' us' (clW ts ls (hdF ts ls) p (ls.getD j 0) b) → Q (.ref R) H') : SpCW P w CM n vs H Q
noncomputable def spCW (P : Program) (w : World) (CM : Addr) (n : Nat) : Sp := fun vs H Q _ => SpCW P w CM n vs H Q
inductive CwI (H : Hp) (s0 s1 s2 s3 : V) (W : Addr) (f : Nat → List Bd) (zs : List Nat) (i : Nat) (σ : St) (H' : Hp) : Prop
  | mk (x5 : Option V) (us : List V) : (σ = [some s0, some s1, some s2, some s3, some (.ref W), x5]) → Same H H' → H' W = some (.lst us) → WaysAt H' us ((zs.take i).flatMap f) → CwI H s0 s1 s2 s3 W f zs i σ H'
theorem ok_class_ways {n : Nat} (B : Blt mg) (Z : TopMt K mg CM) (h_hole_ways : Has P w K mg base 1 "hole_ways" ["lead", "hole", "binds"] spHole) (h_term_ways : HasM P w K mg base (2 * n + 3) CM "term_ways" ["self", "k", "pattern", "binds"] (spTW P w CM n))
    (D : DefM K CM "class_ways" "Matcher.class_ways" s_class_ways ["self", "lead", "pattern", "binds"]) : HasM P w K mg base (2 * n + 4) CM "class_ways" ["self", "lead", "pattern", "binds"] (spCW P w CM (n + 1)) := by
  have cM := Z.cM
  refine D.has sc_class_ways (fun vs H Q E h => ?_) (fun f cdv A outer s H vs Q E hr h => ?_)
  · obtain ⟨a, dx, Ta, L, S, F, us, ts, ls, tks, kvs, j, v, p, G, b, rfl, _⟩ := h; rfl
  obtain ⟨a, dx, Ta, L, S, F, us, ts, ls, tks, kvs, j, v, p, G, b, rfl, hM, ok, hj, hT, hd, hG, hb, hz, q⟩ := h
  refine ⟨_, (pss_cons (ps_if (pt_cmpR op_eq (pe_ix ix_tup (pv 2) pe_int (fun _ _ => rfl)) pe_str (nomark _)) (pss_one (ps_ret (pe_callH h_hole_ways hr (by omega) rfl (pa_cons (pv 1) (pa_cons (pe_ix ix_tup (pv 2) pe_int (fun _ _ => rfl)) (pa_cons (pv 3) pa_nil)))))) pss_nil)
    (pss_cons (ps_if (pt_cmpR op_ne (pe_ix ix_tup (pv 2) pe_int (fun _ _ => rfl)) pe_str (nomark _)) (pss_one (ps_ret (pe_ifExp (pt_cmpR op_eq (pe_nget1 (un10 hr) (pe_fld (pv 0) rfl) (pv 2) ⟨rfl, rfl, rfl, rfl⟩) (pv 1) (nomark _)) (pe_lst (pa_cons (pv 3) pa_nil)) (pe_lst pa_nil)))) pss_nil)
    (pss_cons (ps_set (i := 4) sc_class_ways.nd rfl (Or.inl rfl) (pe_lst pa_nil))
    (pss_cons (ps_for PassesOwn.leaving rfl (pi_list (pe_dget (hu_of hr) (pe_fld (pv 0) rfl) (pv 1) (fun _ _ => rfl))) (pg_name (i := 5) sc_class_ways.nd rfl (Or.inl rfl))
    (pss_one (ps_expr (pe_bm PySem.F.plainAttrs_list PySem.F.slot_list_extend PySem.F.type_list_extend mt_extend (pv 4) (pa_cons (pe_mE h_term_ways cM hr (by omega) (passE fun _ _ _ z => z) (pv 0) (pa_cons (pv 5) (pa_cons (pv 2) (pa_cons (pv 3) pa_nil)))) pa_nil)))))
    (pss_one (ps_ret (pv 4))))))), ?_⟩
  try dsimp only [cxOf]
  cases p with
  | any x =>
    rw [IsTr] at hT
    obtain ⟨t, rfl, h⟩ := hT
    refine ⟨_, rfl, t, _, 0, _, rfl, rfl, SqT.of h, atI_nat (j := 0) rfl, rfl, _, rfl, iteD (fun _ => ?_) (fun z => absurd rfl z)⟩
    rw [T.hol, List.length_singleton] at hb
    refine ⟨_, rfl, _, rfl, t, _, 1, _, rfl, rfl, SqT.of h, atI_nat (j := 1) rfl, _, rfl, _, x, G, b, rfl, hG, by omega, fun R us' H' sm hR hR' wa => q R us' H' sm hR hR' (by rw [clW]; exact wa)⟩
  | num m =>
    rw [IsTr] at hT
    obtain ⟨t, rfl, h⟩ := hT
    refine ⟨_, rfl, t, _, 0, _, rfl, rfl, SqT.of h, atI_nat (j := 0) rfl, rfl, _, rfl, iteD (fun z => absurd (V.str.inj z) (by decide)) (fun _ => ?_)⟩
    refine ⟨_, rfl, t, _, 0, _, rfl, rfl, SqT.of h, atI_nat (j := 0) rfl, rfl, _, rfl, iteDN (fun _ => ?_) (fun z => absurd (V.str.inj z) (by decide))⟩
    obtain ⟨kb, ekb, nk⟩ := IsTm.key (t := .num m) (v := .ref t) (H := H) ⟨t, rfl, h⟩
    rw [clW] at q
    refine ⟨_, rfl, a, CM, dx, _, _, rfl, hM.ins, Z.cM, Z.nTable, rfl, S, rfl, ⟨_, hM.dn⟩, _, rfl, kb, _, _, ekb, hM.dn, nk, ?_⟩
    rw [tab_val hM.tab]
    cases e : tabF ts ls (.num m) with
    | none =>
      rw [e, if_neg (fun z => nomatch z)] at q
      exact ⟨_, rfl, rfl, _, rfl, iteD (fun z => nomatch z) (fun _ => ⟨Nat.zero_le _, fun R hR => q R _ _ (same_new hR _) hR upd_same .nil⟩)⟩
    | some l =>
      rw [e] at q
      refine ⟨_, rfl, rfl, _, rfl, iteD (fun el => ?_) (fun el => ?_)⟩
      · rw [if_pos (congrArg some (by have := V.int.inj el; omega))] at q
        exact ⟨_, rfl, (show 1 ≤ sizeLine by decide), fun R hR => q R _ _ (same_new hR _) hR upd_same (.cons ⟨G, rfl, same_new hR _ _ _ hG⟩ .nil)⟩
      · rw [if_neg (fun z => el (by rw [Option.some.inj z]; rfl))] at q
        exact ⟨Nat.zero_le _, fun R hR => q R _ _ (same_new hR _) hR upd_same .nil⟩
  | name m =>
    rw [IsTr] at hT
    obtain ⟨t, rfl, h⟩ := hT
    refine ⟨_, rfl, t, _, 0, _, rfl, rfl, SqT.of h, atI_nat (j := 0) rfl, rfl, _, rfl, iteD (fun z => absurd (V.str.inj z) (by decide)) (fun _ => ?_)⟩
    refine ⟨_, rfl, t, _, 0, _, rfl, rfl, SqT.of h, atI_nat (j := 0) rfl, rfl, _, rfl, iteDN (fun _ => ?_) (fun z => absurd (V.str.inj z) (by decide))⟩
    obtain ⟨kb, ekb, nk⟩ := IsTm.key (t := .name m) (v := .ref t) (H := H) ⟨t, rfl, h⟩
    rw [clW] at q
    refine ⟨_, rfl, a, CM, dx, _, _, rfl, hM.ins, Z.cM, Z.nTable, rfl, S, rfl, ⟨_, hM.dn⟩, _, rfl, kb, _, _, ekb, hM.dn, nk, ?_⟩
    rw [tab_val hM.tab]
    cases e : tabF ts ls (.name m) with
    | none =>
      rw [e, if_neg (fun z => nomatch z)] at q
      exact ⟨_, rfl, rfl, _, rfl, iteD (fun z => nomatch z) (fun _ => ⟨Nat.zero_le _, fun R hR => q R _ _ (same_new hR _) hR upd_same .nil⟩)⟩
    | some l =>
      rw [e] at q
      refine ⟨_, rfl, rfl, _, rfl, iteD (fun el => ?_) (fun el => ?_)⟩
      · rw [if_pos (congrArg some (by have := V.int.inj el; omega))] at q
        exact ⟨_, rfl, (show 1 ≤ sizeLine by decide), fun R hR => q R _ _ (same_new hR _) hR upd_same (.cons ⟨G, rfl, same_new hR _ _ _ hG⟩ .nil)⟩
      · rw [if_neg (fun z => el (by rw [Option.some.inj z]; rfl))] at q
        exact ⟨Nat.zero_le _, fun R hR => q R _ _ (same_new hR _) hR upd_same .nil⟩
  | of x ps =>
    have hT0 := hT
    rw [IsTr] at hT
    obtain ⟨t, c, avs, rfl, h, hc, hts⟩ := hT
    rw [T.depth] at hd
    have hz0 := hz
    rw [T.kn] at hz
    rw [T.hol] at hb
    have hN : 1 ≤ ts.length := by omega
    have hz1 : ts.length ^ T.kns ps ≤ 1000000 := Nat.le_trans (Nat.pow_le_pow_right hN (Nat.le_add_left _ _)) hz
    refine ⟨_, rfl, t, _, 0, _, rfl, rfl, SqT.of h, atI_nat (j := 0) rfl, rfl, _, rfl, iteD (fun z => absurd (V.str.inj z) (by decide)) (fun _ => ?_)⟩
    refine ⟨_, rfl, t, _, 0, _, rfl, rfl, SqT.of h, atI_nat (j := 0) rfl, rfl, _, rfl, iteDN (fun z => absurd rfl z) (fun _ => ?_)⟩
    refine ⟨Nat.zero_le _, fun W hW => ?_⟩
    dsimp only [gName]
    have s0 := same_new hW (.lst [])
    have hW0 := upd_same (H := H) (a := W) (o := .lst [])
    generalize upd H W (.lst []) = H0 at s0 hW0 ⊢
    have hM0 := hM.same s0
    obtain ⟨zs, ezs⟩ := hd_some ok.len ok.like (List.getElem?_eq_getElem hj)
    have ehd : hdF ts ls (ls.getD j 0) = zs := by unfold hdF; rw [ezs]; rfl
    rcases hM.rows.look (ls.getD j 0) with ⟨_, e2⟩ | ⟨l, zs', e1, e2, hl⟩
    · rw [ezs] at e2; cases e2
    rw [ezs] at e2
    cases e2
    have hg := DGet.k (k := (.inl ((ls.getD j 0 : Nat) : Int) : Key)) hM0.hF
    rw [e1] at hg
    have hcl := cl_len (ts := ts) (ls := ls) (hd := hdF ts ls) hN (fun l => hd_len l) (.of x ps) (ls.getD j 0) b
    rw [clW_of, ehd] at hcl q
    refine ⟨_, rfl, a, CM, dx, _, _, rfl, hM0.ins, Z.cM, Z.nHeads, rfl, _, rfl, F, _, rfl, hg, l, rfl, ⟨_, SqL.of (s0 _ _ hl)⟩, ?_⟩
    refine for_list (xs := zs.map nV) (CwI H (.ref a) (nV (ls.getD j 0)) (.ref t) (.ref G) W (fun k => teW ts ls k x ps b) zs) ⟨none, [], rfl, s0, hW0, .nil⟩ ?_ ?_ ?_
    · rintro i σ H' _ ⟨x5, us', rfl, sm, hW', wa⟩
      exact SqL.of (sm _ _ hl)
    · rintro i y σ H' hy ⟨x5, us', rfl, sm, hW', wa⟩
      rw [List.getElem?_map] at hy
      obtain ⟨k, hk, rfl⟩ := Option.map_eq_some_iff.mp hy
      obtain ⟨u, hu, _⟩ := (hds_of ok.len ok.like).at_ (ls.getD j 0) k (by rw [ehd]; exact List.mem_of_getElem? hk)
      have hM' := hM.same sm
      refine ⟨_, rfl, .inl ⟨rfl, _, SqL.of hW'⟩, _, rfl, a, dx, _, rfl, hM'.ins, rfl, _, rfl, _, rfl, _, rfl, a, dx, Ta, L, S, F, us, ts, ls, tks, kvs, k, _, x, ps, G, b, rfl, hM', ok, (List.getElem?_eq_some_iff.mp hu).1, tr_keep (fun c ys e => sm _ _ e) hT0, by omega, sm _ _ hG, hb, hz1, fun R us2 H2 s2 hR hR2 wa2 => ?_⟩
      have hW2 := s2 _ _ hW'
      have l1 := Paired.length wa
      have l2 := Paired.length wa2
      have l3 := flat_split (fun k => teW ts ls k x ps b) zs (i + 1)
      rw [flat_step _ hk, List.length_append] at l3
      refine ⟨W, R, _, _, rfl, rfl, hW2, hR2, line_of (by omega), ⟨_, _, rfl, (sm.trans s2).put hW, upd_same, ?_⟩⟩
      rw [flat_step _ hk]
      exact paired_app (ways_upd (ways_same wa s2) hW2) (ways_upd wa2 hW2)
    · rintro σ H' ⟨x5, us', rfl, sm, hW', wa⟩
      rw [List.length_map, List.take_length] at wa
      exact ⟨_, rfl, q W us' H' sm hW hW' wa⟩
end

end K44
namespace K44
open PySem L2 Sw
section
variable {P : Program} {w : World} {K : PySem.W.Frag} {mg : Str → Option Value} {base : Heap} {CM : Addr}
inductive TwI (H : Hp) (s0 s1 s2 s3 s4 : V) (ts : List Tm) (ls : List Nat) (ps : List T) (as : List Nat) (b : Bd) (i : Nat) (σ : St) (H' : Hp) : Prop
  | mk (Wd : Addr) (us : List V) (x6 x7 x8 x9 : Option V) : (σ = [some s0, some s1, some s2, some s3, some s4, some (.ref Wd), x6, x7, x8, x9]) → Same H H' → H Wd = none → H' Wd = some (.lst us) → WaysAt H' us (arI ts ls ps as b i) → TwI H s0 s1 s2 s3 s4 ts ls ps as b i σ H'
inductive TwJ (H : Hp) (s0 s1 s2 s3 s4 s6 s7 : V) (Wd Lg : Addr) (us : List V) (f : Bd → List Bd) (ws : List Bd) (i : Nat) (σ : St) (H' : Hp) : Prop
  | mk (us' : List V) (x9 : Option V) : (σ = [some s0, some s1, some s2, some s3, some s4, some (.ref Wd), some s6, some s7, some (.ref Lg), x9]) → Same H H' → H' Wd = some (.lst us) → WaysAt H' us ws → H' Lg = some (.lst us') → WaysAt H' us' ((ws.take i).flatMap f) → TwJ H s0 s1 s2 s3 s4 s6 s7 Wd Lg us f ws i σ H'
theorem ok_term_ways {n : Nat} (B : Blt mg) (b_zip : mg "zip" = none) (Z : TopMt K mg CM) (h_class_ways : HasM P w K mg base (2 * n + 2) CM "class_ways" ["self", "lead", "pattern", "binds"] (spCW P w CM n))
    (D : DefM K CM "term_ways" "Matcher.term_ways" s_term_ways ["self", "k", "pattern", "binds"]) : HasM P w K mg base (2 * n + 3) CM "term_ways" ["self", "k", "pattern", "binds"] (spTW P w CM n) := by
  have cM := Z.cM
  refine D.has sc_term_ways (fun vs H Q E h => ?_) (fun f cdv A outer s H vs Q E hr h => ?_)
  · obtain ⟨a, dx, Ta, L, S, F, us, ts, ls, tks, kvs, k, v, x, ps, G, b, rfl, _⟩ := h; rfl
  obtain ⟨a, dx, Ta, L, S, F, us, ts, ls, tks, kvs, k, v, x, ps, G, b, rfl, hM, ok, hk, hT, hd, hG, hb, hz, q⟩ := h
  refine ⟨_, (pss_cons (ps_set (i := 4) sc_term_ways.nd rfl (Or.inl rfl) (pe_ix ix_list (pe_fld (pv 0) rfl) (pv 1) (fun _ _ => rfl)))
    (pss_cons (ps_if (PW.pt (pw_or (pt_cmpR op_ne (pe_ix ix_tup (pv 4) pe_int (fun _ _ => rfl)) pe_str (nomark _)) (pw_or (pt_cmpR op_ne (pe_ix ix_tup (pv 4) pe_int (fun _ _ => rfl)) (pe_ix ix_tup (pv 2) pe_int (fun _ _ => rfl)) (nomark _)) (pw_or1 (pt_cmpR op_ne (pe_callB call_len_seq rfl B.len_ PySem.boot_len (pa_cons (pe_ix ix_tup (pv 4) pe_int (fun _ _ => rfl)) pa_nil)) (pe_callB call_len_seq rfl B.len_ PySem.boot_len (pa_cons (pe_ix ix_tup (pv 2) pe_int (fun _ _ => rfl)) pa_nil)) (nomark _)))))) (pss_one (ps_ret (pe_lst pa_nil))) pss_nil)
    (pss_cons (ps_set (i := 5) sc_term_ways.nd rfl (Or.inl rfl) (pe_lst (pa_cons (pv 3) pa_nil)))
    (pss_cons (ps_for PassesOwn.leaving rfl (pi_zipT rfl b_zip (pa_cons (pe_ix ix_tup (pv 4) pe_int (fun _ _ => rfl)) (pa_cons (pe_ix ix_tup (pv 2) pe_int (fun _ _ => rfl)) pa_nil))) (pg_tup rfl (pgs_cons (pg_name (i := 6) sc_term_ways.nd rfl (Or.inl rfl)) (pgs_cons (pg_name (i := 7) sc_term_ways.nd rfl (Or.inl rfl)) pgs_nil)))
    (pss_cons (ps_set (i := 8) sc_term_ways.nd rfl (Or.inl rfl) (pe_lst pa_nil))
    (pss_cons (ps_for PassesOwn.leaving rfl (pi_list (pv 5)) (pg_name (i := 9) sc_term_ways.nd rfl (Or.inl rfl))
    (pss_one (ps_expr (pe_bm PySem.F.plainAttrs_list PySem.F.slot_list_extend PySem.F.type_list_extend mt_extend (pv 8) (pa_cons (pe_mE h_class_ways cM hr (by omega) (passE fun _ _ _ z => z) (pv 0) (pa_cons (pe_ix ix_list (pe_fld (pv 0) rfl) (pv 6) (fun _ _ => rfl)) (pa_cons (pv 7) (pa_cons (pv 9) pa_nil)))) pa_nil)))))
    (pss_one (ps_set (i := 5) sc_term_ways.nd rfl (Or.inl rfl) (pv 8))))))
    (pss_one (ps_ret (pv 5))))))), ?_⟩
  try dsimp only [cxOf]
  rw [IsTr] at hT
  obtain ⟨t, c, avs, rfl, h, hc, hts⟩ := hT
  have hla := trs_len hts
  have hul := Paired.length hM.tms
  have hu : us[k]? = some (us[k]'(by omega)) := List.getElem?_eq_getElem (by omega)
  generalize us[k]'(by omega) = u at hu
  obtain ⟨tm, ht, hut⟩ := tms_at hM.tms hu
  have hN : 1 ≤ ts.length := by omega
  refine ⟨_, rfl, a, CM, dx, _, _, rfl, hM.ins, Z.cM, Z.nTerms, rfl, _, rfl, Ta, _, _, u, rfl, rfl, SqL.of hM.hT, atI_nat (j := k) hu, ?_⟩
  dsimp only [gName]
  have none_ : teW ts ls k x ps b = [] → ∀ R us' H', Same H H' → H R = none → H' R = some (.lst us') → us' = [] → Q (.ref R) H' := fun e R us' H' sm hR hR' eu => q R us' H' sm hR hR' (by rw [e, eu]; exact .nil)
  cases tm with
  | num m =>
    obtain ⟨ta, rfl, hta⟩ := hut
    refine ⟨_, rfl, ta, _, 0, _, rfl, rfl, SqT.of hta, atI_nat (j := 0) rfl, rfl, _, rfl, iteDN (fun _ => iteT ?_) (fun z => absurd (V.str.inj z) (by decide))⟩
    exact ⟨Nat.zero_le _, fun R hR => none_ (by unfold teW; rw [ht]) R _ _ (same_new hR _) hR upd_same rfl⟩
  | name m =>
    obtain ⟨ta, rfl, hta⟩ := hut
    refine ⟨_, rfl, ta, _, 0, _, rfl, rfl, SqT.of hta, atI_nat (j := 0) rfl, rfl, _, rfl, iteDN (fun _ => iteT ?_) (fun z => absurd (V.str.inj z) (by decide))⟩
    exact ⟨Nat.zero_le _, fun R hR => none_ (by unfold teW; rw [ht]) R _ _ (same_new hR _) hR upd_same rfl⟩
  | of y as =>
    obtain ⟨ta, tb, rfl, hta, htb⟩ := hut
    have et : teW ts ls k x ps b = if y = x ∧ as.length = ps.length then arW ts ls (hdF ts ls) ps as [b] else [] := by unfold teW; rw [ht]
    refine ⟨_, rfl, ta, _, 0, _, rfl, rfl, SqT.of hta, atI_nat (j := 0) rfl, rfl, _, rfl, iteDN (fun z => absurd rfl z) (fun _ => ?_)⟩
    refine ⟨_, rfl, ta, _, 1, _, rfl, rfl, SqT.of hta, atI_nat (j := 1) rfl, _, rfl, t, _, 1, _, rfl, rfl, SqT.of h, atI_nat (j := 1) rfl, rfl, _, rfl, iteDN (fun ex => iteT ?_) (fun ex => ?_)⟩
    · exact ⟨Nat.zero_le _, fun R hR => none_ (by rw [et, if_neg (fun z => ex (by rw [z.1]))]) R _ _ (same_new hR _) hR upd_same rfl⟩
    have ex := V.str.inj ex
    refine ⟨_, rfl, ta, _, 2, _, rfl, rfl, SqT.of hta, atI_nat (j := 2) rfl, tb, _, rfl, .inr (SqT.of htb), _, rfl, t, _, 2, _, rfl, rfl, SqT.of h, atI_nat (j := 2) rfl, c, _, rfl, .inr (SqT.of hc), rfl, _, rfl, iteDN (fun el => ?_) (fun el => ?_)⟩
    · refine ⟨Nat.zero_le _, fun R hR => none_ ?_ R _ _ (same_new hR _) hR upd_same rfl⟩
      rw [et, if_neg (fun z => el ?_)]
      rw [List.length_map, z.2, hla]
    have el : as.length = ps.length := by
      have := V.int.inj el
      rw [List.length_map] at this
      omega
    rw [et, if_pos ⟨ex, el⟩] at q
    refine ⟨_, rfl, (show 1 ≤ sizeLine by decide), fun Wd hWd => ?_⟩
    dsimp only [gName]
    have s0 := same_new hWd (.lst [.ref G])
    have hW0 := upd_same (H := H) (a := Wd) (o := .lst [.ref G])
    generalize upd H Wd (.lst [.ref G]) = H0 at s0 hW0 ⊢
    refine ⟨_, rfl, ta, _, 2, _, rfl, rfl, SqT.of (s0 _ _ hta), atI_nat (j := 2) rfl, _, rfl, t, _, 2, _, rfl, rfl, SqT.of (s0 _ _ h), atI_nat (j := 2) rfl, tb, c, _, _, rfl, SqT.of (s0 _ _ htb), SqT.of (s0 _ _ hc), ?_⟩
    refine for_zipT (xs := as.map nV) (ys := avs) (by rw [List.length_map]; omega) (TwI H (.ref a) (nV k) (.ref t) (.ref G) (.ref ta) ts ls ps as b) ⟨Wd, _, none, none, none, none, rfl, s0, hWd, hW0, ?_⟩ ?_ ?_ ?_
    · unfold arI
      rw [List.take_zero, arW]
      exact .cons ⟨G, rfl, s0 _ _ hG⟩ .nil
    · rintro i σ H' _ ⟨Wd, us', x6, x7, x8, x9, rfl, sm, _⟩
      exact ⟨SqT.of (sm _ _ htb), SqT.of (sm _ _ hc)⟩
    · rintro i vx vy p0 σ H' hx hy ⟨Wd, us', x6, x7, x8, x9, rfl, sm, hWd, hW', wa⟩ hp0
      rw [List.getElem?_map] at hx
      obtain ⟨m, hm, rfl⟩ := Option.map_eq_some_iff.mp hx
      obtain ⟨p, hp, hpy⟩ := trs_at hts hy
      have s1 := same_new hp0 (.tup [nV m, vy])
      have g1 := sm.trans s1
      have hW1 := s1 _ _ hW'
      have wa1 := ways_same wa s1
      refine ⟨p0, _, rfl, SqT.of upd_same, rfl, _, _, rfl, _, _, rfl, rfl, ?_⟩
      generalize upd H' p0 (.tup [nV m, vy]) = H1 at s1 g1 hW1 wa1 ⊢
      refine ⟨Nat.zero_le _, fun Lg hLg => ?_⟩
      dsimp only [gName]
      have hLgH : H Lg = none := g1.free hLg
      have s2 := same_new hLg (.lst [])
      have hL2 := upd_same (H := H1) (a := Lg) (o := .lst [])
      have g2 := g1.trans s2
      have hW2 := s2 _ _ hW1
      have wa2 := ways_same wa1 s2
      have nWL : Wd ≠ Lg := fun z => by rw [z, hLg] at hW1; cases hW1
      generalize upd H1 Lg (.lst []) = H2 at s2 hL2 g2 hW2 wa2 ⊢
      have hml : m < ts.length := by have := (ok.at ht y as rfl).2 m (List.mem_of_getElem? hm); have := ok.len; omega
      obtain ⟨hh, hkn⟩ := arm_part hp
      have hzp : ts.length ^ p.kn ≤ 1000000 := Nat.le_trans (Nat.pow_le_pow_right hN (by omega)) hz
      have hsucc := arI_succ (ts := ts) (ls := ls) (b := b) hp hm
      have hlen : (arI ts ls ps as b (i + 1)).length ≤ 1000000 := by
        unfold arI
        refine Nat.le_trans (ar_len hN (fun l => hd_len l) _ _ _) ?_
        rw [List.length_singleton, Nat.one_mul, List.take_add_one, hp, kns_app]
        refine Nat.le_trans (Nat.pow_le_pow_right hN ?_) hz
        show _ + (p.kn + 0) ≤ _
        omega
      rw [hsucc] at hlen
      refine ⟨_, rfl, Wd, rfl, ⟨_, SqL.of hW2⟩, ?_⟩
      refine for_list (xs := us') (TwJ H (.ref a) (nV k) (.ref t) (.ref G) (.ref ta) (nV m) vy Wd Lg us' (fun v => clW ts ls (hdF ts ls) p (ls.getD m 0) v) (arI ts ls ps as b i)) ⟨[], _, rfl, g2, hW2, wa2, hL2, .nil⟩ ?_ ?_ ?_
      · rintro j σ H' _ ⟨us2, x9, rfl, sm, hW', _⟩
        exact SqL.of hW'
      · rintro j vw σ H3 hj ⟨us2, x9, rfl, sm3, hW3, wa3, hL3, wl3⟩
        obtain ⟨bj, hbj, g, rfl, hg⟩ := Paired.at wa3 hj
        have hM3 := hM.same sm3
        obtain ⟨b0, hb0, hsz⟩ := ar_size (ts := ts) (ls := ls) (hd := hdF ts ls) (ps.take i) (as := as) (ws := [b]) (w := bj) (List.mem_of_getElem? hbj)
        rw [List.mem_singleton.mp hb0] at hsz
        have hli : ls[m]? = some (ls.getD m 0) := getD_at (by have := ok.len; omega)
        refine ⟨_, rfl, .inl ⟨rfl, _, SqL.of hL3⟩, _, rfl, a, dx, _, rfl, hM3.ins, rfl, _, rfl, a, CM, dx, _, _, rfl, hM3.ins, Z.cM, Z.nLeads, rfl, _, rfl, L, _, _, _, rfl, rfl, SqL.of hM3.hL, nV_at hli, _, rfl, _, rfl,
          a, dx, Ta, L, S, F, us, ts, ls, tks, kvs, m, vy, p, g, bj, rfl, hM3, ok, hml, tr_keep (fun c ys e => sm3 _ _ e) hpy, Nat.le_trans (deepest_le (List.mem_of_getElem? hp)) hd, hg, by omega, hzp, fun R us4 H4 s4 hR hR4 wa4 => ?_⟩
        have hL4 := s4 _ _ hL3
        have l1 := Paired.length wl3
        have l2 := Paired.length wa4
        have l3 := flat_split (fun v => clW ts ls (hdF ts ls) p (ls.getD m 0) v) (arI ts ls ps as b i) (j + 1)
        rw [flat_step _ hbj, List.length_append] at l3
        refine ⟨Lg, R, _, _, rfl, rfl, hL4, hR4, line_of (by omega), ⟨_, _, rfl, (sm3.trans s4).put hLgH, ?_, ways_upd (ways_same wa3 s4) hL4, upd_same, ?_⟩⟩
        · rw [upd_ne nWL]; exact s4 _ _ hW3
        · rw [flat_step _ hbj]
          exact paired_app (ways_upd (ways_same wl3 s4) hL4) (ways_upd wa4 hL4)
      · rintro σ H3 ⟨us2, x9, rfl, sm3, hW3, wa3, hL3, wl3⟩
        have e3 := Paired.length wa3
        rw [e3, List.take_length, ← hsucc] at wl3
        exact ⟨_, rfl, Lg, us2, _, _, _, _, rfl, sm3, hLgH, hL3, wl3⟩
    · rintro σ H' ⟨Wd, us', x6, x7, x8, x9, rfl, sm, hWd, hW', wa⟩
      unfold arI at wa
      rw [List.length_map, el, List.take_length] at wa
      exact ⟨_, rfl, q Wd us' H' sm hWd hW' wa⟩
theorem ok_ways (B : Blt mg) (b_zip : mg "zip" = none) (Z : TopMt K mg CM) (h_hole_ways : Has P w K mg base 1 "hole_ways" ["lead", "hole", "binds"] spHole) (Dc : DefM K CM "class_ways" "Matcher.class_ways" s_class_ways ["self", "lead", "pattern", "binds"])
    (Dt : DefM K CM "term_ways" "Matcher.term_ways" s_term_ways ["self", "k", "pattern", "binds"]) : ∀ n, HasM P w K mg base (2 * n + 2) CM "class_ways" ["self", "lead", "pattern", "binds"] (spCW P w CM n)
  | 0 => by
    obtain ⟨fa, fd, F, hm, hb⟩ := Dc.ex
    have no : ∀ vs H Q E, ¬ spCW P w CM 0 vs H Q E := fun vs H Q E h => by
      obtain ⟨a, dx, Ta, L, S, F, us, ts, ls, tks, kvs, j, v, p, G, b, _, _, _, _, _, z, _⟩ := h
      have := depth_pos p
      omega
    exact ⟨fa, fd, ⟨fun vs H Q E h => absurd h (no vs H Q E), fun A outer s H args us vs Q E _ _ _ _ h => absurd h (no vs H Q E)⟩, hm, hb⟩
  | n + 1 => ok_class_ways B Z h_hole_ways (ok_term_ways B b_zip Z (ok_ways B b_zip Z h_hole_ways Dc Dt n) Dt) Dc
end

end K44
namespace K44
open PySem L2 Sw
section
variable {P : Program} {w : World} {K : PySem.W.Frag} {mg : Str → Option Value} {base : Heap} {CM : Addr}
noncomputable def RowM (H : Hp) (u : V) (r : Nat × Bd) : Prop := ∃ p g, u = .ref p ∧ H p = some (.tup [nV r.1, .ref g]) ∧ H g = some (.dK (enc r.2))
noncomputable abbrev RowsM (H : Hp) : List V → List (Nat × Bd) → Prop := Paired (RowM H)
theorem rowsM_same {H H' : Hp} {us : List V} {rs : List (Nat × Bd)} (h : RowsM H us rs) (sm : Same H H') : RowsM H' us rs := Paired.mapP h fun _ _ ⟨p, g, e, h1, h2⟩ => ⟨p, g, e, sm _ _ h1, sm _ _ h2⟩
theorem rowsM_upd {H : Hp} {R : Addr} {vs vs' : List V} {us : List V} {rs : List (Nat × Bd)} (h : RowsM H us rs) (hR : H R = some (.lst vs)) : RowsM (upd H R (.lst vs')) us rs := Paired.mapP h fun _ _ ⟨p, g, e, h1, h2⟩ =>
  ⟨p, g, e, by rw [upd_ne (ne_of h1 hR (fun z => nomatch z))]; exact h1, by rw [upd_ne (ne_of h2 hR (fun z => nomatch z))]; exact h2⟩
noncomputable def mtF (ts : List Tm) (ls : List Nat) (x : Str) (ps : List T) (k : Nat) : List (Nat × Bd) := (teW ts ls k x ps []).map fun v => (k, v)
theorem te_len {ts : List Tm} {ls : List Nat} (hN : 1 ≤ ts.length) (x : Str) (ps : List T) (k : Nat) (b : Bd) : (teW ts ls k x ps b).length ≤ ts.length ^ T.kns ps := by
  unfold teW
  split
  · split
    · refine Nat.le_trans (ar_len hN (fun l => hd_len l) _ _ _) ?_
      rw [List.length_singleton, Nat.one_mul]; exact Nat.le_refl _
    · exact Nat.zero_le _
  · exact Nat.zero_le _
inductive SpMatches (vs : List V) (H : Hp) (Q : VK) : Prop
  | mk (Ta L : Addr) (us : List V) (ts : List Tm) (ls : List Nat) (v : V) (x : Str) (ps : List T) (z0 : vs = [.ref Ta, .ref L, v]) (z1 : H Ta = some (.lst us)) (z2 : Tms H us ts) (z3 : H L = some (.lst (ls.map nV))) (z4 : TLok ts ls) (z5 : ts.length ≤ 60) (z6 : 1 ≤ ts.length)
    (z7 : IsTr H (.of x ps) v) (z8 : T.deepest ps ≤ 3) (z9 : (T.hols ps).length ≤ 900) (z10 : ts.length ^ (1 + T.kns ps) ≤ 1000000)
    (z11 : ∀ (R : Addr) (us' : List V) (ns : List Nat) (H' : Hp), Same H H' → H R = none → H' R = some (.lst us') → ns.Perm (firstsF (ts.map (mk ls)) ts.length) → ns.Pairwise (· < ·) → RowsM H' us' (ns.flatMap (mtF ts ls x ps)) → Q (.ref R) H') : SpMatches vs H Q
noncomputable def spMatches : Sp := fun vs H Q _ => SpMatches vs H Q
inductive MxI (H1 : Hp) (s0 s1 s2 s3 : V) (Fd N : Addr) (f : Nat → List (Nat × Bd)) (ns : List Nat) (i : Nat) (σ : St) (H' : Hp) : Prop
  | mk (us : List V) (x5 x6 : Option V) : (σ = [some s0, some s1, some s2, some s3, some (.ref Fd), x5, x6]) → Same H1 H' → H' N = some (.lst (ns.map nV)) → H' Fd = some (.lst us) → RowsM H' us ((ns.take i).flatMap f) → MxI H1 s0 s1 s2 s3 Fd N f ns i σ H'
inductive MxJ (H1 : Hp) (s0 s1 s2 s3 : V) (k : Nat) (Fd N R : Addr) (ns : List Nat) (rs : List (Nat × Bd)) (us2 : List V) (ws : List Bd) (i : Nat) (σ : St) (H' : Hp) : Prop
  | mk (us : List V) (x6 : Option V) : (σ = [some s0, some s1, some s2, some s3, some (.ref Fd), some (nV k), x6]) → Same H1 H' → H' N = some (.lst (ns.map nV)) → H' R = some (.lst us2) → WaysAt H' us2 ws → H' Fd = some (.lst us) → RowsM H' us (rs ++ (ws.take i).map fun v => (k, v)) →
      MxJ H1 s0 s1 s2 s3 k Fd N R ns rs us2 ws i σ H'
theorem ok_matches (Z : TopMt K mg CM) (h_init : HasC P w K mg base 3 "Matcher" CM ["self", "terms", "leads"] (spMinit P w CM)) (h_node_numbers : Has P w K mg base 3 "node_numbers" ["terms", "leads"] spNums) (h_term_ways : HasM P w K mg base 9 CM "term_ways" ["self", "k", "pattern", "binds"] (spTW P w CM 3))
    (D : Def K mg "matches" s_matches ["terms", "leads", "left"]) : Has P w K mg base 10 "matches" ["terms", "leads", "left"] spMatches := by
  have cM := Z.cM
  refine D.has sc_matches (fun vs H Q E h => ?_) (fun f cdv A outer s H vs Q E hr h => ?_)
  · obtain ⟨Ta, L, us, ts, ls, v, x, ps, rfl, _⟩ := h; rfl
  obtain ⟨Ta, L, us, ts, ls, v, x, ps, rfl, hT, hts, hL, ok, h60, hN, hP, hdp, hho, hz, q⟩ := h
  refine ⟨_, (pss_cons (ps_set (i := 3) sc_matches.nd rfl (Or.inl rfl) (pe_makeE h_init hr (by omega) passNo rfl (pa_cons (pv 0) (pa_cons (pv 1) pa_nil))))
    (pss_cons (ps_set (i := 4) sc_matches.nd rfl (Or.inl rfl) (pe_lst pa_nil))
    (pss_cons (ps_for PassesOwn.never rfl (pi_list (pe_callH h_node_numbers hr (by omega) rfl (pa_cons (pv 0) (pa_cons (pv 1) pa_nil)))) (pg_name (i := 5) sc_matches.nd rfl (Or.inl rfl))
    (pss_one (ps_for PassesOwn.never rfl (pi_list (pe_mE h_term_ways cM hr (by omega) passNo (pv 3) (pa_cons (pv 5) (pa_cons (pv 2) (pa_cons pe_dnewK pa_nil))))) (pg_name (i := 6) sc_matches.nd rfl (Or.inl rfl))
    (pss_one (ps_expr (pe_bm PySem.F.plainAttrs_list PySem.F.slot_list_append PySem.F.type_list_append mt_append (pv 4) (pa_cons (pe_tup (pa_cons (pv 5) (pa_cons (pv 6) pa_nil))) pa_nil)))))))
    (pss_one (ps_ret (pv 4)))))), ?_⟩
  try dsimp only [cxOf]
  have hz1 : ts.length ^ T.kns ps ≤ 1000000 := Nat.le_trans (Nat.pow_le_pow_right hN (Nat.le_add_left _ _)) hz
  refine ⟨_, rfl, _, rfl, fun a dx ha0 hdx0 hne => ?_⟩
  have nn : ∀ c o, H c = some o → c ≠ a ∧ c ≠ dx := fun c o e => ⟨ne_of_none e ha0, ne_of_none e hdx0⟩
  have up : Same H (upd (upd H dx (.own a)) a (.ins CM dx [])) := fun c o e => by rw [upd_ne (nn c o e).1, upd_ne (nn c o e).2]; exact e
  refine ⟨a, dx, Ta, L, us, ts, ls, rfl, upd_same, up _ _ hT, tms_same up hts, up _ _ hL, ok, fun H1 S F tks kvs bt hM => ⟨rfl, ?_⟩⟩
  dsimp only [gName]
  have s1 : Same H H1 := fun c o e => bt c o (nn c o e).1 (up c o e)
  clear up nn bt
  refine ⟨Nat.zero_le _, fun Fd hFd => ?_⟩
  dsimp only [gName]
  have s2 := same_new hFd (.lst [])
  have hF2 := upd_same (H := H1) (a := Fd) (o := .lst [])
  generalize upd H1 Fd (.lst []) = H2 at s2 hF2 ⊢
  have g2 := s1.trans s2
  refine ⟨_, rfl, _, rfl, Ta, L, us, ts, ls, rfl, g2 _ _ hT, tms_same g2 hts, g2 _ _ hL, ok, h60, fun N ns H3 s3 hN2 hN3 pm asc => ?_⟩
  have nNF : N ≠ Fd := fun z => by rw [z, hF2] at hN2; cases hN2
  have hNH1 : H1 N = none := s2.free hN2
  have hlen : (ns.flatMap (mtF ts ls x ps)).length ≤ 1000000 := by
    refine Nat.le_trans (flat_len (n := ts.length ^ T.kns ps) fun k _ => ?_) ?_
    · unfold mtF; rw [List.length_map]; exact te_len hN x ps k []
    · refine Nat.le_trans (Nat.mul_le_mul_right _ ?_) (by rw [Nat.pow_add, Nat.pow_one] at hz; exact hz)
      rw [pm.length_eq]; exact firsts_len _ _
  refine ⟨N, rfl, ⟨_, SqL.of hN3⟩, ?_⟩
  refine for_list (xs := ns.map nV) (MxI H1 (.ref Ta) (.ref L) v (.ref a) Fd N (mtF ts ls x ps) ns) ⟨[], none, none, rfl, s2.trans s3, hN3, s3 _ _ hF2, .nil⟩ ?_ ?_ ?_
  · rintro i σ H' _ ⟨us', x5, x6, rfl, sm, hN', _⟩
    exact SqL.of hN'
  · rintro i y σ H' hy ⟨us', x5, x6, rfl, sm, hN', hF', rm⟩
    rw [List.getElem?_map] at hy
    obtain ⟨k, hk, rfl⟩ := Option.map_eq_some_iff.mp hy
    have hkl : k < ts.length := firsts_lt (pm.mem_iff.mp (List.mem_of_getElem? hk))
    have hM' := hM.same sm
    dsimp only [gName]
    refine ⟨_, rfl, a, dx, _, rfl, hM'.ins, rfl, _, rfl, _, rfl, fun G hG => ?_⟩
    have s4 := same_new hG (.dK [])
    have hG4 := upd_same (H := H') (a := G) (o := .dK [])
    have g4 := sm.trans s4
    have hN4 := s4 _ _ hN'
    have hF4 := s4 _ _ hF'
    have rm4 := rowsM_same rm s4
    generalize upd H' G (.dK []) = H4 at s4 hG4 g4 hN4 hF4 rm4 ⊢
    refine ⟨a, dx, Ta, L, S, F, us, ts, ls, tks, kvs, k, v, x, ps, G, [], rfl, hM.same g4, ok, hkl, tr_keep (fun c ys e => g4 _ _ (s1 _ _ e)) hP, hdp, hG4, by rw [List.length_nil]; omega, hz1, fun R us2 H5 s5 hR hR5 wa5 => ?_⟩
    have l1 := flat_split (mtF ts ls x ps) ns (i + 1)
    rw [flat_step _ hk, List.length_append] at l1
    have hRF : R ≠ Fd := fun z => by rw [z, hF4] at hR; cases hR
    have hRN : N ≠ R := fun z => by rw [← z, hN4] at hR; cases hR
    have elen : (mtF ts ls x ps k).length = (teW ts ls k x ps []).length := by unfold mtF; rw [List.length_map]
    refine ⟨R, rfl, ⟨_, SqL.of hR5⟩, ?_⟩
    refine for_list (xs := us2) (MxJ H1 (.ref Ta) (.ref L) v (.ref a) k Fd N R ns ((ns.take i).flatMap (mtF ts ls x ps)) us2 (teW ts ls k x ps [])) ⟨us', _, rfl, g4.trans s5, s5 _ _ hN4, hR5, wa5, s5 _ _ hF4, ?_⟩ ?_ ?_ ?_
    · rw [List.take_zero, List.map_nil, List.append_nil]
      exact rowsM_same rm4 s5
    · rintro j σ H' _ ⟨us3, x6, rfl, sm, hN', hR', _⟩
      exact SqL.of hR'
    · rintro j vw σ H6 hj ⟨us3, x6, rfl, sm6, hN6, hR6, wa6, hF6, rm6⟩
      obtain ⟨bj, hbj, g, rfl, hg⟩ := Paired.at wa6 hj
      have jl := (List.getElem?_eq_some_iff.mp hbj).1
      have l2 := Paired.length rm6
      rw [List.length_append, List.length_map, List.length_take, Nat.min_eq_left (Nat.le_of_lt jl)] at l2
      dsimp only [gName]
      refine ⟨_, rfl, .inl ⟨rfl, _, SqL.of hF6⟩, _, rfl, _, rfl, (show 2 ≤ sizeLine by decide), fun p hp => ?_⟩
      have s7 := same_new hp (.tup [nV k, .ref g])
      have hp7 := upd_same (H := H6) (a := p) (o := .tup [nV k, .ref g])
      have hF7 := s7 _ _ hF6
      have hg7 := s7 _ _ hg
      have rm7 := rowsM_same rm6 s7
      generalize upd H6 p (.tup [nV k, .ref g]) = H7 at s7 hp7 hF7 hg7 rm7 ⊢
      refine ⟨Fd, _, _, rfl, rfl, hF7, Nat.lt_of_lt_of_le (m := 1000000) (by omega) (by decide), ⟨_, _, rfl, (sm6.trans s7).put hFd, ?_, ?_, ways_upd (ways_same wa6 s7) hF7, upd_same, ?_⟩⟩
      · rw [upd_ne nNF]; exact s7 _ _ hN6
      · rw [upd_ne hRF]; exact s7 _ _ hR6
      · rw [List.take_add_one, hbj, List.map_append, ← List.append_assoc]
        refine paired_app (rowsM_upd rm7 hF7) (.cons ⟨p, g, rfl, ?_, ?_⟩ .nil)
        · rw [upd_ne (ne_of hp7 hF7 (fun z => nomatch z))]; exact hp7
        · rw [upd_ne (ne_of hg7 hF7 (fun z => nomatch z))]; exact hg7
    · rintro σ H6 ⟨us3, x6, rfl, sm6, hN6, hR6, wa6, hF6, rm6⟩
      have e3 := Paired.length wa6
      rw [e3, List.take_length] at rm6
      refine ⟨us3, _, _, rfl, sm6, hN6, hF6, ?_⟩
      rw [flat_step _ hk]
      exact rm6
  · rintro σ H' ⟨us', x5, x6, rfl, sm, hN', hF', rm⟩
    rw [List.length_map, List.take_length] at rm
    exact ⟨_, rfl, q Fd us' ns H' (s1.trans sm) (s1.free hFd) hF' pm asc rm⟩
end

end K44
namespace K44
open PySem L2 Sw
section
variable {P : Program} {w : World} {K : PySem.W.Frag} {mg : Str → Option Value} {base : Heap}
noncomputable def hw (z : Str) (at_ : Nat) (i : Int) : Str := Txt.slice z none (some ((at_ : Nat) : Int)) ++ sg i ++ Txt.slice z (some ((at_ : Nat) : Int)) none
theorem look_mem : ∀ {b : Bd} {x : Str}, (look b x).isSome = true ↔ x ∈ b.map (·.1)
  | [], x => by rw [look]; exact ⟨(fun z => nomatch z), (fun z => nomatch z)⟩
  | p :: r, x => by
    rw [look, List.map_cons, List.mem_cons]
    by_cases e : p.1 = x
    · rw [if_pos e]; exact ⟨fun _ => .inl e.symm, fun _ => rfl⟩
    · rw [if_neg e, look_mem]; exact ⟨.inr, fun z => z.elim (fun z => absurd z.symm e) id⟩
theorem put_bd (b : Bd) (x : Str) (l : Nat) : ∃ b' : Bd, putK (enc b) (.inr x) (nV l) = enc b' ∧ b'.length ≤ b.length + 1 ∧ (∀ z, look b' z = if x = z then some l else look b z) ∧ ((b.map (·.1)).Nodup → (b'.map (·.1)).Nodup) := by
  cases e : look b x with
  | none =>
    refine ⟨_, enc_put e, by rw [List.length_append]; exact Nat.le_refl _, fun z => ?_, fun hn => ?_⟩
    · rw [look_app]
      cases q : look b z with
      | none => rfl
      | some v =>
        show some v = if x = z then some l else some v
        rw [if_neg (fun ez => by rw [← ez, e] at q; cases q)]
    · rw [List.map_append]
      refine List.nodup_append.mpr ⟨hn, List.nodup_cons.mpr ⟨List.not_mem_nil, List.nodup_nil⟩, fun a ha c hc z => ?_⟩
      have hc : c = x := List.mem_singleton.mp hc
      have := look_mem.mpr (by rw [z, hc] at ha; exact ha)
      rw [e] at this; cases this
  | some v =>
    refine ⟨b.map fun p => if p.1 = x then (p.1, l) else p, ?_, by rw [List.length_map]; omega, fun z => ?_, fun hn => ?_⟩
    · unfold putK
      rw [if_pos]
      · unfold enc
        rw [List.map_map, List.map_map]
        refine List.map_congr_left fun p _ => ?_
        show (if (Sum.inr p.1 : Key) = Sum.inr x then _ else _) = _
        by_cases ep : p.1 = x
        · rw [if_pos (by rw [ep])]
          show _ = ((Sum.inr (if p.1 = x then (p.1, l) else p).1 : Key), nV (if p.1 = x then (p.1, l) else p).2)
          rw [if_pos ep]
        · rw [if_neg (fun q => ep (Sum.inr.inj q))]
          show _ = ((Sum.inr (if p.1 = x then (p.1, l) else p).1 : Key), nV (if p.1 = x then (p.1, l) else p).2)
          rw [if_neg ep]
      · have h := enc_val b x
        rw [e] at h
        cases q : (enc b).any fun kv => decide (kv.1 = .inr x) with
        | true => rfl
        | false =>
          rw [valV_any] at q
          rw [h] at q
          cases q
    · have hs : (look b x).isSome = true := by rw [e]; rfl
      clear e
      induction b with
      | nil => cases hs
      | cons p r ih =>
        rw [List.map_cons, look, look]
        by_cases ep : p.1 = x
        · rw [if_pos ep]
          by_cases ez : x = z
          · rw [if_pos (ep.trans ez), if_pos ez]
          · rw [if_neg (fun q => ez (ep.symm.trans q)), if_neg (fun q => ez (ep.symm.trans q)), if_neg ez]
            by_cases hr : (look r x).isSome = true
            · rw [ih hr, if_neg ez]
            · congr 1
              have hall : ∀ p ∈ r, p.1 ≠ x := by
                clear ih hs
                induction r with
                | nil => intro p hp; cases hp
                | cons q r ih2 =>
                  rw [look] at hr
                  by_cases eq : q.1 = x
                  · rw [if_pos eq] at hr; exact absurd rfl hr
                  · rw [if_neg eq] at hr
                    intro p hp
                    rcases List.mem_cons.mp hp with rfl | hp
                    · exact eq
                    · exact ih2 hr p hp
              refine (List.map_congr_left fun p hp => ?_).trans (List.map_id _)
              rw [if_neg (hall p hp)]; rfl
        · rw [if_neg ep]
          rw [look, if_neg ep] at hs
          by_cases ez : p.1 = z
          · rw [if_pos ez, if_pos ez, if_neg (fun q => ep (ez.trans q.symm))]
          · rw [if_neg ez, if_neg ez]; exact ih hs
    · rw [List.map_map]
      refine (List.map_congr_left fun p _ => ?_) ▸ hn
      show p.1 = (if p.1 = x then (p.1, l) else p).1
      split <;> rfl
noncomputable def hI (mode lead many : Nat) : Nat := if mode = 0 then lead else if mode = 1 then many else many % 2
inductive SpHl (vs : List V) (H : Hp) (Q : VK) : Prop
  | mk (z : Str) (at_ mode many lead : Nat) (z0 : vs = [.str z, nV at_, nV mode, nV many, nV lead]) (z1 : z.length ≤ 8) (z2 : at_ ≤ z.length) (z3 : mode < 3) (z4 : many < 26) (z5 : lead < 26) (z6 : ∀ H', Same H H' → Q (.str (hw z at_ (hI mode lead many))) H') : SpHl vs H Q
noncomputable def spHl : Sp := fun vs H Q _ => SpHl vs H Q
theorem ok_hole (D : Def K mg "_law_hole" s_hole ["_law_base", "_law_at", "_law_turn_by", "_law_many", "_law_lead"]) : Has P w K mg base 1 "_law_hole" ["_law_base", "_law_at", "_law_turn_by", "_law_many", "_law_lead"] spHl := by
  refine D.has sc_hole (fun vs H Q E h => ?_) (fun f cdv A outer s H vs Q E hr h => ?_)
  · obtain ⟨z, at_, mode, many, lead, rfl, _⟩ := h; rfl
  obtain ⟨z, at_, mode, many, lead, rfl, h8, hat, hm, hn, hl, q⟩ := h
  refine ⟨_, (pss_cons (ps_set (i := 5) sc_hole.nd rfl (Or.inl rfl) (pe_ix ix_str pe_str (pe_ix ix_list (pe_lst (pa_cons (pv 4) (pa_cons (pv 3) (pa_cons (pe_op op_mod (pv 3) pe_int) pa_nil)))) (pv 2) (fun _ _ => rfl)) (fun _ _ => rfl)))
    (pss_one (ps_ret (pe_op op_add_str (pe_op op_add_str (pe_slice sl_str (pv 0) po_none (po_some (pv 1))) (pv 5)) (pe_slice sl_str (pv 0) (po_some (pv 1)) po_none))))), ?_⟩
  try dsimp only [cxOf]
  refine ⟨_, rfl, _, rfl, _, rfl, _, _, rfl, rfl, pos', (show 3 ≤ sizeLine by decide), fun L hL => ?_⟩
  have s0 := same_new hL (.lst [nV lead, nV many, .int ((many : Int) % 2)])
  have hL0 := upd_same (H := H) (a := L) (o := .lst [nV lead, nV many, .int ((many : Int) % 2)])
  have q := q _ s0
  generalize upd H L (.lst [nV lead, nV many, .int ((many : Int) % 2)]) = H0 at s0 hL0 q ⊢
  have ei : atI [nV lead, nV many, .int ((many : Int) % 2)] ((mode : Nat) : Int) = some (nV (hI mode lead many)) := by
    rcases (by omega : mode = 0 ∨ mode = 1 ∨ mode = 2) with rfl | rfl | rfl
    · exact atI_nat (j := 0) rfl
    · exact atI_nat (j := 1) rfl
    · refine atI_nat (j := 2) ?_
      show some (V.int ((many : Int) % 2)) = some (V.int (((many % 2 : Nat)) : Int))
      rw [Int.natCast_emod]; rfl
  have hi : hI mode lead many < 26 := by unfold hI; split; assumption; split; assumption; omega
  generalize hI mode lead many = i at ei hi q
  have hz : z.length ≤ sizeLine := Nat.le_trans h8 (by decide)
  refine ⟨_, rfl, L, _, _, _, rfl, rfl, SqL.of hL0, ei, _, _, _, rfl, rfl, by decide, abc_at (by omega) (by omega), ?_⟩
  dsimp only [gName]
  have sl1 := Txt.slice_le z none (some ((at_ : Nat) : Int))
  have sl2 := Txt.slice_le z (some ((at_ : Nat) : Int)) none
  refine ⟨_, rfl, _, rfl, _, rfl, z, rfl, hz, _, rfl, _, _, rfl, rfl, ?_, ?_⟩
  · show (Txt.slice z none (some ((at_ : Nat) : Int))).length + (sg ((i : Nat) : Int)).length ≤ sizeLine
    rw [sg_len]
    exact Nat.le_trans (by omega : _ ≤ 1000) (by decide)
  refine ⟨_, rfl, _, rfl, _, rfl, z, rfl, hz, _, _, rfl, rfl, ?_, q⟩
  show (Txt.slice z none (some ((at_ : Nat) : Int)) ++ sg ((i : Nat) : Int)).length + (Txt.slice z (some ((at_ : Nat) : Int)) none).length ≤ sizeLine
  rw [Str.length_append, sg_len]
  exact Nat.le_trans (by omega : _ ≤ 1000) (by decide)
end

end K44
namespace K44
open PySem L2 Sw
section
variable {P : Program} {w : World} {K : PySem.W.Frag} {mg : Str → Option Value} {base : Heap}
noncomputable def fR : Nat → Nat
  | 0 => 0
  | r + 1 => fR r + (r + 3)
structure WOk (z : Str) (at_ mode : Nat) (b : Bd) (np : Nat) : Prop where
  nk : (b.map (·.1)).Nodup
  two : mode = 2 → ∀ x, (look b x).isSome = true → x = hw z at_ (0 : Nat) ∨ x = hw z at_ (1 : Nat)
theorem WOk.less {z : Str} {at_ mode : Nat} {b : Bd} {n m : Nat} (h : WOk z at_ mode b n) (hm : m ≤ n) : WOk z at_ mode b m := ⟨h.nk, h.two⟩
noncomputable def Dom (b b' : Bd) (hs : List Str) : Prop := ∀ y, (look b' y).isSome = true ↔ (look b y).isSome = true ∨ y ∈ hs
theorem dom_refl (b : Bd) : Dom b b [] := fun y => ⟨.inl, fun h => h.elim id fun h => nomatch h⟩
theorem Dom.then {b w v : Bd} {hs gs : List Str} (h : Dom b w hs) (g : Dom w v gs) : Dom b v (hs ++ gs) := fun y => by
  rw [g y, h y, List.mem_append, or_assoc]
structure Gen (ts : List Tm) (ls : List Nat) (z : Str) (at_ mode : Nat) (as : List Nat) (b b' : Bd) (np np' r r' : Nat) (ps : List T) : Prop where
  dom : Dom b b' (T.hols ps)
  wok : WOk z at_ mode b' np'
  use : np + fR r' ≤ np' + as.length + fR r
  rle : r' ≤ r
  deep : T.deepest ps ≤ 1 + r
  kns : T.kns ps + r' ≤ r
  hol : (T.hols ps).length + np' ≤ np
  len : b'.length + np' ≤ b.length + np
  pl : ps.length = as.length
  ars : T.ars ps + np' ≤ np
structure ArmG (ts : List Tm) (ls : List Nat) (z : Str) (at_ mode lead : Nat) (b b' : Bd) (np np' r r' : Nat) (p : T) : Prop where
  dom : Dom b b' p.hol
  wok : WOk z at_ mode b' np'
  use : np + fR r' ≤ np' + 1 + fR r
  rle : r' ≤ r
  deep : p.depth ≤ 1 + r
  kn : p.kn + r' ≤ r
  hol : p.hol.length + np' ≤ np
  len : b'.length + np' ≤ b.length + np
  ar : p.ar + np' ≤ np
theorem deep_snoc {p : T} {n : Nat} (h : p.depth ≤ n) : ∀ {ps : List T}, T.deepest ps ≤ n → T.deepest (ps ++ [p]) ≤ n
  | [], _ => by rw [List.nil_append, T.deepest, T.deepest]; omega
  | q :: ps, e => by
    rw [T.deepest] at e
    have := deep_snoc h (ps := ps) (by omega)
    rw [List.cons_append, T.deepest]; omega
theorem gen_nil {ts : List Tm} {ls : List Nat} {z : Str} {at_ mode : Nat} {b : Bd} {np r : Nat} (h : WOk z at_ mode b np) : Gen ts ls z at_ mode [] b b np np r r [] :=
  ⟨by rw [T.hols]; exact dom_refl b, h, Nat.le_refl _, Nat.le_refl _, by rw [T.deepest]; omega, by rw [T.kns]; omega, by rw [T.hols]; exact Nat.le_of_eq (Nat.zero_add _), Nat.le_refl _, rfl, by rw [T.ars]; omega⟩
theorem gen_snoc {ts : List Tm} {ls : List Nat} {z : Str} {at_ mode : Nat} {as : List Nat} {a i : Nat} {b b1 b2 : Bd} {np n1 n2 r r1 r2 : Nat} {ps : List T} {p : T} (h : Gen ts ls z at_ mode (as.take i) b b1 np n1 r r1 ps) (ha : as[i]? = some a)
    (g : ArmG ts ls z at_ mode (ls.getD a 0) b1 b2 n1 n2 r1 r2 p) : Gen ts ls z at_ mode (as.take (i + 1)) b b2 np n2 r r2 (ps ++ [p]) := by
  have e : as.take (i + 1) = as.take i ++ [a] := by rw [List.take_add_one, ha]; rfl
  have eh : T.hols (ps ++ [p]) = T.hols ps ++ p.hol := by rw [hols_app, T.hols, T.hols, List.append_nil]
  have ek : T.kns (ps ++ [p]) = T.kns ps + p.kn := by rw [kns_app, T.kns, T.kns, Nat.add_zero]
  obtain ⟨h2, h3, h4, h5, h6, h7, h8, h9, h10, h11⟩ := h
  obtain ⟨g2, g3, g4, g5, g6, g7, g8, g9, g10⟩ := g
  refine ⟨by rw [eh]; exact h2.then g2, g3, ?_, Nat.le_trans g5 h5, deep_snoc (by omega) h6, by omega, by rw [eh, List.length_append]; omega, by omega, ?_, by rw [ars_app, T.ars, T.ars]; omega⟩
  · rw [e, List.length_append, List.length_singleton]; omega
  · rw [e, List.length_append, List.length_append, h10]; rfl
theorem tab_at {ts : List Tm} {ls : List Nat} (ok : TLok ts ls) {j : Nat} {u : Tm} (h : ts[j]? = some u) : tabF ts ls (mk ls u) = some (ls.getD j 0) := by
  cases q : tabF ts ls (mk ls u) with
  | none => exact absurd rfl (tab_none q j u h)
  | some l =>
    obtain ⟨i, u', hi, em, hl⟩ := tab_some ok.len q
    have := ok.like i j u' u hi h em
    rw [List.getD_eq_getElem?_getD, ← this, hl]; rfl
theorem arm_hole {ts : List Tm} {ls : List Nat} {z : Str} {at_ mode lead : Nat} {b b' : Bd} {np r : Nat} (h : WOk z at_ mode b (np + 1)) (hlen : b'.length ≤ b.length + 1) (hnk : (b.map (·.1)).Nodup → (b'.map (·.1)).Nodup)
    (hb : ∀ y, look b' y = if hw z at_ (hI mode lead np) = y then some lead else look b y) : ArmG ts ls z at_ mode lead b b' (np + 1) np r r (.any (hw z at_ (hI mode lead np))) := by
  refine ⟨fun y => ?_, ⟨hnk h.nk, fun e2 y hy => ?_⟩, Nat.le_refl _, Nat.le_refl _, by rw [T.depth]; omega, by rw [T.kn]; omega, by rw [T.hol, List.length_singleton]; omega, by omega, by rw [T.ar]; omega⟩
  · rw [hb, T.hol, List.mem_singleton]
    by_cases ey : hw z at_ (hI mode lead np) = y
    · rw [if_pos ey]; exact ⟨fun _ => .inr ey.symm, fun _ => rfl⟩
    · rw [if_neg ey]; exact ⟨.inl, fun z => z.elim id fun z => absurd z.symm ey⟩
  · rw [hb] at hy
    by_cases ey : hw z at_ (hI mode lead np) = y
    · have e3 : hI mode lead np = np % 2 := by unfold hI; rw [if_neg (by omega), if_neg (by omega)]
      rw [e3] at ey
      rcases (by omega : np % 2 = 0 ∨ np % 2 = 1) with e4 | e4
      · rw [e4] at ey; exact .inl ey.symm
      · rw [e4] at ey; exact .inr ey.symm
    · rw [if_neg ey] at hy; exact h.two e2 y hy
theorem arm_leaf {ts : List Tm} {ls : List Nat} {z : Str} {at_ mode lead : Nat} {b : Bd} {np r : Nat} {p : T} (h : WOk z at_ mode b (np + 1)) (hh : p.hol = []) (hd : p.depth = 1) (hk : p.kn = 0) (ha : p.ar = 1) : ArmG ts ls z at_ mode lead b b (np + 1) np r r p :=
  ⟨by rw [hh]; exact dom_refl b, h.less (Nat.le_succ _), Nat.le_refl _, Nat.le_refl _, by omega, by omega, by rw [hh, List.length_nil]; omega, by omega, by omega⟩
theorem arm_knot {ts : List Tm} {ls : List Nat} {z : Str} {at_ mode j : Nat} {b b' : Bd} {np n' r r' : Nat} {y : Str} {as : List Nat} {ps : List T} (hal : as.length < 3 + (r + 1)) (h : Gen ts ls z at_ mode as b b' np n' r r' ps) :
    ArmG ts ls z at_ mode (ls.getD j 0) b b' (np + 1) n' (r + 1) r' (.of y ps) := by
  obtain ⟨h2, h3, h4, h5, h6, h7, h8, h9, _, h11⟩ := h
  refine ⟨by rw [T.hol]; exact h2, h3, ?_, by omega, by rw [T.depth]; omega, by rw [T.kn]; omega, by rw [T.hol]; omega, by omega, by rw [T.ar]; omega⟩
  rw [fR]; omega
noncomputable def Rest3 (a b c : Addr) (H H' : Hp) : Prop := ∀ d o, d ≠ a → d ≠ b → d ≠ c → H d = some o → H' d = some o
theorem Rest3.trans {a b c : Addr} {H H1 H2 : Hp} (x : Rest3 a b c H H1) (y : Rest3 a b c H1 H2) : Rest3 a b c H H2 := fun d o n1 n2 n3 h => y d o n1 n2 n3 (x d o n1 n2 n3 h)
theorem Rest3.same {a b c : Addr} {H H1 H2 : Hp} (x : Rest3 a b c H H1) (y : Same H1 H2) : Rest3 a b c H H2 := fun d o n1 n2 n3 h => y d o (x d o n1 n2 n3 h)
theorem tm_head {H : Hp} {t : Tm} {v : V} (h : IsTm H t v) : ∃ q k vs, v = .ref q ∧ H q = some (.tup (.str k :: vs)) ∧ (k = "of" → ∃ y as c, t = .of y as ∧ vs = [.str y, .ref c] ∧ H c = some (.tup (as.map nV))) ∧ (k ≠ "of" → ∃ p : T, IsTr H p v ∧ p.hol = [] ∧ p.depth = 1 ∧ p.kn = 0 ∧ p.ar = 1 ∧ ∀ ts ls m, clB ts ls m p = tabF ts ls (mk ls t)) := by
  cases t with
  | num n => obtain ⟨q, rfl, h⟩ := h; exact ⟨q, _, _, rfl, h, fun z => absurd z (by decide), fun _ => ⟨.num n, by rw [IsTr]; exact ⟨q, rfl, h⟩, by rw [T.hol], by rw [T.depth], by rw [T.kn], by rw [T.ar], fun ts ls m => by rw [clB]; rfl⟩⟩
  | name n => obtain ⟨q, rfl, h⟩ := h; exact ⟨q, _, _, rfl, h, fun z => absurd z (by decide), fun _ => ⟨.name n, by rw [IsTr]; exact ⟨q, rfl, h⟩, by rw [T.hol], by rw [T.depth], by rw [T.kn], by rw [T.ar], fun ts ls m => by rw [clB]; rfl⟩⟩
  | of y as => obtain ⟨q, c, rfl, h, hc⟩ := h; exact ⟨q, _, _, rfl, h, fun _ => ⟨y, as, c, rfl, rfl, hc⟩, fun z => absurd rfl z⟩
end

end K44
namespace K44
open PySem L2 Sw
section
variable {P : Program} {w : World} {K : PySem.W.Frag} {mg : Str → Option Value} {base : Heap}
structure GIn (K : PySem.W.Frag) (H : Hp) (Ta L Pk Db Ro Ba : Addr) (us : List V) (ts : List Tm) (ls : List Nat) (pk : List Int) (b : Bd) (r : Nat) (z : Str) (at_ mode : Nat) : Prop where
  hTa : H Ta = some (.lst us)
  tms : Tms H us ts
  hL : H L = some (.lst (ls.map nV))
  hPk : H Pk = some (.lst (pk.map V.int))
  hDb : H Db = some (.dK (enc b))
  hRo : H Ro = some (.lst (List.replicate r (.int 0)))
  hBa : H Ba = some (.tup [.str z, nV at_])
  wok : WOk z at_ mode b pk.length
  pk26 : pk.length < 26
  blen : b.length + pk.length ≤ 800
structure GFix (Ta L Pk Ro : Addr) (ts : List Tm) (ls : List Nat) (z : Str) (at_ mode : Nat) : Prop where
  ok : TLok ts ls
  few : ts.length ≤ 24
  lt : ∀ a, ls.getD a 0 < 26
  n1 : Ta ≠ Pk
  n2 : Ta ≠ Ro
  n3 : L ≠ Pk
  n4 : L ≠ Ro
  n5 : Pk ≠ Ro
  z8 : z.length ≤ 8
  hat : at_ ≤ z.length
  hm : mode < 3
inductive SpGen (K : PySem.W.Frag) (n : Nat) (vs : List V) (H : Hp) (Q : VK) : Prop
  | mk (Ta L Pk Db Ro Ba : Addr) (us : List V) (ts : List Tm) (ls : List Nat) (t : Nat) (pk : List Int) (b : Bd) (r : Nat) (z : Str) (at_ mode : Nat) (x : Str) (as : List Nat) (z0 : vs = [.ref Ta, .ref L, nV t, .ref Pk, .ref Db, .ref Ro, .ref Ba, nV mode])
    (z1 : GIn K H Ta L Pk Db Ro Ba us ts ls pk b r z at_ mode) (z2 : GFix Ta L Pk Ro ts ls z at_ mode) (z3 : ts[t]? = some (.of x as)) (z4 : r < n) (z5 : as.length + fR r ≤ pk.length)
    (z6 : ∀ (v : V) (ps : List T) (b' : Bd) (pk' : List Int) (r' : Nat) (H' : Hp), Rest3 Pk Db Ro H H' → GIn K H' Ta L Pk Db Ro Ba us ts ls pk' b' r' z at_ mode → IsTr H' (.of x ps) v → Gen ts ls z at_ mode as b b' pk.length pk'.length r r' ps → Q v H') : SpGen K n vs H Q
noncomputable def spGen (K : PySem.W.Frag) (n : Nat) : Sp := fun vs H Q _ => SpGen K n vs H Q
theorem GIn.same {H H' : Hp} {Ta L Pk Db Ro Ba : Addr} {us : List V} {ts : List Tm} {ls : List Nat} {pk : List Int} {b : Bd} {r : Nat} {z : Str} {at_ mode : Nat} (h : GIn K H Ta L Pk Db Ro Ba us ts ls pk b r z at_ mode) (sm : Same H H') : GIn K H' Ta L Pk Db Ro Ba us ts ls pk b r z at_ mode :=
  ⟨sm _ _ h.hTa, tms_same sm h.tms, sm _ _ h.hL, sm _ _ h.hPk, sm _ _ h.hDb, sm _ _ h.hRo, sm _ _ h.hBa, h.wok, h.pk26, h.blen⟩
theorem GIn.updA {H : Hp} {Ta L Pk Db Ro Ba A : Addr} {us : List V} {ts : List Tm} {ls : List Nat} {pk : List Int} {b : Bd} {r : Nat} {z : Str} {at_ mode : Nat} {vs vs' : List V} (h : GIn K H Ta L Pk Db Ro Ba us ts ls pk b r z at_ mode) (hA : H A = some (.lst vs)) (n1 : Ta ≠ A) (n2 : L ≠ A) (n3 : Pk ≠ A) (n4 : Ro ≠ A) :
    GIn K (upd H A (.lst vs')) Ta L Pk Db Ro Ba us ts ls pk b r z at_ mode :=
  ⟨by rw [upd_ne n1]; exact h.hTa, tms_keep (fun c ys e => by rw [upd_ne (ne_of e hA (fun z => nomatch z))]; exact e) h.tms, by rw [upd_ne n2]; exact h.hL, by rw [upd_ne n3]; exact h.hPk, by rw [upd_ne (ne_of h.hDb hA (fun z => nomatch z))]; exact h.hDb, by rw [upd_ne n4]; exact h.hRo, by rw [upd_ne (ne_of h.hBa hA (fun z => nomatch z))]; exact h.hBa, h.wok, h.pk26, h.blen⟩
theorem GIn.rest {H H' : Hp} {Ta L Pk Db Ro Ba : Addr} {us : List V} {ts : List Tm} {ls : List Nat} {pk : List Int} {b : Bd} {r : Nat} {z : Str} {at_ mode : Nat} (h : GIn K H Ta L Pk Db Ro Ba us ts ls pk b r z at_ mode) (bt : Rest3 Pk Db Ro H H') : ∀ c ys, H c = some (.tup ys) → H' c = some (.tup ys) :=
  fun c ys e => bt c _ (ne_of e h.hPk (fun z => nomatch z)) (ne_of e h.hDb (fun z => nomatch z)) (ne_of e h.hRo (fun z => nomatch z)) e
inductive GnI (K : PySem.W.Frag) (H : Hp) (Ta L Pk Db Ro Ba Ar : Addr) (t : Nat) (us : List V) (ts : List Tm) (ls : List Nat) (np : Nat) (b : Bd) (r : Nat) (z : Str) (at_ mode : Nat) (as : List Nat) (i : Nat) (σ : St) (H' : Hp) : Prop
  | mk (x9 x10 x11 x12 x13 : Option V) (vs : List V) (ps : List T) (b' : Bd) (pk' : List Int) (r' : Nat) : (σ = [some (.ref Ta), some (.ref L), some (nV t), some (.ref Pk), some (.ref Db), some (.ref Ro), some (.ref Ba), some (nV mode), some (.ref Ar), x9, x10, x11, x12, x13]) → Rest3 Pk Db Ro H H' →
      GIn K H' Ta L Pk Db Ro Ba us ts ls pk' b' r' z at_ mode → H' Ar = some (.lst vs) → IsTrs H' ps vs → ps.length = i → Gen ts ls z at_ mode (as.take i) b b' np pk'.length r r' ps → GnI K H Ta L Pk Db Ro Ba Ar t us ts ls np b r z at_ mode as i σ H'
theorem trs_more {H : Hp} {t : T} {v : V} : ∀ {ts : List T} {vs : List V}, IsTrs H ts vs → IsTr H t v → IsTrs H (ts ++ [t]) (vs ++ [v])
  | [], vs, h, q => by
    rw [IsTrs] at h
    subst h
    rw [List.nil_append, List.nil_append, IsTrs]
    exact ⟨v, [], rfl, q, by rw [IsTrs]⟩
  | p :: ps, vs, h, q => by
    rw [IsTrs] at h
    obtain ⟨u, r, rfl, h1, h2⟩ := h
    rw [List.cons_append, List.cons_append, IsTrs]
    exact ⟨u, _, rfl, h1, trs_more h2 q⟩
theorem gnI_arm {H H' : Hp} {Ta L Pk Db Ro Ba Ar : Addr} {t : Nat} {us : List V} {ts : List Tm} {ls : List Nat} {np : Nat} {b : Bd} {r : Nat} {z : Str} {at_ mode : Nat} {as : List Nat} {i a n1 r1 : Nat} {b1 b2 : Bd} {pk2 : List Int} {r2 : Nat} {vs : List V} {ps : List T} {p : T} {v : V} {x9 x10 x11 x12 x13 : Option V} {σ : St}
    (eσ : σ = [some (.ref Ta), some (.ref L), some (nV t), some (.ref Pk), some (.ref Db), some (.ref Ro), some (.ref Ba), some (nV mode), some (.ref Ar), x9, x10, x11, x12, x13]) (bt : Rest3 Pk Db Ro H H') (g : GIn K H' Ta L Pk Db Ro Ba us ts ls pk2 b2 r2 z at_ mode) (hA0 : H Ar = none) (hT0 : H Ta ≠ none) (hL0 : H L ≠ none) (hP0 : H Pk ≠ none) (hR0 : H Ro ≠ none)
    (hA : H' Ar = some (.lst vs)) (htr : IsTrs H' ps vs) (hv : IsTr H' p v) (hi : ps.length = i) (ge : Gen ts ls z at_ mode (as.take i) b b1 np n1 r r1 ps) (ha : as[i]? = some a) (arm : ArmG ts ls z at_ mode (ls.getD a 0) b1 b2 n1 pk2.length r1 r2 p) :
    GnI K H Ta L Pk Db Ro Ba Ar t us ts ls np b r z at_ mode as (i + 1) σ (upd H' Ar (.lst (vs ++ [v]))) := by
  have nA : ∀ c, H c ≠ none → c ≠ Ar := fun c h z => h (by rw [z]; exact hA0)
  have kp : ∀ c ys, H' c = some (.tup ys) → (upd H' Ar (.lst (vs ++ [v]))) c = some (.tup ys) := fun c ys e => by rw [upd_ne (ne_of e hA (fun z => nomatch z))]; exact e
  refine ⟨x9, x10, x11, x12, x13, vs ++ [v], ps ++ [p], b2, pk2, r2, eσ, fun c o m1 m2 m3 h => ?_, g.updA hA (nA _ hT0) (nA _ hL0) (nA _ hP0) (nA _ hR0), upd_same, trs_more (trs_keep kp htr) (tr_keep kp hv), by rw [List.length_append, hi]; rfl, gen_snoc ge ha arm⟩
  rw [upd_ne (nA c (fun z => by rw [z] at h; cases h))]
  exact bt c o m1 m2 m3 h
theorem ok_general (B : Blt mg) (h_hole : Has P w K mg base 1 "_law_hole" ["_law_base", "_law_at", "_law_turn_by", "_law_many", "_law_lead"] spHl)
    (D : Def K mg "_law_general" s_general ["_law_terms_here", "_law_leads", "_law_t", "_law_picks", "_law_binds", "_law_room", "_law_base", "_law_mode"]) :
    ∀ n, Has P w K mg base (n + 1) "_law_general" ["_law_terms_here", "_law_leads", "_law_t", "_law_picks", "_law_binds", "_law_room", "_law_base", "_law_mode"] (spGen K n)
  | 0 => by
    obtain ⟨fa, fd, F, hm, hb⟩ := D.ex
    have no : ∀ vs H Q E, ¬ spGen K 0 vs H Q E := fun vs H Q E h => by
      obtain ⟨Ta, L, Pk, Db, Ro, Ba, us, ts, ls, t, pk, b, r, z, at_, mode, x, as, _, _, _, _, z4, _⟩ := h
      omega
    exact ⟨fa, fd, ⟨fun vs H Q E h => absurd h (no vs H Q E), fun A outer s H args us vs Q E _ _ _ _ h => absurd h (no vs H Q E)⟩, hm, F.kp, hb⟩
  | n + 1 => by
    have h_general := ok_general B h_hole D n
    refine D.has sc_general (fun vs H Q E h => ?_) (fun f cdv A outer s H vs Q E hr h => ?_)
    · obtain ⟨Ta, L, Pk, Db, Ro, Ba, us, ts, ls, t, pk, b, r, z, at_, mode, x, as, rfl, _⟩ := h; rfl
    obtain ⟨Ta, L, Pk, Db, Ro, Ba, us, ts, ls, t, pk, b, r, z, at_, mode, x, as, rfl, gi, fx, ht, hrn, hpk, q⟩ := h
    refine ⟨_, (pss_cons (ps_set (i := 8) sc_general.nd rfl (Or.inl rfl) (pe_lst pa_nil))
    (pss_cons (ps_for PassesOwn.never rfl (pi_tup (pe_ix ix_tup (pe_ix ix_list (pv 0) (pv 2) (fun _ _ => rfl)) pe_int (fun _ _ => rfl))) (pg_name (i := 9) sc_general.nd rfl (Or.inr rfl))
    (pss_cons (ps_set (i := 10) sc_general.nd rfl (Or.inl rfl) (pe_bm0 PySem.F.plainAttrs_list PySem.F.slot_list_pop PySem.F.type_list_pop mt_pop (pv 3)))
    (pss_cons (ps_setCompI (i := 11) sc_general.nd rfl rfl (te := _) (ct := (tTest (tOp _ (tOp (rIxL K) _ _) (tOp (rIxL K) _ _)))) (own := ["_law_j"]) (caps := [("_law_leads", 1), ("_law_place", 9)]) (comp_scope (defScope s_general) ["_law_terms_here", "_law_leads", "_law_t", "_law_picks", "_law_binds", "_law_room", "_law_base", "_law_mode", "_law_arms", "_law_place", "_law_m", "_law_some", "_law_j", "_law_word_here"] rfl rfl rfl (by decide +kernel)) (pi_range1 rfl B.range_ (pa_cons (pe_callB call_len_seq rfl B.len_ PySem.boot_len (pa_cons (pv 0) pa_nil)) pa_nil)) rfl (fun _ _ _ => pg_name (i := 0) (show (["_law_j", "_law_leads", "_law_place"] : List Str).Nodup by decide +kernel) rfl (Or.inl rfl)) (fun _ _ _ => (pt_cmpR op_eq (pe_ix ix_list (pv 1) (pv 0) (fun _ _ => rfl)) (pe_ix ix_list (pv 1) (pv 2) (fun _ _ => rfl)) (nomark _))) (fun _ _ _ => (pv 0)) rfl)
    (pss_cons (ps_set (i := 12) sc_general.nd rfl (Or.inl rfl) (pe_ix ix_list (pv 11) (pe_op op_mod (pe_op op_fdiv (pv 10) pe_int) (pe_callB call_len_seq rfl B.len_ PySem.boot_len (pa_cons (pv 11) pa_nil))) (fun _ _ => rfl)))
    (pss_one (ps_if (PW.pt (pw_and (pt_cmpR op_lt (pe_op op_mod (pv 10) pe_int) pe_int (nomark _)) (pw_and (pt_cmpR op_eq (pe_ix ix_tup (pe_ix ix_list (pv 0) (pv 12) (fun _ _ => rfl)) pe_int (fun _ _ => rfl)) pe_str (nomark _)) (pw_and (pt_cmpR op_gt (pe_callB call_len_seq rfl B.len_ PySem.boot_len (pa_cons (pv 5) pa_nil)) pe_int (nomark _)) (pw_and1 (pt_cmpR op_lt (pe_callB call_len_seq rfl B.len_ PySem.boot_len (pa_cons (pe_ix ix_tup (pe_ix ix_list (pv 0) (pv 12) (fun _ _ => rfl)) pe_int (fun _ _ => rfl)) pa_nil)) (pe_op op_add pe_int (pe_callB call_len_seq rfl B.len_ PySem.boot_len (pa_cons (pv 5) pa_nil))) (nomark _))))))) (pss_cons (ps_expr (pe_bm0 PySem.F.plainAttrs_list PySem.F.slot_list_pop PySem.F.type_list_pop mt_pop (pv 5)))
    (pss_one (ps_expr (pe_bm PySem.F.plainAttrs_list PySem.F.slot_list_append PySem.F.type_list_append mt_append (pv 8) (pa_cons (pe_callH h_general hr (by omega) rfl (pa_cons (pv 0) (pa_cons (pv 1) (pa_cons (pv 12) (pa_cons (pv 3) (pa_cons (pv 4) (pa_cons (pv 5) (pa_cons (pv 6) (pa_cons (pv 7) pa_nil))))))))) pa_nil))))) (pss_one (ps_if (PW.pt (pw_and (pt_cmpR op_lt (pe_op op_mod (pv 10) pe_int) pe_int (nomark _)) (pw_and1 (pt_cmpR op_ne (pe_ix ix_tup (pe_ix ix_list (pv 0) (pv 12) (fun _ _ => rfl)) pe_int (fun _ _ => rfl)) pe_str (nomark _))))) (pss_one (ps_expr (pe_bm PySem.F.plainAttrs_list PySem.F.slot_list_append PySem.F.type_list_append mt_append (pv 8) (pa_cons (pe_ix ix_list (pv 0) (pv 12) (fun _ _ => rfl)) pa_nil)))) (pss_cons (ps_set (i := 13) sc_general.nd rfl (Or.inl rfl) (pe_callH h_hole hr (by omega) rfl (pa_cons (pe_ix ix_tup (pv 6) pe_int (fun _ _ => rfl)) (pa_cons (pe_ix ix_tup (pv 6) pe_int (fun _ _ => rfl)) (pa_cons (pv 7) (pa_cons (pe_callB call_len_seq rfl B.len_ PySem.boot_len (pa_cons (pv 3) pa_nil)) (pa_cons (pe_ix ix_list (pv 1) (pv 9) (fun _ _ => rfl)) pa_nil)))))))
    (pss_cons (ps_dput (hu_of hr) (pv 4) (pv 13) (pe_ix ix_list (pv 1) (pv 9) (fun _ _ => rfl)) rfl)
    (pss_one (ps_expr (pe_bm PySem.F.plainAttrs_list PySem.F.slot_list_append PySem.F.type_list_append mt_append (pv 8) (pa_cons (pe_tup (pa_cons pe_str (pa_cons (pv 13) pa_nil))) pa_nil))))))))))))))
    (pss_one (ps_ret (pe_tup (pa_cons pe_str (pa_cons (pe_ix ix_tup (pe_ix ix_list (pv 0) (pv 2) (fun _ _ => rfl)) pe_int (fun _ _ => rfl)) (pa_cons (pe_callTy call_tuple_of rfl B.tuple_ boot_tuple_ (pa_cons (pv 8) pa_nil)) pa_nil)))))))), ?_⟩
    try dsimp only [cxOf]
    have hul := Paired.length gi.tms
    have htl := (List.getElem?_eq_some_iff.mp ht).1
    have hu : us[t]? = some (us[t]'(by omega)) := List.getElem?_eq_getElem (by omega)
    generalize us[t]'(by omega) = u at hu
    obtain ⟨tm, ht', hut⟩ := tms_at gi.tms hu
    rw [ht] at ht'
    cases ht'
    obtain ⟨ta, tb, rfl, hta, htb⟩ := hut
    refine ⟨Nat.zero_le _, fun Ar hAr => ?_⟩
    dsimp only [gName]
    have hT0 : H Ta ≠ none := fun z => by rw [gi.hTa] at z; cases z
    have hL0 : H L ≠ none := fun z => by rw [gi.hL] at z; cases z
    have hP0 : H Pk ≠ none := fun z => by rw [gi.hPk] at z; cases z
    have hR0 : H Ro ≠ none := fun z => by rw [gi.hRo] at z; cases z
    have s0 := same_new hAr (.lst [])
    have hA0 := upd_same (H := H) (a := Ar) (o := .lst [])
    generalize upd H Ar (.lst []) = H0 at s0 hA0 ⊢
    have g0 := gi.same s0
    have hlt : ∀ a ∈ as, a < ts.length := fun a ha => by have := (fx.ok.at ht x as rfl).2 a ha; have := fx.ok.len; omega
    have hls := fx.ok.len
    refine ⟨_, rfl, _, rfl, Ta, _, _, _, rfl, rfl, SqL.of g0.hTa, atI_nat hu, ta, _, 2, _, rfl, rfl, SqT.of (s0 _ _ hta), atI_nat (j := 2) rfl, tb, rfl, ⟨_, SqT.of (s0 _ _ htb)⟩, ?_⟩
    refine for_tup (xs := as.map nV) (GnI K H Ta L Pk Db Ro Ba Ar t us ts ls pk.length b r z at_ mode as) ⟨none, none, none, none, none, [], [], b, pk, r, rfl, fun c o _ _ _ h => s0 c o h, g0, hA0, by rw [IsTrs], rfl, by rw [List.take_zero]; exact gen_nil gi.wok⟩ ?_ ?_ ?_
    · rintro i σ H' _ ⟨x9, x10, x11, x12, x13, vs, ps, b', pk', r', rfl, bt, g1, _⟩
      exact SqT.of (gi.rest bt _ _ htb)
    · rintro i y σ H' hy ⟨x9, x10, x11, x12, x13, vs, ps, b', pk', r', rfl, bt, g1, hA1, htr, hpl, ge⟩
      rw [List.getElem?_map] at hy
      obtain ⟨a, ha, rfl⟩ := Option.map_eq_some_iff.mp hy
      have hil := (List.getElem?_eq_some_iff.mp ha).1
      have hal := hlt a (List.mem_of_getElem? ha)
      have hus := ge.use
      rw [List.length_take, Nat.min_eq_left (Nat.le_of_lt hil)] at hus
      have hrle := ge.rle
      dsimp only [gName]
      rcases List.eq_nil_or_concat pk' with rfl | ⟨pk1, m, rfl⟩
      · rw [List.length_nil] at hus; omega
      rw [List.concat_eq_append] at *
      have epk : (pk1 ++ [m]).map V.int = pk1.map V.int ++ [V.int m] := by rw [List.map_append]; rfl
      rw [List.length_append, List.length_singleton] at hus
      refine ⟨_, rfl, .inl ⟨rfl, _, SqL.of g1.hPk⟩, Pk, _, V.int m, rfl, rfl, g1.hPk, by rw [epk, List.length_append, List.length_singleton, Nat.add_sub_cancel, List.getElem?_concat_length], ?_⟩
      dsimp only [gName]
      rw [epk, List.dropLast_concat]
      have bt2 : Rest3 Pk Db Ro H (upd H' Pk (.lst (pk1.map V.int))) := fun c o n1 n2 n3 h => by rw [upd_ne n1]; exact bt c o n1 n2 n3 h
      have g2 : GIn K (upd H' Pk (.lst (pk1.map V.int))) Ta L Pk Db Ro Ba us ts ls pk1 b' r' z at_ mode := by
        have p26 := g1.pk26
        have bl := g1.blen
        rw [List.length_append, List.length_singleton] at p26 bl
        refine ⟨by rw [upd_ne fx.n1]; exact g1.hTa, tms_keep (fun c ys e => by rw [upd_ne (ne_of e g1.hPk (fun z => nomatch z))]; exact e) g1.tms, by rw [upd_ne fx.n3]; exact g1.hL, upd_same, by rw [upd_ne (ne_of g1.hDb g1.hPk (fun z => nomatch z))]; exact g1.hDb, by rw [upd_ne (Ne.symm fx.n5)]; exact g1.hRo,
          by rw [upd_ne (ne_of g1.hBa g1.hPk (fun z => nomatch z))]; exact g1.hBa, g1.wok.less (by rw [List.length_append]; exact Nat.le_add_right _ _), by omega, by omega⟩
      have nPA : Ar ≠ Pk := fun e => hP0 (by rw [← e]; exact hAr)
      have hA2 : (upd H' Pk (.lst (pk1.map V.int))) Ar = some (.lst vs) := by rw [upd_ne nPA]; exact hA1
      have htr2 : IsTrs (upd H' Pk (.lst (pk1.map V.int))) ps vs := trs_keep (fun c ys e => by rw [upd_ne (ne_of e g1.hPk (fun z => nomatch z))]; exact e) htr
      have wok1 := ge.wok
      have elen : (pk1 ++ [m]).length = pk1.length + 1 := by rw [List.length_append]; rfl
      rw [elen] at wok1
      generalize upd H' Pk (.lst (pk1.map V.int)) = H2 at bt2 g2 hA2 htr2 ⊢
      refine ⟨_, rfl, Ta, _, rfl, .inl (SqL.of g2.hTa), _, rfl, by have := fx.few; omega, by have := fx.few; omega, ?_⟩
      rw [Int.toNat_natCast, hul]
      refine compI_range (lo := 0) (fun i => if decide (ls.getD i.toNat 0 = ls.getD a 0) = true then some (nV i.toNat) else none) (by have := fx.few; omega) (fun i hi H' sm R q' => ?_) (fun i v hi e H' sm Q' q' => ?_) (fun D1 hD1 => ?_)
      · have e1 : ls[i]? = some (ls.getD i 0) := getD_at (by omega)
        have e2 : ls[a]? = some (ls.getD a 0) := getD_at (by omega)
        have ei : (0 + (i : Int)) = ((i : Nat) : Int) := by omega
        rw [ei] at q' ⊢
        refine ⟨_, rfl, _, rfl, L, _, _, _, rfl, rfl, SqL.of (sm _ _ g2.hL), nV_at e1, _, rfl, _, rfl, L, _, _, _, rfl, rfl, SqL.of (sm _ _ g2.hL), nV_at e2, rfl, _, rfl, ?_⟩
        rw [Int.toNat_natCast] at q'
        have e3 : decide (nV (ls.getD i 0) = nV (ls.getD a 0)) = decide (ls.getD i 0 = ls.getD a 0) := decide_eq_decide.mpr ⟨fun z => by have := V.int.inj z; omega, fun z => by rw [z]⟩
        rw [e3]
        cases hd : decide (ls.getD i 0 = ls.getD a 0) with
        | true => rw [hd] at q'; exact q'
        | false => rw [hd] at q'; exact q'
      · have ei : (0 + (i : Int)) = ((i : Nat) : Int) := by omega
        rw [ei] at e ⊢
        rw [Int.toNat_natCast] at e
        split at e
        · have := Option.some.inj e
          subst this
          exact ⟨_, rfl, q'⟩
        · cases e
      dsimp only [gName]
      have hall : ∀ v ∈ ((List.range ts.length).filterMap fun i : Nat => if decide (ls.getD (0 + (i : Int)).toNat 0 = ls.getD a 0) = true then some (nV (0 + (i : Int)).toNat) else none), ∃ j : Nat, v = nV j ∧ j < ts.length ∧ ls.getD j 0 = ls.getD a 0 := fun v hv => by
        obtain ⟨i, hi, e⟩ := List.mem_filterMap.mp hv
        have ei : (0 + (i : Int)).toNat = i := by omega
        rw [ei] at e
        split at e
        · rename_i hd
          exact ⟨i, (Option.some.inj e).symm, List.mem_range.mp hi, of_decide_eq_true hd⟩
        · cases e
      have hpos : 0 < ((List.range ts.length).filterMap fun i : Nat => if decide (ls.getD (0 + (i : Int)).toNat 0 = ls.getD a 0) = true then some (nV (0 + (i : Int)).toNat) else none).length := by
        refine List.length_pos_of_mem (a := nV a) (List.mem_filterMap.mpr ⟨a, List.mem_range.mpr hal, ?_⟩)
        have ei : (0 + (a : Int)).toNat = a := by omega
        rw [ei, decide_eq_true rfl]; rfl
      generalize ((List.range ts.length).filterMap fun i : Nat => if decide (ls.getD (0 + (i : Int)).toNat 0 = ls.getD a 0) = true then some (nV (0 + (i : Int)).toNat) else none) = zs at hall hpos ⊢
      have s3 := same_new hD1 (.lst zs)
      have hD3 := upd_same (H := H2) (a := D1) (o := .lst zs)
      have g3 := g2.same s3
      have bt3 := bt2.same s3
      have hA3 := s3 _ _ hA2
      have htr3 := trs_keep (fun c ys e => s3 _ _ e) htr2
      generalize upd H2 D1 (.lst zs) = H3 at s3 hD3 g3 bt3 hA3 htr3 ⊢
      have k0 : 0 ≤ m / 7 % ((zs.length : Nat) : Int) := Int.emod_nonneg _ (by omega)
      have k1 : m / 7 % ((zs.length : Nat) : Int) < ((zs.length : Nat) : Int) := Int.emod_lt_of_pos _ (by omega)
      obtain ⟨v, hv, hvm⟩ := atI_ex k0 k1
      obtain ⟨j, rfl, hj, hlj⟩ := hall v hvm
      refine ⟨_, rfl, _, rfl, _, _, rfl, rfl, div', _, rfl, D1, _, rfl, .inl (SqL.of hD3), _, _, rfl, rfl, by omega, D1, _, _, _, rfl, rfl, SqL.of hD3, hv, ?_⟩
      dsimp only [gName]
      have huj : us[j]? = some (us[j]'(by omega)) := List.getElem?_eq_getElem (by omega)
      generalize us[j]'(by omega) = uj at huj
      obtain ⟨tj, htj, hutj⟩ := tms_at g3.tms huj
      obtain ⟨qj, kj, vj, rfl, hqj, ofj, lfj⟩ := tm_head hutj
      have p26 := g3.pk26
      have gel : Gen ts ls z at_ mode (as.take i) b b' pk.length (pk1.length + 1) r r' ps := by rw [← elen]; exact ge
      refine rd_ifR (fun c Hc => Hc = H3 ∧ (c = true → kj = "of" ∧ 0 < r' ∧ ∀ y as' c', tj = .of y as' → vj = [.str y, .ref c'] → H3 c' = some (.tup (as'.map nV)) → as'.length < 3 + r')) (fun Qc qc => ?_) ?_ ?_
      · refine ⟨_, rfl, _, _, rfl, rfl, pos', _, _, rfl, rfl, _, rfl, iteD (fun _ => ?_) (fun _ => qc false _ ⟨rfl, fun z => nomatch z⟩)⟩
        refine ⟨_, rfl, _, rfl, Ta, _, _, _, rfl, rfl, SqL.of g3.hTa, atI_nat huj, qj, _, 0, _, rfl, rfl, SqT.of hqj, atI_nat (j := 0) rfl, rfl, _, rfl, iteD (fun ek => ?_) (fun _ => qc false _ ⟨rfl, fun z => nomatch z⟩)⟩
        have ek := V.str.inj ek
        obtain ⟨y, as', c', e1, e2, hc'⟩ := ofj ek
        subst e1 e2
        refine ⟨_, rfl, Ro, _, rfl, .inl (SqL.of g3.hRo), _, _, rfl, rfl, _, rfl, iteD (fun hr0 => ?_) (fun _ => qc false _ ⟨rfl, fun z => nomatch z⟩)⟩
        rw [List.length_replicate] at hr0
        refine ⟨_, rfl, _, rfl, Ta, _, _, _, rfl, rfl, SqL.of g3.hTa, atI_nat huj, qj, _, 2, _, rfl, rfl, SqT.of hqj, atI_nat (j := 2) rfl, c', _, rfl, .inr (SqT.of hc'), _, rfl, Ro, _, rfl, .inl (SqL.of g3.hRo), _, _, rfl, rfl, _, _, rfl, rfl, _, rfl, qc _ _ ⟨rfl, fun z => ⟨ek, by omega, fun y2 as2 c2 f1 f2 f3 => ?_⟩⟩⟩
        cases f1
        have := of_decide_eq_true z
        rw [List.length_map, List.length_replicate] at this
        omega
      · rintro H3 ⟨rfl, hc⟩
        obtain ⟨ek, hr0, hlen⟩ := hc rfl
        obtain ⟨y, as', c', e1, e2, hc'⟩ := ofj ek
        have hal' := hlen y as' c' e1 e2 hc'
        subst e1 e2
        obtain ⟨r1, rfl⟩ : ∃ r1, r' = r1 + 1 := ⟨r' - 1, by omega⟩
        have erep : List.replicate (r1 + 1) (V.int 0) = List.replicate r1 (.int 0) ++ [.int 0] := List.replicate_succ'
        refine ⟨_, rfl, .inl ⟨rfl, _, SqL.of g3.hRo⟩, Ro, _, V.int 0, rfl, rfl, g3.hRo, by rw [erep, List.length_append, List.length_singleton, Nat.add_sub_cancel, List.getElem?_concat_length], ?_⟩
        rw [erep, List.dropLast_concat]
        have bt4 : Rest3 Pk Db Ro H (upd H3 Ro (.lst (List.replicate r1 (.int 0)))) := fun c o n1 n2 n3 h => by rw [upd_ne n3]; exact bt3 c o n1 n2 n3 h
        have g4 : GIn K (upd H3 Ro (.lst (List.replicate r1 (.int 0)))) Ta L Pk Db Ro Ba us ts ls pk1 b' r1 z at_ mode :=
          ⟨by rw [upd_ne fx.n2]; exact g3.hTa, tms_keep (fun c ys e => by rw [upd_ne (ne_of e g3.hRo (fun z => nomatch z))]; exact e) g3.tms, by rw [upd_ne fx.n4]; exact g3.hL, by rw [upd_ne fx.n5]; exact g3.hPk, by rw [upd_ne (ne_of g3.hDb g3.hRo (fun z => nomatch z))]; exact g3.hDb, upd_same,
            by rw [upd_ne (ne_of g3.hBa g3.hRo (fun z => nomatch z))]; exact g3.hBa, g3.wok, g3.pk26, g3.blen⟩
        have nRA : Ar ≠ Ro := fun e => hR0 (by rw [← e]; exact hAr)
        have hA4 : (upd H3 Ro (.lst (List.replicate r1 (.int 0)))) Ar = some (.lst vs) := by rw [upd_ne nRA]; exact hA3
        have htr4 : IsTrs (upd H3 Ro (.lst (List.replicate r1 (.int 0)))) ps vs := trs_keep (fun c ys e => by rw [upd_ne (ne_of e g3.hRo (fun z => nomatch z))]; exact e) htr3
        generalize upd H3 Ro (.lst (List.replicate r1 (.int 0))) = H4 at bt4 g4 hA4 htr4 ⊢
        rw [fR] at hus
        refine ⟨_, rfl, .inl ⟨rfl, _, SqL.of hA4⟩, _, rfl, _, rfl, _, rfl, _, rfl, _, rfl, _, rfl, _, rfl, _, rfl, Ta, L, Pk, Db, Ro, Ba, us, ts, ls, j, pk1, b', r1, z, at_, mode, y, as', rfl, g4, fx, htj, by omega, by omega, fun v ps' b2 pk2 r2 H5 bt5 g5 hv5 ge5 => ?_⟩
        have nDA : Ar ≠ Db := fun e => by rw [e, g4.hDb] at hA4; cases hA4
        have hA5 := bt5 _ _ nPA nDA nRA hA4
        refine ⟨Ar, _, v, rfl, rfl, hA5, small1000 ?_, gnI_arm rfl (bt4.trans bt5) g5 hAr hT0 hL0 hP0 hR0 hA5 (trs_keep (g4.rest bt5) htr4) hv5 hpl gel ha ?_⟩
        · have := trs_len htr4; have := fx.ok.small _ _ _ ht; omega
        · rw [← hlj]
          exact arm_knot hal' ge5
      · rintro H3 ⟨rfl, _⟩
        refine rd_ifR (fun c Hc => Hc = H3 ∧ (c = true → kj ≠ "of")) (fun Qc qc => ?_) ?_ ?_
        · refine ⟨_, rfl, _, _, rfl, rfl, pos', _, _, rfl, rfl, _, rfl, iteD (fun _ => ?_) (fun _ => qc false _ ⟨rfl, fun z => nomatch z⟩)⟩
          refine ⟨_, rfl, _, rfl, Ta, _, _, _, rfl, rfl, SqL.of g3.hTa, atI_nat huj, qj, _, 0, _, rfl, rfl, SqT.of hqj, atI_nat (j := 0) rfl, rfl, _, rfl, qc _ _ ⟨rfl, fun z e => ?_⟩⟩
          rw [e] at z
          exact absurd z (by decide)
        · rintro H3 ⟨rfl, hk⟩
          obtain ⟨p, htp, ph, pd, pn, pa, pc⟩ := lfj (hk rfl)
          refine ⟨_, rfl, .inl ⟨rfl, _, SqL.of hA3⟩, _, rfl, _, rfl, Ta, _, _, _, rfl, rfl, SqL.of g3.hTa, atI_nat huj, Ar, _, _, rfl, rfl, hA3, small1000 ?_, gnI_arm rfl bt3 g3 hAr hT0 hL0 hP0 hR0 hA3 htr3 htp hpl gel ha (arm_leaf wok1 ph pd pn pa)⟩
          have := trs_len htr3; have := fx.ok.small _ _ _ ht; omega
        · rintro H3 ⟨rfl, _⟩
          have e2 : ls[a]? = some (ls.getD a 0) := getD_at (by omega)
          refine ⟨_, rfl, Ba, _, 0, _, rfl, rfl, SqT.of g3.hBa, atI_nat (j := 0) rfl, _, rfl, Ba, _, 1, _, rfl, rfl, SqT.of g3.hBa, atI_nat (j := 1) rfl, _, rfl, _, rfl, Pk, _, rfl, .inl (SqL.of g3.hPk), _, rfl, _, rfl, L, _, _, _, rfl, rfl, SqL.of g3.hL, nV_at e2, z, at_, mode, pk1.length, ls.getD a 0, by rw [List.length_map]; rfl, fx.z8, fx.hat, fx.hm, p26, fx.lt a, fun H4 s4 => ?_⟩
          dsimp only [gName]
          have g4 := g3.same s4
          have bt4 := bt3.same s4
          have hA4 := s4 _ _ hA3
          have htr4 := trs_keep (fun c ys e => s4 _ _ e) htr3
          have hel : (enc b').length = b'.length := by unfold enc; rw [List.length_map]
          have bl := g4.blen
          obtain ⟨b2, eb2, lb2, kb2, nb2⟩ := put_bd b' (hw z at_ (hI mode (ls.getD a 0) pk1.length)) (ls.getD a 0)
          refine ⟨_, rfl, _, rfl, L, _, _, _, rfl, rfl, SqL.of g4.hL, nV_at e2, _, rfl, _, rfl, Db, _, rfl, DPut.k (k := .inr (hw z at_ (hI mode (ls.getD a 0) pk1.length))) g4.hDb (small1000 (by omega)), ?_⟩
          rw [eb2]
          have arm := arm_hole (ts := ts) (ls := ls) (r := r') wok1 lb2 nb2 kb2
          have bt5 : Rest3 Pk Db Ro H (upd H4 Db (.dK (enc b2))) := fun c o n1 n2 n3 h => by rw [upd_ne n2]; exact bt4 c o n1 n2 n3 h
          have kp : ∀ c o, H4 c = some o → (∀ kvs, o ≠ .dK kvs) → (upd H4 Db (.dK (enc b2))) c = some o := fun c o e n => by rw [upd_ne (fun z => by rw [z, g4.hDb] at e; exact n _ (Option.some.inj e).symm)]; exact e
          have g5 : GIn K (upd H4 Db (.dK (enc b2))) Ta L Pk Db Ro Ba us ts ls pk1 b2 r' z at_ mode :=
            ⟨kp _ _ g4.hTa (fun _ z => nomatch z), tms_keep (fun c ys e => kp _ _ e (fun _ z => nomatch z)) g4.tms, kp _ _ g4.hL (fun _ z => nomatch z), kp _ _ g4.hPk (fun _ z => nomatch z), upd_same, kp _ _ g4.hRo (fun _ z => nomatch z), kp _ _ g4.hBa (fun _ z => nomatch z), arm.wok, p26, by
              have bl0 := gi.blen; have h9 := ge.len; have a9 := arm.len; rw [elen] at h9; omega⟩
          have hA5 := kp _ _ hA4 (fun _ z => nomatch z)
          have htr5 := trs_keep (fun c ys e => kp _ _ e (fun _ z => nomatch z)) htr4
          generalize upd H4 Db (.dK (enc b2)) = H5 at bt5 g5 hA5 htr5 ⊢
          refine ⟨_, rfl, .inl ⟨rfl, _, SqL.of hA5⟩, _, rfl, (show 2 ≤ sizeLine by decide), fun p hp => ?_⟩
          have s6 := same_new hp (.tup [.str "any", .str (hw z at_ (hI mode (ls.getD a 0) pk1.length))])
          have h6 := upd_same (H := H5) (a := p) (o := .tup [.str "any", .str (hw z at_ (hI mode (ls.getD a 0) pk1.length))])
          generalize upd H5 p (.tup [.str "any", .str (hw z at_ (hI mode (ls.getD a 0) pk1.length))]) = H6 at s6 h6 ⊢
          refine ⟨Ar, _, _, rfl, rfl, s6 _ _ hA5, small1000 ?_, gnI_arm rfl (bt5.same s6) (g5.same s6) hAr hT0 hL0 hP0 hR0 (s6 _ _ hA5) (trs_keep (fun c ys e => s6 _ _ e) htr5) (by rw [IsTr]; exact ⟨p, rfl, h6⟩) hpl gel ha arm⟩
          have := trs_len htr5; have := fx.ok.small _ _ _ ht; omega
    · rintro σ H' ⟨x9, x10, x11, x12, x13, vs, ps, b', pk', r', rfl, bt, g1, hA1, htr, hpl, ge⟩
      rw [List.length_map] at ge hpl
      rw [List.take_length] at ge
      refine ⟨_, rfl, _, rfl, Ta, _, _, _, rfl, rfl, SqL.of g1.hTa, atI_nat hu, ta, _, 1, _, rfl, rfl, SqT.of (gi.rest bt _ _ hta), atI_nat (j := 1) rfl, _, rfl, Ar, _, rfl, .inl ⟨SqL.of hA1, fun tl htl => ?_⟩⟩
      have s1 := same_new htl (.tup vs)
      have h1 := upd_same (H := H') (a := tl) (o := .tup vs)
      generalize upd H' tl (.tup vs) = H1 at s1 h1 ⊢
      refine ⟨(show 3 ≤ sizeLine by decide), fun tp htp => ?_⟩
      have s2 := same_new htp (.tup [.str "of", .str x, .ref tl])
      have h2 := upd_same (H := H1) (a := tp) (o := .tup [.str "of", .str x, .ref tl])
      generalize upd H1 tp (.tup [.str "of", .str x, .ref tl]) = H2 at s2 h2 ⊢
      have s3 := s1.trans s2
      refine q (.ref tp) ps b' pk' r' H2 (bt.same s3) (g1.same s3) ?_ ge
      rw [IsTr]
      exact ⟨tp, tl, vs, rfl, h2, s2 _ _ h1, trs_keep (fun c ys e => s3 _ _ e) htr⟩
end

end K44
namespace K44
open PySem L2 Sw
section
variable {P : Program} {w : World} {K : PySem.W.Frag} {mg : Str → Option Value} {base : Heap}
theorem comp_rangeA {n : Nat} {te : TE} {σ : St} {caps : List (Str × Nat)} {H : Hp} {Q : VK} {lo : Int} (Rv : V → Prop) (hz : n ≤ 1000) (hel : ∀ i : Nat, i < n → ∀ H', Same H H' → ∀ Q' : VK, (∀ v, Rv v → Q' v H') → te (some (.int (lo + i)) :: capt σ caps) H' Q')
    (hq : ∀ D ys, H D = none → ys.length = n → (∀ v ∈ ys, Rv v) → Q (.ref D) (upd H D (.lst ys))) : CompBody (Itr lo n) (gName 0) te (List.replicate 1 none ++ capt σ caps) H Q := by
  intro D hD
  refine ⟨fun i m τ ys H' => m = n - i ∧ i ≤ n ∧ (∃ o, τ = o :: capt σ caps) ∧ ys.length = i ∧ (∀ v ∈ ys, Rv v) ∧ H' = upd H D (.lst ys), ⟨n, by simp, Nat.zero_le _, ⟨none, rfl⟩, rfl, (fun v hv => nomatch hv), rfl⟩, ?_⟩
  rintro i m τ ys H' ⟨rfl, hi, ⟨o, rfl⟩, hl, hall, rfl⟩
  refine ⟨upd_same, ?_⟩
  by_cases hlt : i < n
  · refine .inr ⟨hlt, small1000 (by omega), fun x H'' y => ?_⟩
    obtain ⟨e, y⟩ := y
    subst e y
    show te (some (.int (lo + i)) :: capt σ caps) _ _
    refine hel i hlt _ (same_new hD _) _ fun v hv => ⟨upd_same, n - (i + 1), by omega, rfl, hlt, ⟨_, rfl⟩, by rw [List.length_append, hl]; rfl, fun v' hv' => ?_, by rw [upd_upd]⟩
    rcases List.mem_append.mp hv' with h | h
    · exact hall v' h
    · rw [List.mem_singleton.mp h]; exact hv
  · have e : i = n := by omega
    subst e
    exact .inl ⟨Nat.le_refl _, hq D ys hD hl hall⟩
theorem ints_all : ∀ {ys : List V}, (∀ v ∈ ys, ∃ m : Int, v = .int m) → ∃ ns : List Int, ys = ns.map V.int
  | [], _ => ⟨[], rfl⟩
  | y :: ys, h => by
    obtain ⟨m, rfl⟩ := h y List.mem_cons_self
    obtain ⟨ns, rfl⟩ := ints_all fun v hv => h v (List.mem_cons_of_mem _ hv)
    exact ⟨m :: ns, rfl⟩
noncomputable def isOf : Option Tm → Bool
  | some (.of _ _) => true
  | _ => false
structure LeftOk (mode : Nat) (as : List Nat) (b : Bd) (ps : List T) : Prop where
  dom : ∀ y, (look b y).isSome = true ↔ y ∈ T.hols ps
  deep : T.deepest ps ≤ 3
  kns : T.kns ps ≤ 2
  hol : (T.hols ps).length ≤ 12
  nk : (b.map (·.1)).Nodup
  two : mode = 2 → b.length ≤ 2
  pl : ps.length = as.length
  ars : T.ars ps ≤ 12
theorem two_len {b : Bd} {u v : Str} (hn : (b.map (·.1)).Nodup) (h : ∀ x, (look b x).isSome = true → x = u ∨ x = v) : b.length ≤ 2 := by
  have := nodup_len (U := [u, v]) hn fun x hx => by
    rcases h x (look_mem.mpr hx) with e | e
    · rw [e]; exact List.mem_cons_self
    · rw [e]; exact List.mem_cons_of_mem _ List.mem_cons_self
  rw [List.length_map] at this
  exact this
inductive SpLeft (K : PySem.W.Frag) (vs : List V) (H : Hp) (Q : VK) : Prop
  | mk (S Ta L Po : Addr) (ns : List Int) (us : List V) (ts : List Tm) (ls : List Nat) (ws : List Str) (mode : Nat) (z0 : vs = [.ref S, .ref Ta, .ref L, .ref Po, nV mode]) (z1 : SqL K H S (ns.map V.int)) (z2 : H Ta = some (.lst us)) (z3 : Tms H us ts) (z4 : H L = some (.lst (ls.map nV))) (z5 : TLok ts ls) (z6 : ts.length ≤ 24)
    (z7 : ∀ a, ls.getD a 0 < 26) (z8 : HasOf ts) (z9 : PoolAt H Po ws) (z10 : mode < 3) (z11 : ∀ (i : Nat) x as, ts[i]? = some (.of x as) → as.length ≤ 4)
    (z12 : ∀ (p Db : Addr) (t : Nat) (x : Str) (as : List Nat) (v : V) (ps : List T) (b : Bd) (H' : Hp), Same H H' → ts[t]? = some (.of x as) → H' p = some (.tup [nV t, v, .ref Db]) → IsTr H' (.of x ps) v → H' Db = some (.dK (enc b)) → LeftOk mode as b ps → Q (.ref p) H') : SpLeft K vs H Q
noncomputable def spLeft (K : PySem.W.Frag) : Sp := fun vs H Q _ => SpLeft K vs H Q
theorem ok_left (B : Blt mg) (h_cell_at : Has P w K mg base 1 "_law_cell_at" ["_law_script", "_law_k"] (spCell K)) (h_mixed : Has P w K mg base 1 "_law_mixed" ["_law_cell", "_law_k"] spMixed)
    (h_general : Has P w K mg base 4 "_law_general" ["_law_terms_here", "_law_leads", "_law_t", "_law_picks", "_law_binds", "_law_room", "_law_base", "_law_mode"] (spGen K 3))
    (D : Def K mg "_law_left" s_left ["_law_script", "_law_terms_here", "_law_leads", "_law_pool_here", "_law_mode"]) : Has P w K mg base 5 "_law_left" ["_law_script", "_law_terms_here", "_law_leads", "_law_pool_here", "_law_mode"] (spLeft K) := by
  refine D.has sc_left (fun vs H Q E h => ?_) (fun f cdv A outer s H vs Q E hr h => ?_)
  · obtain ⟨S, Ta, L, Po, ns, us, ts, ls, ws, mode, rfl, _⟩ := h; rfl
  obtain ⟨S, Ta, L, Po, ns, us, ts, ls, ws, mode, rfl, hS, hT, hts, hL, ok, few, lt, hof, hp, hm, h4, q⟩ := h
  refine ⟨_, (pss_cons (ps_set (i := 5) sc_left.nd rfl (Or.inl rfl) (pe_callH h_mixed hr (by omega) rfl (pa_cons (pe_callH h_cell_at hr (by omega) rfl (pa_cons (pv 0) (pa_cons pe_int pa_nil))) (pa_cons pe_int pa_nil))))
    (pss_cons (ps_setCompI (i := 6) sc_left.nd rfl rfl (te := _) (ct := (tTest (tOp _ (tOp (rIxT K) (tOp (rIxL K) _ _) _) _))) (own := ["_law_t"]) (caps := [("_law_terms_here", 1)]) (comp_scope (defScope s_left) ["_law_script", "_law_terms_here", "_law_leads", "_law_pool_here", "_law_mode", "_law_m", "_law_some", "_law_t", "_law_picks", "_law_word_here", "_law_binds", "_law_left_here"] rfl rfl rfl (by decide +kernel)) (pi_range1 rfl B.range_ (pa_cons (pe_callB call_len_seq rfl B.len_ PySem.boot_len (pa_cons (pv 1) pa_nil)) pa_nil)) rfl (fun _ _ _ => pg_name (i := 0) (show (["_law_t", "_law_terms_here"] : List Str).Nodup by decide +kernel) rfl (Or.inl rfl)) (fun _ _ _ => (pt_cmpR op_eq (pe_ix ix_tup (pe_ix ix_list (pv 1) (pv 0) (fun _ _ => rfl)) pe_int (fun _ _ => rfl)) pe_str (nomark _))) (fun _ _ _ => (pv 0)) rfl)
    (pss_cons (ps_set (i := 7) sc_left.nd rfl (Or.inl rfl) (pe_ix ix_list (pv 6) (pe_op op_mod (pe_callH h_cell_at hr (by omega) rfl (pa_cons (pv 0) (pa_cons pe_int pa_nil))) (pe_callB call_len_seq rfl B.len_ PySem.boot_len (pa_cons (pv 6) pa_nil))) (fun _ _ => rfl)))
    (pss_cons (ps_setComp (i := 8) sc_left.nd rfl rfl (te := (tCall _ _ _ (tCons (tCall _ _ _ (tCons _ (tCons (tOp _ _ _) tNil))) (tCons (tOp _ _ _) tNil)))) (own := ["_law_k"]) (caps := [("_law_script", 0)]) (comp_scope (defScope s_left) ["_law_script", "_law_terms_here", "_law_leads", "_law_pool_here", "_law_mode", "_law_m", "_law_some", "_law_t", "_law_picks", "_law_word_here", "_law_binds", "_law_left_here"] rfl rfl rfl (by decide +kernel)) (pi_range1 rfl B.range_ (pa_cons pe_int pa_nil)) rfl (fun _ _ _ => pg_name (i := 0) (show (["_law_k", "_law_script"] : List Str).Nodup by decide +kernel) rfl (Or.inl rfl)) (fun _ _ _ => (pe_callH h_mixed hr (by omega) rfl (pa_cons (pe_callH h_cell_at hr (by omega) rfl (pa_cons (pv 1) (pa_cons (pe_op op_add pe_int (pv 0)) pa_nil))) (pa_cons (pe_op op_add pe_int (pv 0)) pa_nil)))) rfl)
    (pss_cons (ps_set (i := 9) sc_left.nd rfl (Or.inl rfl) (pe_slice sl_str (pe_ix ix_list (pv 3) pe_int (fun _ _ => rfl)) po_none (po_some pe_int)))
    (pss_cons (ps_set (i := 10) sc_left.nd rfl (Or.inl rfl) pe_dnewK)
    (pss_cons (ps_set (i := 11) sc_left.nd rfl (Or.inl rfl) (pe_callH h_general hr (by omega) rfl (pa_cons (pv 1) (pa_cons (pv 2) (pa_cons (pv 7) (pa_cons (pv 8) (pa_cons (pv 10) (pa_cons (pe_op op_rep (pe_lst (pa_cons pe_int pa_nil)) (pe_op op_mod (pv 5) pe_int)) (pa_cons (pe_tup (pa_cons (pv 9) (pa_cons (pe_op op_mod (pe_op op_fdiv (pv 5) pe_int) (pe_op op_add (pe_callB call_len_str rfl B.len_ PySem.boot_len (pa_cons (pv 9) pa_nil)) pe_int)) pa_nil))) (pa_cons (pv 4) pa_nil))))))))))
    (pss_one (ps_ret (pe_tup (pa_cons (pv 7) (pa_cons (pv 11) (pa_cons (pv 10) pa_nil))))))))))))), ?_⟩
  try dsimp only [cxOf]
  have hul := Paired.length hts
  refine ⟨_, rfl, S, ns, 0, rfl, hS, Int.le_refl _, fun c => ⟨c, 99, rfl, by decide, by decide, fun m m0 m1 => ?_⟩⟩
  dsimp only [gName]
  refine ⟨_, rfl, Ta, _, rfl, .inl (SqL.of hT), _, rfl, by omega, by omega, ?_⟩
  rw [Int.toNat_natCast, hul]
  refine compI_range (lo := 0) (fun i => if isOf ts[i.toNat]? = true then some (nV i.toNat) else none) (by omega) (fun i hi H' sm R r => ?_) (fun i v hi e H' sm Q' q' => ?_) (fun D1 hD1 => ?_)
  · have ei : (0 + (i : Int)) = ((i : Nat) : Int) := by omega
    rw [ei, Int.toNat_natCast] at r
    rw [ei]
    have hu : us[i]? = some (us[i]'(by omega)) := List.getElem?_eq_getElem (by omega)
    generalize us[i]'(by omega) = u at hu
    obtain ⟨t, ht, htu⟩ := tms_at hts hu
    obtain ⟨b, k, vs, rfl, hb, h1, h2⟩ := tm_head htu
    refine ⟨_, rfl, _, rfl, Ta, _, _, _, rfl, rfl, SqL.of (sm _ _ hT), atI_nat hu, b, _, 0, _, rfl, rfl, SqT.of (sm _ _ hb), atI_nat (j := 0) rfl, rfl, _, rfl, ?_⟩
    by_cases hk : k = "of"
    · obtain ⟨y, as, c', e1, _⟩ := h1 hk
      rw [ht, e1] at r
      rw [decide_eq_true (by rw [hk])]
      exact r
    · have : isOf (some t) = false := by
        cases t with
        | num n => rfl
        | name n => rfl
        | of y as =>
          obtain ⟨a', c', e1, e2, _⟩ := htu
          cases e1
          rw [hb] at e2
          cases e2
          exact absurd rfl hk
      rw [ht, this] at r
      rw [decide_eq_false fun z => hk (V.str.inj z)]
      exact r
  · have ei : (0 + (i : Int)) = ((i : Nat) : Int) := by omega
    rw [ei] at e ⊢
    rw [Int.toNat_natCast] at e
    split at e
    · have := Option.some.inj e
      subst this
      exact ⟨_, rfl, q'⟩
    · cases e
  dsimp only [gName]
  have hall : ∀ v ∈ ((List.range ts.length).filterMap fun i : Nat => if isOf ts[(0 + (i : Int)).toNat]? = true then some (nV (0 + (i : Int)).toNat) else none), ∃ (j : Nat) (x : Str) (as : List Nat), v = nV j ∧ ts[j]? = some (.of x as) := fun v hv => by
    obtain ⟨i, hi, e⟩ := List.mem_filterMap.mp hv
    have ei : (0 + (i : Int)).toNat = i := by omega
    rw [ei] at e
    split at e
    · rename_i hd
      cases et : ts[i]? with
      | none => rw [et] at hd; cases hd
      | some t =>
        cases t with
        | num n => rw [et] at hd; cases hd
        | name n => rw [et] at hd; cases hd
        | of x as => exact ⟨i, x, as, (Option.some.inj e).symm, et⟩
    · cases e
  have hpos : 0 < ((List.range ts.length).filterMap fun i : Nat => if isOf ts[(0 + (i : Int)).toNat]? = true then some (nV (0 + (i : Int)).toNat) else none).length := by
    obtain ⟨i, x, as, hi⟩ := hof
    refine List.length_pos_of_mem (a := nV i) (List.mem_filterMap.mpr ⟨i, List.mem_range.mpr (List.getElem?_eq_some_iff.mp hi).1, ?_⟩)
    have ei : (0 + (i : Int)).toNat = i := by omega
    rw [ei, hi]; rfl
  generalize ((List.range ts.length).filterMap fun i : Nat => if isOf ts[(0 + (i : Int)).toNat]? = true then some (nV (0 + (i : Int)).toNat) else none) = zs at hall hpos ⊢
  have s1 := same_new hD1 (.lst zs)
  have hD2 := upd_same (H := H) (a := D1) (o := .lst zs)
  generalize upd H D1 (.lst zs) = H1 at s1 hD2 ⊢
  refine ⟨_, rfl, _, rfl, S, ns, 1, rfl, s1.seq hS, by decide, fun c2 => ?_⟩
  have k0 : 0 ≤ c2 % ((zs.length : Nat) : Int) := Int.emod_nonneg _ (by omega)
  have k1 : c2 % ((zs.length : Nat) : Int) < ((zs.length : Nat) : Int) := Int.emod_lt_of_pos _ (by omega)
  obtain ⟨v, hv, hvm⟩ := atI_ex k0 k1
  obtain ⟨t, x, as, rfl, ht⟩ := hall v hvm
  refine ⟨_, rfl, D1, _, rfl, .inl (SqL.of hD2), _, _, rfl, rfl, by omega, D1, _, _, _, rfl, rfl, SqL.of hD2, hv, ?_⟩
  dsimp only [gName]
  refine ⟨12, rfl, by decide, by decide, comp_rangeA (lo := 0) (fun v => ∃ m : Int, v = .int m) (by decide) (fun i hi H' sm Q' q' => ?_) fun Pk ys hPk hyl hya => ?_⟩
  · refine ⟨_, rfl, _, rfl, _, _, rfl, rfl, S, ns, _, rfl, sm.seq (s1.seq hS), by omega, fun c3 => ?_⟩
    refine ⟨_, rfl, _, _, rfl, rfl, c3, _, rfl, by omega, by omega, fun m' _ _ => q' _ ⟨m', rfl⟩⟩
  obtain ⟨pk, rfl⟩ := ints_all hya
  rw [List.length_map] at hyl
  have hyl : pk.length = 12 := hyl
  dsimp only [gName]
  have s2 := s1.trans (same_new hPk (.lst (pk.map V.int)))
  have hPk2 := upd_same (H := H1) (a := Pk) (o := .lst (pk.map V.int))
  have hPkH : H Pk = none := s1.free hPk
  generalize upd H1 Pk (.lst (pk.map V.int)) = H2 at s2 hPk2 ⊢
  obtain ⟨z, hz, hat⟩ := pool_at hp (i := 2) (by decide) (by decide)
  have hw' := hp.2.2 z hz
  have hzl : z.length ≤ sizeLine := Nat.le_trans hw'.2.1 (by decide)
  refine ⟨_, rfl, Po, _, _, _, rfl, rfl, SqL.of (s2 _ _ hp.1), hat, _, rfl, z, rfl, hzl, ?_⟩
  dsimp only [gName]
  have hwd := isW_cut hw'
  generalize Txt.slice z none (some 7) = wd at hwd ⊢
  have hwl : wd.length ≤ sizeLine := Nat.le_trans hwd.2.1 (by decide)
  intro Db hDb
  dsimp only [gName]
  have s3 := s2.trans (same_new hDb (.dK []))
  have hDb3 := upd_same (H := H2) (a := Db) (o := .dK [])
  have hPk3 := same_new hDb (.dK []) _ _ hPk2
  have hDbH : H Db = none := s2.free hDb
  generalize upd H2 Db (.dK []) = H3 at s3 hDb3 hPk3 ⊢
  refine ⟨_, rfl, _, rfl, _, rfl, _, rfl, _, rfl, (show 1 ≤ sizeLine by decide), fun l0 hl0 => ?_⟩
  have s4 := s3.trans (same_new hl0 (.lst [.int 0]))
  have hl4 := upd_same (H := H3) (a := l0) (o := .lst [.int 0])
  have hDb4 := same_new hl0 (.lst [.int 0]) _ _ hDb3
  have hPk4 := same_new hl0 (.lst [.int 0]) _ _ hPk3
  generalize upd H3 l0 (.lst [.int 0]) = H4 at s4 hl4 hDb4 hPk4 ⊢
  have r0 : 0 ≤ m % 3 := Int.emod_nonneg _ (by decide)
  have r1 : m % 3 < 3 := Int.emod_lt_of_pos _ (by decide)
  refine ⟨_, rfl, _, _, rfl, rfl, pos', l0, _, _, rfl, rfl, hl4, by omega, by omega, Nat.le_trans (show 1 * (m % 3).toNat ≤ 1000 by omega) (by decide), fun Ro hRo => ?_⟩
  rw [List.flatten_replicate_singleton]
  have hr3 : (m % 3).toNat < 3 := by omega
  generalize (m % 3).toNat = r at hr3 ⊢
  have s5 := s4.trans (same_new hRo (.lst (List.replicate r (.int 0))))
  have hRo5 := upd_same (H := H4) (a := Ro) (o := .lst (List.replicate r (.int 0)))
  have hDb5 := same_new hRo (.lst (List.replicate r (.int 0))) _ _ hDb4
  have hPk5 := same_new hRo (.lst (List.replicate r (.int 0))) _ _ hPk4
  have hRoH : H Ro = none := s4.free hRo
  have nPR : Pk ≠ Ro := fun e => by rw [e, hRo] at hPk4; cases hPk4
  generalize upd H4 Ro (.lst (List.replicate r (.int 0))) = H5 at s5 hRo5 hDb5 hPk5 ⊢
  have a0 : 0 ≤ m / 3 % ((wd.length : Int) + 1) := Int.emod_nonneg _ (by omega)
  have a1 : m / 3 % ((wd.length : Int) + 1) < (wd.length : Int) + 1 := Int.emod_lt_of_pos _ (by omega)
  obtain ⟨at_, eat⟩ : ∃ k : Nat, m / 3 % ((wd.length : Int) + 1) = (k : Int) := ⟨_, (Int.toNat_of_nonneg a0).symm⟩
  refine ⟨_, rfl, _, rfl, _, _, rfl, rfl, div', _, rfl, wd, rfl, hwl, _, _, rfl, rfl, _, _, rfl, rfl, by omega, (show 2 ≤ sizeLine by decide), fun Ba hBa => ?_⟩
  rw [eat] at a1 ⊢
  have s6 := s5.trans (same_new hBa (.tup [.str wd, nV at_]))
  have hBa6 := upd_same (H := H5) (a := Ba) (o := .tup [.str wd, nV at_])
  have hRo6 := same_new hBa (.tup [.str wd, nV at_]) _ _ hRo5
  have hDb6 := same_new hBa (.tup [.str wd, nV at_]) _ _ hDb5
  have hPk6 := same_new hBa (.tup [.str wd, nV at_]) _ _ hPk5
  show tCons _ _ _ _ _
  generalize upd H5 Ba (.tup [.str wd, nV at_]) = H6 at s6 hBa6 hRo6 hDb6 hPk6 ⊢
  have nT : ∀ c o d, H c = some o → H d = none → c ≠ d := fun c o d e h => ne_of_none e h
  have hfr : fR r ≤ 7 := by
    rcases (by omega : r = 0 ∨ r = 1 ∨ r = 2) with rfl | rfl | rfl <;> decide
  have h4' := h4 t x as ht
  refine ⟨_, rfl, Ta, L, Pk, Db, Ro, Ba, us, ts, ls, t, pk, [], r, wd, at_, mode, x, as, rfl, ⟨s6 _ _ hT, tms_same s6 hts, s6 _ _ hL, hPk6, hDb6, hRo6, hBa6, ⟨List.nodup_nil, fun _ y e => nomatch e⟩, by omega, by rw [hyl]; decide⟩,
    ⟨ok, few, lt, nT _ _ _ hT hPkH, nT _ _ _ hT hRoH, nT _ _ _ hL hPkH, nT _ _ _ hL hRoH, nPR, hwd.2.1, by omega, hm⟩, ht, hr3, by omega, fun v ps b' pk' r' H7 bt7 g7 hv7 ge7 => ?_⟩
  dsimp only [gName]
  have s7 : Same H H7 := fun c o e => bt7 c o (nT _ _ _ e hPkH) (nT _ _ _ e hDbH) (nT _ _ _ e hRoH) (s6 _ _ e)
  refine ⟨_, rfl, _, rfl, _, rfl, (show 3 ≤ sizeLine by decide), fun p hp => ?_⟩
  have s8 := same_new hp (.tup [nV t, v, .ref Db])
  have h8 := upd_same (H := H7) (a := p) (o := .tup [nV t, v, .ref Db])
  generalize upd H7 p (.tup [nV t, v, .ref Db]) = H8 at s8 h8 ⊢
  refine q p Db t x as v ps b' H8 (s7.trans s8) ht h8 (tr_keep (fun c ys e => s8 _ _ e) hv7) (s8 _ _ g7.hDb) ⟨fun y => ?_, by have := ge7.deep; omega, by have := ge7.kns; omega, by have := ge7.hol; omega, ge7.wok.nk, fun e => two_len ge7.wok.nk (ge7.wok.two e), ge7.pl, by have := ge7.ars; omega⟩
  rw [ge7.dom y]
  exact ⟨fun z => z.elim (fun z => nomatch z) id, .inr⟩
end

end K44
namespace K44
open PySem L2 Sw
section
variable {P : Program} {w : World} {K : PySem.W.Frag} {mg : Str → Option Value} {base : Heap}
theorem ok_lmark (B : Blt mg) (D : Def K mg "_law_mark" s_lmark ["_law_term_here", "_law_leads"]) : Has P w K mg base 1 "_law_mark" ["_law_term_here", "_law_leads"] (spMark K) := by
  refine D.has sc_lmark (fun vs H Q E h => ?_) (fun f cdv A outer s H vs Q E hr h => ?_)
  · obtain ⟨v, t, L, ls, rfl, _⟩ := h; rfl
  obtain ⟨v, t, L, ls, rfl, hT, hL, hb, q⟩ := h
  refine ⟨_, (pss_cons (ps_if (pt_cmpR op_ne (pe_ix ix_tup (pv 0) pe_int (fun _ _ => rfl)) pe_str (nomark _)) (pss_one (ps_ret (pv 0))) pss_nil)
    (pss_one (ps_ret (pe_tup (pa_cons pe_str (pa_cons (pe_ix ix_tup (pv 0) pe_int (fun _ _ => rfl)) (pa_cons (pe_callTy call_tuple_of rfl B.tuple_ boot_tuple_ (pa_cons (pe_comp (te := (tOp (rIxL K) _ _)) (own := ["_law_place"]) (caps := [("_law_leads", 1)]) (comp_scope (defScope s_lmark) ["_law_term_here", "_law_leads"] rfl rfl rfl (by decide +kernel)) (pi_tup (pe_ix ix_tup (pv 0) pe_int (fun _ _ => rfl))) rfl (fun _ _ _ => pg_name (i := 0) (show (["_law_place", "_law_leads"] : List Str).Nodup by decide +kernel) rfl (Or.inl rfl)) (fun _ _ _ => (pe_ix ix_list (pv 1) (pv 0) (fun _ _ => rfl)))) pa_nil)) pa_nil))))))), ?_⟩
  try dsimp only [cxOf]
  cases t with
  | num n =>
    obtain ⟨a, rfl, h⟩ := id hT
    refine ⟨_, rfl, a, _, 0, _, rfl, rfl, SqT.of h, atI_nat (j := 0) rfl, rfl, _, rfl, iteDN (fun _ => ⟨_, rfl, q _ _ (Same.refl _) hT⟩) (fun z => absurd (V.str.inj z) (by decide))⟩
  | name n =>
    obtain ⟨a, rfl, h⟩ := id hT
    refine ⟨_, rfl, a, _, 0, _, rfl, rfl, SqT.of h, atI_nat (j := 0) rfl, rfl, _, rfl, iteDN (fun _ => ⟨_, rfl, q _ _ (Same.refl _) hT⟩) (fun z => absurd (V.str.inj z) (by decide))⟩
  | of x as =>
    obtain ⟨a, b, rfl, h, h2⟩ := id hT
    obtain ⟨hl, hlt⟩ := hb x as rfl
    refine ⟨_, rfl, a, _, 0, _, rfl, rfl, SqT.of h, atI_nat (j := 0) rfl, rfl, _, rfl, iteDN (fun z => absurd rfl z) (fun _ => ?_)⟩
    refine ⟨_, rfl, a, _, 1, _, rfl, rfl, SqT.of h, atI_nat (j := 1) rfl, ?_⟩
    refine ⟨_, rfl, a, _, 2, _, rfl, rfl, SqT.of h, atI_nat (j := 2) rfl, b, rfl, ⟨_, SqT.of h2⟩, ?_⟩
    refine comp_tupS (ys := (as.map fun a => ls.getD a 0).map nV) (SqT.of h2) (by rw [List.length_map]; exact hl) (by simp) (fun i y z hy hz H' sm Q' q' => ?_) (fun D1 H' hD1 sm hD => ?_)
    · rw [List.getElem?_map] at hy
      rw [List.getElem?_map, List.getElem?_map] at hz
      cases e : as[i]? with
      | none => rw [e] at hy; cases hy
      | some k =>
        rw [e] at hy hz
        have e1 : nV k = y := Option.some.inj hy
        have e2 : nV (ls.getD k 0) = z := Option.some.inj hz
        subst e1 e2
        have hk := hlt k (List.mem_of_getElem? e)
        have e3 : ls[k]? = some (ls.getD k 0) := by rw [List.getD_eq_getElem?_getD, List.getElem?_eq_getElem hk]; rfl
        exact ⟨_, rfl, _, rfl, L, _, _, _, rfl, rfl, sm.seq hL, nV_at e3, q' _ (Same.refl _)⟩
    · refine ⟨D1, _, rfl, .inl ⟨SqL.of hD, fun l hl' => ?_⟩⟩
      refine ⟨(show 3 ≤ sizeLine by decide), fun t ht => ?_⟩
      refine q _ _ (sm.trans ((same_new hl' _).trans (same_new ht _))) ⟨t, l, rfl, upd_same, ?_⟩
      rw [upd_ne (ne_of_none upd_same ht), upd_same]
inductive SpTable (P : Program) (w : World) (vs : List V) (H : Hp) (Q : VK) : Prop
  | mk (T L : Addr) (us : List V) (ts : List Tm) (ls : List Nat) (z0 : vs = [.ref T, .ref L]) (z1 : H T = some (.lst us)) (z2 : Tms H us ts) (z3 : H L = some (.lst (ls.map nV))) (z4 : TLok ts ls)
    (z5 : ∀ p kvs H', Same H H' → DN P w H' p kvs → (∀ m, valV kvs (tmNK m) = (posF (ts.map (mk ls)) m).map nV) → Q (.ref p) H') : SpTable P w vs H Q
noncomputable def spTable (P : Program) (w : World) : Sp := fun vs H Q _ => SpTable P w vs H Q
inductive TbI (P : Program) (w : World) (H : Hp) (T L p : Addr) (ts : List Tm) (ls : List Nat) (i : Nat) (σ : St) (H' : Hp) : Prop
  | mk (kvs : List (NK × V)) (x3 x4 : Option V) : (σ = [some (.ref T), some (.ref L), some (.ref p), x3, x4]) → Same H H' → DN P w H' p kvs → kvs.length ≤ i → (∀ m, valV kvs (tmNK m) = (posF ((ts.take i).map (mk ls)) m).map nV) → TbI P w H T L p ts ls i σ H'
theorem ok_table (B : Blt mg) (h_lmark : Has P w K mg base 1 "_law_mark" ["_law_term_here", "_law_leads"] (spMark K)) (D : Def K mg "_law_table" s_table ["_law_terms_here", "_law_leads"]) : Has P w K mg base 2 "_law_table" ["_law_terms_here", "_law_leads"] (spTable P w) := by
  refine D.has sc_table (fun vs H Q E h => ?_) (fun f cdv A outer s H vs Q E hr h => ?_)
  · obtain ⟨T, L, us, ts, ls, rfl, _⟩ := h; rfl
  obtain ⟨T, L, us, ts, ls, rfl, hT, hts, hL, ok, q⟩ := h
  refine ⟨_, (pss_cons (ps_set (i := 2) sc_table.nd rfl (Or.inl rfl) pe_dnewN)
    (pss_cons (ps_for PassesOwn.never rfl (pi_range1 rfl B.range_ (pa_cons (pe_callB call_len_seq rfl B.len_ PySem.boot_len (pa_cons (pv 0) pa_nil)) pa_nil)) (pg_name (i := 3) sc_table.nd rfl (Or.inl rfl))
    (pss_cons (ps_set (i := 4) sc_table.nd rfl (Or.inl rfl) (pe_callH h_lmark hr (by omega) rfl (pa_cons (pe_ix ix_list (pv 0) (pv 3) (fun _ _ => rfl)) (pa_cons (pv 1) pa_nil))))
    (pss_one (ps_if (pt_cmp (pc_nnotin (un10 hr) (pv 4) (pv 2)) (by with_unfolding_all rfl)) (pss_one (ps_nput (un10 hr) (pv 2) (pv 4) (pv 3) rfl)) pss_nil))))
    (pss_one (ps_ret (pv 2))))), ?_⟩
  try dsimp only [cxOf]
  have hut := Paired.length hts
  have few := ok.few
  intro p φ hp dn0
  dsimp only [gName]
  have sm0 := same_new hp (.ext φ)
  generalize upd H p (.ext φ) = H0 at sm0 dn0 ⊢
  refine ⟨_, rfl, T, _, rfl, .inl (SqL.of (sm0 _ _ hT)), _, rfl, by omega, by omega, ?_⟩
  rw [Int.toNat_natCast, hut]
  refine for_range (lo := 0) (TbI P w H T L p ts ls) ⟨[], none, none, rfl, sm0, dn0, Nat.le_refl _, fun m => by rw [List.take_zero, List.map_nil, posF]; rfl⟩ ?_ ?_
  · rintro i σ H' hi ⟨kvs, x3, x4, rfl, sm, dn, hkl, hv⟩
    have ei : (0 : Int) + (i : Int) = ((i : Nat) : Int) := by omega
    rw [ei]
    dsimp only [gName]
    have hu : us[i]? = some (us[i]'(by omega)) := List.getElem?_eq_getElem (by omega)
    generalize us[i]'(by omega) = u at hu
    obtain ⟨t, ht, htu⟩ := tms_at hts hu
    have et : (ts.take (i + 1)).map (mk ls) = (ts.take i).map (mk ls) ++ [mk ls t] := by rw [List.take_add_one, ht, List.map_append]; rfl
    have el : ((ts.take i).map (mk ls)).length = i := by rw [List.length_map, List.length_take]; omega
    refine ⟨_, rfl, _, rfl, T, _, _, _, rfl, rfl, SqL.of (sm _ _ hT), atI_nat hu, _, rfl, u, t, L, ls, rfl, htu.same sm, SqL.of (sm _ _ hL), ok.at ht, fun v' H2 s2 hm => ?_⟩
    dsimp only [gName]
    obtain ⟨b, rfl, nk⟩ := hm.key
    have g2 := sm.trans s2
    have dn2 := dn.same s2
    have hvt := hv (mk ls t)
    refine ⟨_, rfl, _, rfl, p, b, kvs, tmNK (mk ls t), rfl, rfl, dn2, nk, _, rfl, ?_⟩
    cases e : posF ((ts.take i).map (mk ls)) (mk ls t) with
    | none =>
      rw [e] at hvt
      rw [hvt]
      refine iteT ⟨_, rfl, _, rfl, _, rfl, p, b, kvs, tmNK (mk ls t), rfl, rfl, dn2, nk, small1000 (by omega), fun φ3 dn3 => ⟨_, _, _, rfl, g2.put hp, dn3, ?_, fun m => ?_⟩⟩
      · rw [putK_new _ hvt, List.length_append, List.length_singleton]; omega
      · rw [valV_put, hv, et, pos_app, el]
        by_cases em : tmNK m = tmNK (mk ls t)
        · have := tmNK_inj em
          subst this
          rw [if_pos rfl, e]
          dsimp only
          rw [if_pos rfl]; rfl
        · rw [if_neg em]
          cases posF ((ts.take i).map (mk ls)) m with
          | some j => rfl
          | none => dsimp only; rw [if_neg (fun z => em (by rw [tmD_inj z]))]
    | some j =>
      rw [e] at hvt
      rw [hvt]
      refine iteF ⟨kvs, _, _, rfl, g2, dn2, by omega, fun m => ?_⟩
      rw [hv, et, pos_app]
      cases e2 : posF ((ts.take i).map (mk ls)) m with
      | some j => rfl
      | none =>
        dsimp only
        rw [if_neg (fun z => by rw [tmD_inj z, e2] at e; cases e)]
  · rintro σ H' ⟨kvs, x3, x4, rfl, sm, dn, hkl, hv⟩
    rw [List.take_length] at hv
    exact ⟨_, rfl, q p kvs H' sm dn hv⟩
end

end K44
namespace K44
open PySem L2 Sw
section
variable {P : Program} {w : World} {K : PySem.W.Frag} {mg : Str → Option Value} {base : Heap}
noncomputable def opV : Option Nat → V
  | some l => nV l
  | none => .non
structure SIn (P : Program) (w : World) (H : Hp) (Tb L G Ch : Addr) (ts : List Tm) (ls : List Nat) (kvs : List (NK × V)) (b : Bd) (cs : List Nat) : Prop where
  dn : DN P w H Tb kvs
  tab : ∀ m, valV kvs (tmNK m) = (posF (ts.map (mk ls)) m).map nV
  hL : H L = some (.lst (ls.map nV))
  ok : TLok ts ls
  hG : H G = some (.dK (enc b))
  hCh : H Ch = some (.lst (cs.map nV))
  nL : L ≠ Ch
theorem SIn.but {H H' : Hp} {Tb L G Ch : Addr} {ts : List Tm} {ls : List Nat} {kvs : List (NK × V)} {b : Bd} {cs cs' : List Nat} (h : SIn P w H Tb L G Ch ts ls kvs b cs) (bt : But Ch H H') (hC : H' Ch = some (.lst (cs'.map nV))) : SIn P w H' Tb L G Ch ts ls kvs b cs' :=
  ⟨h.dn.keep (fun φ e => bt _ _ (ne_of e h.hCh (fun z => nomatch z)) e) (fun c ys e => bt _ _ (ne_of e h.hCh (fun z => nomatch z)) e), h.tab, bt _ _ h.nL h.hL, h.ok, bt _ _ (ne_of h.hG h.hCh (fun z => nomatch z)) h.hG, hC, h.nL⟩
theorem SIn.tups {H H' : Hp} {Tb L G Ch : Addr} {ts : List Tm} {ls : List Nat} {kvs : List (NK × V)} {b : Bd} {cs : List Nat} (h : SIn P w H Tb L G Ch ts ls kvs b cs) (bt : But Ch H H') : ∀ c ys, H c = some (.tup ys) → H' c = some (.tup ys) := fun c ys e => bt _ _ (ne_of e h.hCh (fun z => nomatch z)) e
inductive SpSpot (P : Program) (w : World) (n : Nat) (vs : List V) (H : Hp) (Q : VK) : Prop
  | mk (Tb L G Ch : Addr) (v : V) (p : T) (ts : List Tm) (ls : List Nat) (kvs : List (NK × V)) (b : Bd) (cs : List Nat) (z0 : vs = [.ref Tb, .ref L, v, .ref G, .ref Ch]) (z1 : SIn P w H Tb L G Ch ts ls kvs b cs) (z2 : IsTr H p v) (z3 : p.depth ≤ n) (z4 : ∀ y ∈ p.hol, (look b y).isSome = true) (z5 : cs.length + p.ar ≤ 900)
    (z6 : ∀ cs' H', But Ch H H' → H' Ch = some (.lst (cs'.map nV)) → (∀ l, clB ts ls (look b) p = some l → cs' = cs ++ chF ts ls (look b) p) → Q (opV (clB ts ls (look b) p)) H') : SpSpot P w n vs H Q
noncomputable def spSpot (P : Program) (w : World) (n : Nat) : Sp := fun vs H Q _ => SpSpot P w n vs H Q
theorem cls_none {ts : List Tm} {ls : List Nat} {m : Str → Option Nat} : ∀ {ps : List T} {i : Nat} {p : T}, ps[i]? = some p → clB ts ls m p = none → clsB ts ls m ps = none
  | [], i, p, h, _ => nomatch h
  | q :: ps, 0, p, h, e => by cases h; rw [clsB, e]; rfl
  | q :: ps, i + 1, p, h, e => by
    rw [clsB, cls_none (ps := ps) (i := i) h e]
    cases clB ts ls m q <;> rfl
theorem hols_mem : ∀ {ps : List T} {i : Nat} {p : T}, ps[i]? = some p → ∀ y ∈ p.hol, y ∈ T.hols ps
  | [], i, p, h => nomatch h
  | q :: ps, 0, p, h => fun y hy => by cases h; rw [T.hols]; exact List.mem_append.mpr (.inl hy)
  | q :: ps, i + 1, p, h => fun y hy => by rw [T.hols]; exact List.mem_append.mpr (.inr (hols_mem (ps := ps) (i := i) h y hy))
theorem deep_at : ∀ {ps : List T} {i : Nat} {p : T} {n : Nat}, ps[i]? = some p → T.deepest ps ≤ n → p.depth ≤ n
  | [], i, p, n, h, _ => nomatch h
  | q :: ps, 0, p, n, h, e => by cases h; rw [T.deepest] at e; omega
  | q :: ps, i + 1, p, n, h, e => by rw [T.deepest] at e; exact deep_at (ps := ps) (i := i) h (by omega)
theorem ars_at : ∀ {ps : List T} {i : Nat} {p : T}, ps[i]? = some p → T.kns (ps.take i) + p.ar ≤ T.ars ps
  | [], i, p, h => nomatch h
  | q :: ps, 0, p, h => by cases h; rw [List.take_zero, T.kns, T.ars]; omega
  | q :: ps, i + 1, p, h => by
    rw [List.take_succ_cons, T.kns, T.ars]
    have := ars_at (ps := ps) (i := i) h
    have := kn_ar q
    omega
inductive SqI (H : Hp) (Tb L G Ch Cl t : Addr) (at_ : Nat) (ts : List Tm) (ls : List Nat) (ps : List T) (b : Bd) (cs : List Nat) (i : Nat) (σ : St) (H' : Hp) : Prop
  | mk (x5 x8 x9 : Option V) (ns : List Nat) : (σ = [some (.ref Tb), some (.ref L), some (.ref t), some (.ref G), some (.ref Ch), x5, some (nV at_), some (.ref Cl), x8, x9]) → But Ch H H' → H' Cl = some (.lst (ns.map nV)) → clsB ts ls (look b) (ps.take i) = some ns → H' Ch = some (.lst ((cs ++ 0 :: chsF ts ls (look b) (ps.take i)).map nV)) →
      SqI H Tb L G Ch Cl t at_ ts ls ps b cs i σ H'
theorem take_snoc {α : Type} {l : List α} {i : Nat} {a : α} (h : l[i]? = some a) : l.take (i + 1) = l.take i ++ [a] := by rw [List.take_add_one, h]; rfl
theorem leaf_val {ts : List Tm} {ls : List Nat} (ok : TLok ts ls) {k : Nat} {m : Tm} (h : posF (ts.map (mk ls)) m = some k) : tabF ts ls m = some (ls.getD k 0) ∧ ls[k]? = some (ls.getD k 0) := by
  refine ⟨by unfold tabF; rw [h]; rfl, ?_⟩
  have := pos_lt h
  rw [List.length_map] at this
  have := ok.len
  rw [List.getD_eq_getElem?_getD, List.getElem?_eq_getElem (by omega)]; rfl
theorem ok_spot (B : Blt mg) (D : Def K mg "_law_spot" s_spot ["_law_table_here", "_law_leads", "_law_pattern", "_law_binds", "_law_chosen"]) :
    ∀ n, Has P w K mg base (n + 1) "_law_spot" ["_law_table_here", "_law_leads", "_law_pattern", "_law_binds", "_law_chosen"] (spSpot P w n)
  | 0 => by
    obtain ⟨fa, fd, F, hm, hb⟩ := D.ex
    have no : ∀ vs H Q E, ¬ spSpot P w 0 vs H Q E := fun vs H Q E h => by
      obtain ⟨Tb, L, G, Ch, v, p, ts, ls, kvs, b, cs, _, _, _, z3, _⟩ := h
      have := depth_pos p
      omega
    exact ⟨fa, fd, ⟨fun vs H Q E h => absurd h (no vs H Q E), fun A outer s H args us vs Q E _ _ _ _ h => absurd h (no vs H Q E)⟩, hm, F.kp, hb⟩
  | n + 1 => by
    have h_spot := ok_spot B D n
    refine D.has sc_spot (fun vs H Q E h => ?_) (fun f cdv A outer s H vs Q E hr h => ?_)
    · obtain ⟨Tb, L, G, Ch, v, p, ts, ls, kvs, b, cs, rfl, _⟩ := h; rfl
    obtain ⟨Tb, L, G, Ch, v, p, ts, ls, kvs, b, cs, rfl, si, hT, hd, hh, hz, q⟩ := h
    refine ⟨_, (pss_cons (ps_if (pt_cmpR op_eq (pe_ix ix_tup (pv 2) pe_int (fun _ _ => rfl)) pe_str (nomark _)) (pss_one (ps_ret (pe_dget (hu_of hr) (pv 3) (pe_ix ix_tup (pv 2) pe_int (fun _ _ => rfl)) (fun _ _ => rfl)))) pss_nil)
    (pss_cons (ps_if (pt_cmpR op_ne (pe_ix ix_tup (pv 2) pe_int (fun _ _ => rfl)) pe_str (nomark _)) (pss_cons (ps_set (i := 5) sc_spot.nd rfl (Or.inl rfl) (pe_nget1 (un10 hr) (pv 0) (pv 2) ⟨rfl, rfl, rfl, rfl⟩))
    (pss_cons (ps_if (pt_cmpR op_isN (pv 5) pe_non (nomark _)) (pss_one (ps_ret pe_non)) pss_nil)
    (pss_one (ps_ret (pe_ix ix_list (pv 1) (pv 5) (fun _ _ => rfl)))))) pss_nil)
    (pss_cons (ps_set (i := 6) sc_spot.nd rfl (Or.inl rfl) (pe_callB call_len_seq rfl B.len_ PySem.boot_len (pa_cons (pv 4) pa_nil)))
    (pss_cons (ps_expr (pe_bm PySem.F.plainAttrs_list PySem.F.slot_list_append PySem.F.type_list_append mt_append (pv 4) (pa_cons pe_int pa_nil)))
    (pss_cons (ps_set (i := 7) sc_spot.nd rfl (Or.inl rfl) (pe_lst pa_nil))
    (pss_cons (ps_for PassesOwn.never rfl (pi_tup (pe_ix ix_tup (pv 2) pe_int (fun _ _ => rfl))) (pg_name (i := 8) sc_spot.nd rfl (Or.inl rfl))
    (pss_cons (ps_set (i := 9) sc_spot.nd rfl (Or.inl rfl) (pe_callH h_spot hr (by omega) rfl (pa_cons (pv 0) (pa_cons (pv 1) (pa_cons (pv 8) (pa_cons (pv 3) (pa_cons (pv 4) pa_nil)))))))
    (pss_cons (ps_if (pt_cmpR op_isN (pv 9) pe_non (nomark _)) (pss_one (ps_ret pe_non)) pss_nil)
    (pss_one (ps_expr (pe_bm PySem.F.plainAttrs_list PySem.F.slot_list_append PySem.F.type_list_append mt_append (pv 7) (pa_cons (pv 9) pa_nil)))))))
    (pss_cons (ps_set (i := 5) sc_spot.nd rfl (Or.inl rfl) (pe_nget1 (un10 hr) (pv 0) (pe_tup (pa_cons pe_str (pa_cons (pe_ix ix_tup (pv 2) pe_int (fun _ _ => rfl)) (pa_cons (pe_callTy call_tuple_of rfl B.tuple_ boot_tuple_ (pa_cons (pv 7) pa_nil)) pa_nil)))) ⟨rfl, rfl, rfl, rfl⟩))
    (pss_cons (ps_if (pt_cmpR op_isN (pv 5) pe_non (nomark _)) (pss_one (ps_ret pe_non)) pss_nil)
    (pss_cons (ps_asg (pv 5) (pg_sub (pv 4) (pv 6) set_list))
    (pss_one (ps_ret (pe_ix ix_list (pv 1) (pv 5) (fun _ _ => rfl))))))))))))), ?_⟩
    try dsimp only [cxOf]
    have leaf : ∀ (t : Addr) (m : Tm), IsTm H m (.ref t) → clB ts ls (look b) p = tabF ts ls m → chF ts ls (look b) p = [] → ∃ kb, V.ref t = V.ref kb ∧ NKey H (tmNK m) kb ∧ ((posF (ts.map (mk ls)) m = none ∧ Q .non H) ∨ ∃ k, posF (ts.map (mk ls)) m = some k ∧ ls[k]? = some (ls.getD k 0) ∧ Q (nV (ls.getD k 0)) H) := fun t m hm ec eh => by
      obtain ⟨kb, ekb, nk⟩ := IsTm.key hm
      refine ⟨kb, ekb, nk, ?_⟩
      have q := q cs H (But.refl _ _) si.hCh (fun l _ => by rw [eh, List.append_nil])
      rw [ec] at q
      cases e : posF (ts.map (mk ls)) m with
      | none => rw [show tabF ts ls m = none by unfold tabF; rw [e]; rfl] at q; exact .inl ⟨rfl, q⟩
      | some k =>
        obtain ⟨e1, e2⟩ := leaf_val si.ok e
        rw [e1] at q
        exact .inr ⟨k, rfl, e2, q⟩
    cases p with
    | any x =>
      rw [IsTr] at hT
      obtain ⟨t, rfl, h⟩ := hT
      refine ⟨_, rfl, t, _, 0, _, rfl, rfl, SqT.of h, atI_nat (j := 0) rfl, rfl, _, rfl, iteD (fun _ => ?_) (fun z => absurd rfl z)⟩
      have hx := hh x (by rw [T.hol]; exact List.mem_singleton_self _)
      have q := q cs H (But.refl _ _) si.hCh (fun l _ => by rw [chF, List.append_nil])
      rw [clB] at q
      cases e : look b x with
      | none => rw [e] at hx; cases hx
      | some l =>
        rw [e] at q
        have hg : DGet H G (.str x) (some (nV l)) := by
          have := DGet.k (k := (.inr x : Key)) si.hG
          rw [enc_val, e] at this
          exact this
        exact ⟨_, rfl, _, rfl, t, _, 1, _, rfl, rfl, SqT.of h, atI_nat (j := 1) rfl, G, _, rfl, hg, q⟩
    | num m =>
      rw [IsTr] at hT
      obtain ⟨t, rfl, h⟩ := hT
      refine ⟨_, rfl, t, _, 0, _, rfl, rfl, SqT.of h, atI_nat (j := 0) rfl, rfl, _, rfl, iteD (fun z => absurd (V.str.inj z) (by decide)) (fun _ => ?_)⟩
      refine ⟨_, rfl, t, _, 0, _, rfl, rfl, SqT.of h, atI_nat (j := 0) rfl, rfl, _, rfl, iteDN (fun _ => ?_) (fun z => absurd (V.str.inj z) (by decide))⟩
      obtain ⟨kb, ekb, nk, hv⟩ := leaf t (.num m) ⟨t, rfl, h⟩ (by rw [clB]) (by rw [chF])
      refine ⟨_, rfl, Tb, rfl, ⟨_, si.dn⟩, _, rfl, kb, _, _, ekb, si.dn, nk, ?_⟩
      rw [si.tab]
      dsimp only [gName]
      rcases hv with ⟨e, q⟩ | ⟨k, e, e2, q⟩
      · rw [e]
        exact ⟨_, rfl, rfl, _, rfl, iteT q⟩
      · rw [e]
        exact ⟨_, rfl, rfl, _, rfl, iteF ⟨_, rfl, _, rfl, L, _, _, _, rfl, rfl, SqL.of si.hL, nV_at e2, q⟩⟩
    | name m =>
      rw [IsTr] at hT
      obtain ⟨t, rfl, h⟩ := hT
      refine ⟨_, rfl, t, _, 0, _, rfl, rfl, SqT.of h, atI_nat (j := 0) rfl, rfl, _, rfl, iteD (fun z => absurd (V.str.inj z) (by decide)) (fun _ => ?_)⟩
      refine ⟨_, rfl, t, _, 0, _, rfl, rfl, SqT.of h, atI_nat (j := 0) rfl, rfl, _, rfl, iteDN (fun _ => ?_) (fun z => absurd (V.str.inj z) (by decide))⟩
      obtain ⟨kb, ekb, nk, hv⟩ := leaf t (.name m) ⟨t, rfl, h⟩ (by rw [clB]) (by rw [chF])
      refine ⟨_, rfl, Tb, rfl, ⟨_, si.dn⟩, _, rfl, kb, _, _, ekb, si.dn, nk, ?_⟩
      rw [si.tab]
      dsimp only [gName]
      rcases hv with ⟨e, q⟩ | ⟨k, e, e2, q⟩
      · rw [e]
        exact ⟨_, rfl, rfl, _, rfl, iteT q⟩
      · rw [e]
        exact ⟨_, rfl, rfl, _, rfl, iteF ⟨_, rfl, _, rfl, L, _, _, _, rfl, rfl, SqL.of si.hL, nV_at e2, q⟩⟩
    | of x ps =>
      clear leaf
      rw [IsTr] at hT
      obtain ⟨t, c, avs, rfl, h, hc, hts⟩ := hT
      rw [T.depth] at hd
      rw [T.ar] at hz
      rw [T.hol] at hh
      have hpl := ars_len ps
      have hpa := trs_len hts
      refine ⟨_, rfl, t, _, 0, _, rfl, rfl, SqT.of h, atI_nat (j := 0) rfl, rfl, _, rfl, iteD (fun z => absurd (V.str.inj z) (by decide)) (fun _ => ?_)⟩
      refine ⟨_, rfl, t, _, 0, _, rfl, rfl, SqT.of h, atI_nat (j := 0) rfl, rfl, _, rfl, iteDN (fun z => absurd rfl z) (fun _ => ?_)⟩
      refine ⟨_, rfl, Ch, _, rfl, .inl (SqL.of si.hCh), ?_⟩
      dsimp only [gName]
      rw [List.length_map]
      refine ⟨_, rfl, .inl ⟨rfl, _, SqL.of si.hCh⟩, Ch, _, _, rfl, rfl, si.hCh, small1000 (by rw [List.length_map]; omega), ?_⟩
      have bt0 : But Ch H (upd H Ch (.lst (cs.map nV ++ [.int 0]))) := fun c o n e => by rw [upd_ne n]; exact e
      have hC0 : (upd H Ch (.lst (cs.map nV ++ [.int 0]))) Ch = some (.lst ((cs ++ [0]).map nV)) := by rw [upd_same, List.map_append]; rfl
      generalize upd H Ch (.lst (cs.map nV ++ [.int 0])) = H0 at bt0 hC0 ⊢
      refine ⟨Nat.zero_le _, fun Cl hCl => ?_⟩
      dsimp only [gName]
      have s1 := same_new hCl (.lst [])
      have hCl1 := upd_same (H := H0) (a := Cl) (o := .lst [])
      have bt1 : But Ch H (upd H0 Cl (.lst [])) := fun c o n e => s1 _ _ (bt0 c o n e)
      have hC1 := s1 _ _ hC0
      have nCl : Ch ≠ Cl := ne_of_none hC0 hCl
      have hClH : H Cl = none := by
        cases e : H Cl with
        | none => rfl
        | some o => have := bt0 Cl o (Ne.symm nCl) e; rw [hCl] at this; cases this
      generalize upd H0 Cl (.lst []) = H1 at bt1 hCl1 hC1 ⊢
      have tk := fun {H' : Hp} (bt : But Ch H H') => si.tups bt
      refine ⟨_, rfl, t, _, 2, _, rfl, rfl, SqT.of (tk bt1 _ _ h), atI_nat (j := 2) rfl, c, rfl, ⟨_, SqT.of (tk bt1 _ _ hc)⟩, ?_⟩
      refine for_tup (xs := avs) (SqI H Tb L G Ch Cl t cs.length ts ls ps b cs) ⟨none, none, none, [], rfl, bt1, hCl1, by rw [List.take_zero, clsB], by rw [List.take_zero, chsF]; exact hC1⟩ ?_ ?_ ?_
      · rintro i σ H' _ ⟨x5, x8, x9, ns, rfl, bt, _⟩
        exact SqT.of (tk bt _ _ hc)
      · rintro i y σ H' hy ⟨x5, x8, x9, ns, rfl, bt, hCl', hcl, hC'⟩
        obtain ⟨p, hp, hpy⟩ := trs_at hts hy
        have hil := (List.getElem?_eq_some_iff.mp hp).1
        have ha := ars_at hp
        have hln := clsB_len hcl
        rw [List.length_take, Nat.min_eq_left (Nat.le_of_lt hil)] at hln
        dsimp only [gName]
        refine ⟨_, rfl, _, rfl, _, rfl, _, rfl, _, rfl, Tb, L, G, Ch, y, p, ts, ls, kvs, b, _, rfl, si.but bt hC', tr_keep (tk bt) hpy, deep_at hp (by omega), fun z hz => hh z (hols_mem hp z hz), ?_, fun cs' H2 bt2 hC2 he => ?_⟩
        · rw [List.length_append, List.length_cons, chs_len]; omega
        dsimp only [gName]
        have bt3 := bt.trans bt2
        have nCl' : Cl ≠ Ch := Ne.symm nCl
        cases e : clB ts ls (look b) p with
        | none =>
          refine ⟨_, rfl, rfl, _, rfl, iteT ?_⟩
          have ec : clB ts ls (look b) (.of x ps) = none := by rw [clB, cls_none hp e]; rfl
          have q := q cs' H2 bt3 hC2 (fun l z => by rw [ec] at z; cases z)
          rw [ec] at q
          exact q
        | some l =>
          refine ⟨_, rfl, rfl, _, rfl, iteF ?_⟩
          have hCl2 := bt2 _ _ nCl' hCl'
          have hs2 := he l e
          refine ⟨_, rfl, .inl ⟨rfl, _, SqL.of hCl2⟩, _, rfl, Cl, _, _, rfl, rfl, hCl2, small1000 (by rw [List.length_map]; omega), ?_⟩
          refine ⟨_, _, _, ns ++ [l], rfl, fun c o n z => ?_, ?_, ?_, ?_⟩
          · rw [upd_ne (ne_of_none z hClH)]; exact bt3 c o n z
          · rw [upd_same, List.map_append]; rfl
          · rw [take_snoc hp]
            exact cls_app hcl (by rw [clsB, e, clsB]; rfl)
          · rw [upd_ne nCl, hC2, hs2, take_snoc hp, chs_app, chs_one, List.append_assoc, List.cons_append]
      · rintro σ H' ⟨x5, x8, x9, ns, rfl, bt, hCl', hcl, hC'⟩
        rw [← hpa, List.take_length] at hcl hC'
        have si' := si.but bt hC'
        refine ⟨_, rfl, Tb, rfl, ⟨_, si'.dn⟩, _, rfl, t, _, 1, _, rfl, rfl, SqT.of (tk bt _ _ h), atI_nat (j := 1) rfl, _, rfl, Cl, _, rfl, .inl ⟨SqL.of hCl', fun tl htl => ?_⟩⟩
        have s1 := same_new htl (.tup (ns.map nV))
        have h1 := upd_same (H := H') (a := tl) (o := .tup (ns.map nV))
        generalize upd H' tl (.tup (ns.map nV)) = H1 at s1 h1 ⊢
        refine ⟨(show 3 ≤ sizeLine by decide), fun tp htp => ?_⟩
        have s2 := same_new htp (.tup [.str "of", .str x, .ref tl])
        have h2 := upd_same (H := H1) (a := tp) (o := .tup [.str "of", .str x, .ref tl])
        generalize upd H1 tp (.tup [.str "of", .str x, .ref tl]) = H2 at s2 h2 ⊢
        have s3 := s1.trans s2
        obtain ⟨kb, ekb, nk⟩ := IsTm.key (t := .of x ns) (v := .ref tp) (H := H2) ⟨tp, tl, rfl, h2, s2 _ _ h1⟩
        refine ⟨kb, kvs, _, ekb, si'.dn.same s3, nk, ?_⟩
        rw [si.tab]
        dsimp only [gName]
        have bt2 : But Ch H H2 := fun c o n e => s3 _ _ (bt c o n e)
        have hC2 := s3 _ _ hC'
        have ec : clB ts ls (look b) (.of x ps) = tabF ts ls (.of x ns) := by rw [clB, hcl]; rfl
        cases e : posF (ts.map (mk ls)) (.of x ns) with
        | none =>
          have et : tabF ts ls (.of x ns) = none := by unfold tabF; rw [e]; rfl
          rw [et] at ec
          have q := q _ H2 bt2 hC2 (fun l z => by rw [ec] at z; cases z)
          rw [ec] at q
          exact ⟨_, rfl, rfl, _, rfl, iteT q⟩
        | some k =>
          obtain ⟨e1, e2⟩ := leaf_val si.ok e
          rw [e1] at ec
          refine ⟨_, rfl, rfl, _, rfl, iteF ?_⟩
          refine ⟨_, rfl, _, rfl, _, rfl, Ch, _, _, cs.length, rfl, rfl, hC2, ?_, ?_⟩
          · unfold ixN
            rw [if_pos (by omega), if_pos (by rw [List.length_map, List.length_append, List.length_cons]; omega)]
            rw [Int.toNat_natCast]
          have ech : chF ts ls (look b) (.of x ps) = k :: chsF ts ls (look b) ps := by rw [chF, hcl]; show (posF (ts.map (mk ls)) (.of x ns)).getD 0 :: _ = _; rw [e]; rfl
          have es : ((cs ++ 0 :: chsF ts ls (look b) ps).map nV).set cs.length (nV k) = (cs ++ chF ts ls (look b) (.of x ps)).map nV := by
            rw [ech, List.map_append, List.map_append, List.set_append_right _ _ (by rw [List.length_map]; exact Nat.le_refl _), List.length_map, Nat.sub_self]; rfl
          rw [show (Option.map nV (some k)).getD V.non = nV k from rfl, es]
          refine ⟨_, rfl, _, rfl, L, _, _, _, rfl, rfl, SqL.of (by rw [upd_ne si.nL]; exact bt2 _ _ si.nL si.hL), nV_at e2, ?_⟩
          have q := q _ (upd H2 Ch (.lst ((cs ++ chF ts ls (look b) (.of x ps)).map nV))) (fun c o n z => by rw [upd_ne n]; exact bt2 c o n z) upd_same (fun l _ => rfl)
          rw [ec] at q
          exact q
end

end K44
namespace K44
open PySem L2 Sw
section
variable {P : Program} {w : World} {K : PySem.W.Frag} {mg : Str → Option Value} {base : Heap}
theorem kit_ii {K : PySem.W.Frag} : PySem.W.kitOne K (.type "int") (.type "int") = some true := by rfl
theorem kit_ib {K : PySem.W.Frag} : PySem.W.kitOne K (.type "int") (.type "bool") = some false := by rfl
theorem kit_ll {K : PySem.W.Frag} : PySem.W.kitOne K (.type "list") (.type "list") = some true := by rfl
theorem kit_tt {K : PySem.W.Frag} : PySem.W.kitOne K (.type "tuple") (.type "tuple") = some true := by rfl
theorem kit_dd {K : PySem.W.Frag} : PySem.W.kitOne K (.type "dict") (.type "dict") = some true := by rfl
structure MIn (H : Hp) (p W L g : Addr) (k : Nat) (v : Bd) (ws : List Str) (ls : List Nat) : Prop where
  hp : H p = some (.tup [nV k, .ref g])
  hg : H g = some (.dK (enc v))
  hW : H W = some (.lst (ws.map V.str))
  hL : H L = some (.lst (ls.map nV))
  len : v.length = ws.length
  at_ : ∀ y ∈ ws, ∃ l, look v y = some l ∧ ls[l]? = some l
inductive SpIsM (vs : List V) (H : Hp) (Q : VK) : Prop
  | mk (p W L g : Addr) (k : Nat) (v : Bd) (ws : List Str) (ls : List Nat) (z0 : vs = [.ref p, .ref W, .ref L]) (z1 : MIn H p W L g k v ws ls) (z2 : Q (.bl true) H) : SpIsM vs H Q
noncomputable def spIsM : Sp := fun vs H Q _ => SpIsM vs H Q
inductive ImI (p W L : Addr) (H : Hp) (i : Nat) (σ : St) (H' : Hp) : Prop
  | mk (x3 x4 : Option V) : (σ = [some (.ref p), some (.ref W), some (.ref L), x3, x4]) → H' = H → ImI p W L H i σ H'
theorem ok_is_match (B : Blt mg) (b_dict : mg "dict" = none) (D : Def K mg "_law_is_match" s_is_match ["_law_row", "_law_words", "_law_leads"]) : Has P w K mg base 1 "_law_is_match" ["_law_row", "_law_words", "_law_leads"] spIsM := by
  refine D.has sc_is_match (fun vs H Q E h => ?_) (fun f cdv A outer s H vs Q E hr h => ?_)
  · obtain ⟨p, W, L, g, k, v, ws, ls, rfl, _⟩ := h; rfl
  obtain ⟨p, W, L, g, k, v, ws, ls, rfl, mi, q⟩ := h
  refine ⟨_, (pss_cons (ps_if (PW.pt (pw_or (pt_not (pt_val (pe_callB call_isT rfl B.isinstance_ boot_isinstance_ (pa_cons (pv 0) (pa_cons (pe_bltn (v := .ty "tuple") rfl B.tuple_ boot_tuple_ rfl) pa_nil))))) (pw_or (pt_cmpR op_ne (pe_callB call_len_seq rfl B.len_ PySem.boot_len (pa_cons (pv 0) pa_nil)) pe_int (nomark _)) (pw_or (pt_not (pt_val (pe_callB call_isT rfl B.isinstance_ boot_isinstance_ (pa_cons (pe_ix ix_tup (pv 0) pe_int (fun _ _ => rfl)) (pa_cons (pe_bltn (v := .ty "int") rfl B.int_ boot_int_ rfl) pa_nil))))) (pw_or1 (pt_val (pe_callB call_isT rfl B.isinstance_ boot_isinstance_ (pa_cons (pe_ix ix_tup (pv 0) pe_int (fun _ _ => rfl)) (pa_cons (pe_bltn (v := .ty "bool") rfl B.bool_ boot_bool_ rfl) pa_nil))))))))) (pss_one (ps_ret pe_bl)) pss_nil)
    (pss_cons (ps_if (PW.pt (pw_or (pt_not (pt_val (pe_callB call_isT rfl B.isinstance_ boot_isinstance_ (pa_cons (pe_ix ix_tup (pv 0) pe_int (fun _ _ => rfl)) (pa_cons (pe_bltn (v := .ty "dict") rfl b_dict boot_dict_ rfl) pa_nil))))) (pw_or1 (pt_cmpR op_ne (pe_callB call_lenK rfl B.len_ PySem.boot_len (pa_cons (pe_ix ix_tup (pv 0) pe_int (fun _ _ => rfl)) pa_nil)) (pe_callB call_len_seq rfl B.len_ PySem.boot_len (pa_cons (pv 1) pa_nil)) (nomark _))))) (pss_one (ps_ret pe_bl)) pss_nil)
    (pss_cons (ps_for PassesOwn.never rfl (pi_list (pv 1)) (pg_name (i := 3) sc_is_match.nd rfl (Or.inl rfl))
    (pss_cons (ps_if (pt_cmp (pc_dnotin (hu_of hr) (pv 3) (pe_ix ix_tup (pv 0) pe_int (fun _ _ => rfl))) (by with_unfolding_all rfl)) (pss_one (ps_ret pe_bl)) pss_nil)
    (pss_cons (ps_set (i := 4) sc_is_match.nd rfl (Or.inl rfl) (pe_dget (hu_of hr) (pe_ix ix_tup (pv 0) pe_int (fun _ _ => rfl)) (pv 3) (fun _ _ => rfl)))
    (pss_cons (ps_if (PW.pt (pw_or (pt_not (pt_val (pe_callB call_isT rfl B.isinstance_ boot_isinstance_ (pa_cons (pv 4) (pa_cons (pe_bltn (v := .ty "int") rfl B.int_ boot_int_ rfl) pa_nil))))) (pw_or (pt_val (pe_callB call_isT rfl B.isinstance_ boot_isinstance_ (pa_cons (pv 4) (pa_cons (pe_bltn (v := .ty "bool") rfl B.bool_ boot_bool_ rfl) pa_nil)))) (pw_or1 (pt_not (pt_chain op_le op_lt pe_int (pv 4) (pe_callB call_len_seq rfl B.len_ PySem.boot_len (pa_cons (pv 2) pa_nil)))))))) (pss_one (ps_ret pe_bl)) pss_nil)
    (pss_one (ps_if (pt_cmpR op_ne (pe_ix ix_list (pv 2) (pv 4) (fun _ _ => rfl)) (pv 4) (nomark _)) (pss_one (ps_ret pe_bl)) pss_nil))))))
    (pss_one (ps_ret pe_bl))))), ?_⟩
  try dsimp only [cxOf]
  have h1 := mi.hp
  have h2 := mi.hg
  refine ⟨_, rfl, _, "tuple", _, true, rfl, .tup h1, kit_tt, _, rfl, iteF ?_⟩
  refine ⟨_, rfl, p, _, rfl, .inr (SqT.of h1), rfl, _, rfl, iteDN (fun z => absurd rfl z) (fun _ => ?_)⟩
  refine ⟨_, rfl, p, _, 0, _, rfl, rfl, SqT.of h1, atI_nat (j := 0) rfl, _, "int", _, true, rfl, .int _, kit_ii, _, rfl, iteF ?_⟩
  refine ⟨_, rfl, p, _, 0, _, rfl, rfl, SqT.of h1, atI_nat (j := 0) rfl, _, "bool", _, false, rfl, .int _, kit_ib, _, rfl, iteF ?_⟩
  refine ⟨_, rfl, p, _, 1, _, rfl, rfl, SqT.of h1, atI_nat (j := 1) rfl, _, "dict", _, true, rfl, .dK h2, kit_dd, _, rfl, iteF ?_⟩
  have el : (enc v).length = (ws.map V.str).length := by unfold enc; rw [List.length_map, List.length_map, mi.len]
  refine ⟨_, rfl, p, _, 1, _, rfl, rfl, SqT.of h1, atI_nat (j := 1) rfl, g, _, rfl, h2, _, rfl, W, _, rfl, .inl (SqL.of mi.hW), rfl, _, rfl, iteDN (fun z => absurd (by rw [el]) z) (fun _ => ?_)⟩
  refine ⟨_, rfl, W, rfl, ⟨_, SqL.of mi.hW⟩, ?_⟩
  refine for_list (xs := ws.map V.str) (ImI p W L H) ⟨none, none, rfl, rfl⟩ ?_ ?_ ?_
  · rintro i σ H' _ ⟨x3, x4, rfl, rfl⟩
    exact SqL.of mi.hW
  · rintro i yv σ H' hyv ⟨x3, x4, rfl, rfl⟩
    rw [List.getElem?_map] at hyv
    obtain ⟨y, hy, rfl⟩ := Option.map_eq_some_iff.mp hyv
    obtain ⟨l, hl, hll⟩ := mi.at_ y (List.mem_of_getElem? hy)
    have hg : DGet H' g (.str y) (some (nV l)) := by
      have := DGet.k (k := (.inr y : Key)) h2
      rw [enc_val, hl] at this
      exact this
    have hlt := (List.getElem?_eq_some_iff.mp hll).1
    dsimp only [gName]
    refine ⟨_, rfl, _, rfl, p, _, 1, _, rfl, rfl, SqT.of h1, atI_nat (j := 1) rfl, g, _, rfl, hg, _, rfl, iteF ?_⟩
    refine ⟨_, rfl, p, _, 1, _, rfl, rfl, SqT.of h1, atI_nat (j := 1) rfl, _, rfl, g, _, rfl, hg, ?_⟩
    dsimp only [gName]
    refine ⟨_, rfl, _, "int", _, true, rfl, .int _, kit_ii, _, rfl, iteF ?_⟩
    refine ⟨_, rfl, _, "bool", _, false, rfl, .int _, kit_ib, _, rfl, iteF ?_⟩
    refine ⟨_, rfl, _, _, rfl, rfl, _, rfl, iteD (fun _ => ?_) (fun z => absurd (Int.natCast_nonneg l) z)⟩
    refine ⟨_, rfl, L, _, rfl, .inl (SqL.of mi.hL), _, _, rfl, rfl, _, rfl, iteDN (fun z => absurd (by rw [List.length_map]; omega) z) (fun _ => ?_)⟩
    refine ⟨_, rfl, _, rfl, L, _, _, _, rfl, rfl, SqL.of mi.hL, nV_at hll, _, rfl, rfl, _, rfl, iteDN (fun z => absurd rfl z) (fun _ => ⟨_, _, rfl, rfl⟩)⟩
  · rintro σ H' ⟨x3, x4, rfl, rfl⟩
    exact q
end

end K44
namespace K44
open PySem L2 Sw
section
variable {P : Program} {w : World} {K : PySem.W.Frag} {mg : Str → Option Value} {base : Heap}
section
variable {ts : List Tm} {ls : List Nat} {hd : Nat → List Nat}
mutual
theorem cl_nk : ∀ (p : T) {lead : Nat} {b v : Bd}, v ∈ clW ts ls hd p lead b → (b.map (·.1)).Nodup → (v.map (·.1)).Nodup
  | .any x, lead, b, v, h, hn => by
    rw [clW] at h
    unfold holeW at h
    split at h
    · split at h
      · rw [List.mem_singleton.mp h]; exact hn
      · cases h
    · rename_i e
      rw [List.mem_singleton.mp h, List.map_append]
      refine List.nodup_append.mpr ⟨hn, List.nodup_cons.mpr ⟨List.not_mem_nil, List.nodup_nil⟩, fun a ha c hc z => ?_⟩
      have hc : c = x := List.mem_singleton.mp hc
      have := look_mem.mpr (by rw [z, hc] at ha; exact ha)
      rw [e] at this; cases this
  | .num n, lead, b, v, h, hn => by
    rw [clW] at h
    split at h
    · rw [List.mem_singleton.mp h]; exact hn
    · cases h
  | .name n, lead, b, v, h, hn => by
    rw [clW] at h
    split at h
    · rw [List.mem_singleton.mp h]; exact hn
    · cases h
  | .of x ps, lead, b, v, h, hn => by
    rw [clW] at h
    obtain ⟨k, _, hw⟩ := List.mem_flatMap.mp h
    split at hw
    · split at hw
      · exact ar_nk ps hw fun b' hb' => by rw [List.mem_singleton.mp hb']; exact hn
      · cases hw
    · cases hw
theorem ar_nk : ∀ (ps : List T) {as : List Nat} {ws : List Bd} {v : Bd}, v ∈ arW ts ls hd ps as ws → (∀ b ∈ ws, (b.map (·.1)).Nodup) → (v.map (·.1)).Nodup
  | [], as, ws, v, h, hn => by rw [arW] at h; exact hn v h
  | p :: ps, as, ws, v, h, hn => by
    rw [arW] at h
    refine ar_nk ps h fun b1 hb1 => ?_
    obtain ⟨b, hb, h2⟩ := List.mem_flatMap.mp hb1
    exact cl_nk p h2 (hn b hb)
end
end
end

section
section
variable {ts : List Tm} {ls : List Nat} {hd : Nat → List Nat} {Pr : Nat → Prop}
mutual
theorem cl_pr (hl : ∀ a, Pr (ls.getD a 0)) : ∀ (p : T) {lead : Nat} {b v : Bd}, Pr lead → v ∈ clW ts ls hd p lead b → (∀ y l, look b y = some l → Pr l) → ∀ y l, look v y = some l → Pr l
  | .any x, lead, b, v, h0, h, hb => by
    rw [clW] at h
    unfold holeW at h
    split at h
    · split at h
      · rw [List.mem_singleton.mp h]; exact hb
      · cases h
    · rw [List.mem_singleton.mp h]
      intro y l e
      rw [look_app] at e
      cases q : look b y with
      | some l' => rw [q] at e; cases e; exact hb y l q
      | none =>
        rw [q] at e
        dsimp only at e
        split at e
        · cases e; exact h0
        · cases e
  | .num n, lead, b, v, _, h, hb => by
    rw [clW] at h
    split at h
    · rw [List.mem_singleton.mp h]; exact hb
    · cases h
  | .name n, lead, b, v, _, h, hb => by
    rw [clW] at h
    split at h
    · rw [List.mem_singleton.mp h]; exact hb
    · cases h
  | .of x ps, lead, b, v, _, h, hb => by
    rw [clW] at h
    obtain ⟨k, _, hw⟩ := List.mem_flatMap.mp h
    split at hw
    · split at hw
      · exact ar_pr hl ps hw fun b' hb' => by rw [List.mem_singleton.mp hb']; exact hb
      · cases hw
    · cases hw
theorem ar_pr (hl : ∀ a, Pr (ls.getD a 0)) : ∀ (ps : List T) {as : List Nat} {ws : List Bd} {v : Bd}, v ∈ arW ts ls hd ps as ws → (∀ b ∈ ws, ∀ y l, look b y = some l → Pr l) → ∀ y l, look v y = some l → Pr l
  | [], as, ws, v, h, hn => by rw [arW] at h; exact hn v h
  | p :: ps, as, ws, v, h, hn => by
    rw [arW] at h
    refine ar_pr hl ps h fun b1 hb1 => ?_
    obtain ⟨b, hb, h2⟩ := List.mem_flatMap.mp hb1
    exact cl_pr hl p (hl _) h2 (hn b hb)
end
end
theorem lead_self {ls : List Nat} (g : GoodL ls) (h : 0 < ls.length) (a : Nat) : ls[ls.getD a 0]? = some (ls.getD a 0) := by
  rw [List.getD_eq_getElem?_getD]
  cases e : ls[a]? with
  | none =>
    have e0 : ls[0]? = some ls[0] := List.getElem?_eq_getElem h
    have := (g 0 _ e0).1
    show ls[0]? = some 0
    rw [e0]; congr 1; omega
  | some v => exact (g a v e).2
structure RowT (ts : List Tm) (ls : List Nat) (x : Str) (ps : List T) (k : Nat) (v : Bd) : Prop where
  cl : clB ts ls (look v) (.of x ps) = some (ls.getD k 0)
  ch : chF ts ls (look v) (.of x ps) = k :: chsF ts ls (look v) ps
  dom : ∀ y, (look v y).isSome = true ↔ y ∈ T.hols ps
  nk : (v.map (·.1)).Nodup
  pr : ∀ y l, look v y = some l → ls[l]? = some l
theorem row_tells {ts : List Tm} {ls : List Nat} (ok : TLok ts ls) (g : GoodL ls) (pos : 0 < ts.length) {x : Str} {ps : List T} {ns : List Nat} (pm : ns.Perm (firstsF (ts.map (mk ls)) ts.length)) {r : Nat × Bd} (h : r ∈ ns.flatMap (mtF ts ls x ps)) : RowT ts ls x ps r.1 r.2 := by
  obtain ⟨k, hk, h⟩ := List.mem_flatMap.mp h
  obtain ⟨v, hv, rfl⟩ := List.mem_map.mp h
  dsimp only
  obtain ⟨u, hu, hp⟩ := first_mem.mp (pm.mem_iff.mp hk)
  unfold teW at hv
  split at hv
  · rename_i y as e
    split at hv
    · rename_i c
      obtain ⟨rfl, el⟩ := c
      rw [e] at hu
      cases hu
      have hds := hds_of ok.len ok.like
      obtain ⟨b0, hb0, fr, hc⟩ := ar_sound hds ps as el hv
      rw [List.mem_singleton.mp hb0] at fr
      have hpos : 0 < ls.length := by rw [ok.len]; exact pos
      refine ⟨?_, ch_head hds hp el hv, fun y => ?_, ar_nk ps hv fun b' hb' => by rw [List.mem_singleton.mp hb']; exact List.nodup_nil, ar_pr (Pr := fun l => ls[l]? = some l) (lead_self g hpos) ps hv fun b' hb' y l z => by rw [List.mem_singleton.mp hb'] at z; cases z⟩
      · rw [clB, hc, Option.bind_some, ← mk_of (k := 0)]; exact tab_at ok e
      · rw [fr.dom y]
        exact ⟨fun z => z.elim (fun z => nomatch z) id, .inr⟩
    · cases hv
  · cases hv
theorem rows_ord {ts : List Tm} {ls : List Nat} (ok : TLok ts ls) {x : Str} {ps : List T} {ns : List Nat} (asc : ns.Pairwise (· < ·)) : (ns.flatMap (mtF ts ls x ps)).Pairwise fun r r' => LxN (r.1 :: chsF ts ls (look r.2) ps) (r'.1 :: chsF ts ls (look r'.2) ps) := by
  have hds := hds_of ok.len ok.like
  have fst : ∀ {k' : Nat} {r : Nat × Bd}, r ∈ mtF ts ls x ps k' → r.1 = k' := fun h => by obtain ⟨v, _, rfl⟩ := List.mem_map.mp h; rfl
  rw [List.pairwise_flatMap]
  refine ⟨fun k _ => ?_, asc.imp fun {k k'} hlt r hr r' hr' => ?_⟩
  · unfold mtF
    rw [List.pairwise_map]
    exact (te_ord hds hdo_of k x ps).imp fun h => lx_cons h
  · rw [fst hr, fst hr']; exact lx_head hlt
theorem same_len {v b : Bd} (hv : (v.map (·.1)).Nodup) (hb : (b.map (·.1)).Nodup) (h : ∀ z, (look v z).isSome = true ↔ (look b z).isSome = true) : v.length = b.length := by
  rw [← List.length_map (f := (·.1)), ← List.length_map (as := b) (f := (·.1))]
  refine Nat.le_antisymm (nodup_len hv fun x hx => ?_) (nodup_len hb fun x hx => ?_)
  · rw [← look_mem, ← h]; exact look_mem.mpr hx
  · rw [← look_mem, h]; exact look_mem.mpr hx
theorem enc_keys (b : Bd) : ((enc b).map fun kv => kV kv.1) = (b.map (·.1)).map V.str := by unfold enc; rw [List.map_map, List.map_map]; rfl
end

end K44
namespace K44
open PySem L2 Sw
section
variable {P : Program} {w : World} {K : PySem.W.Frag} {mg : Str → Option Value} {base : Heap}
theorem rd_hide {t rest : TS} {D : Ends} {σ : St} {H : Hp} (h : ∀ N : St → Hp → Prop, N = rest D → t { D with nx := N } σ H) : tSeq t rest D σ H := h _ rfl
inductive SpLaw (K : PySem.W.Frag) (vs : List V) (H : Hp) (Q : VK) : Prop
  | mk (a : Addr) (ns : List Int) (z0 : vs = [.ref a]) (z1 : SqL K H a (ns.map V.int)) (z2 : ns.length ≤ 63) (z3 : ∀ H', Q (.bl true) H') : SpLaw K vs H Q
noncomputable def spLaw (K : PySem.W.Frag) : Sp := fun vs H Q _ => SpLaw K vs H Q
theorem cut_ints (ns : List Int) : ∃ zs : List Int, cutV (ns.map V.int) none (some 80) = zs.map V.int ∧ zs.length ≤ ns.length := by
  have h1 : ∀ x ∈ cutV (ns.map V.int) none (some 80), ∃ c : Int, x = .int c := fun x hx => by
    obtain ⟨c, _, rfl⟩ := List.mem_map.mp (cutV_mem hx)
    exact ⟨c, rfl⟩
  have h2 := cutV_length (ns.map V.int) none (some 80)
  rw [List.length_map] at h2
  obtain ⟨zs, e⟩ := ints_all h1
  rw [e, List.length_map] at h2
  exact ⟨zs, e, h2⟩
theorem lead_lt {ls : List Nat} (g : GoodL ls) (h : ls.length ≤ 24) (a : Nat) : ls.getD a 0 < 26 := by
  rw [List.getD_eq_getElem?_getD]
  cases e : ls[a]? with
  | none => exact (by decide : 0 < 26)
  | some v =>
    have := (g a v e).1
    have := (List.getElem?_eq_some_iff.mp e).1
    show v < 26
    omega
structure LmB (P : Program) (w : World) (H : Hp) (L p7 Db Tb R : Addr) (t : Nat) (v : V) (us1 : List V) (ts : List Tm) (ls : List Nat) (kvs : List (NK × V)) (x : Str) (ps : List T) (b : Bd) (rs : List (Nat × Bd)) : Prop where
  ok : TLok ts ls
  hL : H L = some (.lst (ls.map nV))
  dn : DN P w H Tb kvs
  tab : ∀ m, valV kvs (tmNK m) = (posF (ts.map (mk ls)) m).map nV
  hR : H R = some (.lst us1)
  rows : RowsM H us1 rs
  hp : H p7 = some (.tup [nV t, v, .ref Db])
  hv : IsTr H (.of x ps) v
  hDb : H Db = some (.dK (enc b))
theorem LmB.same {P : Program} {w : World} {H H' : Hp} {L p7 Db Tb R : Addr} {t : Nat} {v : V} {us1 : List V} {ts : List Tm} {ls : List Nat} {kvs : List (NK × V)} {x : Str} {ps : List T} {b : Bd} {rs : List (Nat × Bd)} (h : LmB P w H L p7 Db Tb R t v us1 ts ls kvs x ps b rs) (s : Same H H') : LmB P w H' L p7 Db Tb R t v us1 ts ls kvs x ps b rs :=
  { h with hL := s _ _ h.hL, dn := h.dn.same s, hR := s _ _ h.hR, rows := rowsM_same h.rows s, hp := s _ _ h.hp, hv := tr_keep (fun c ys e => s _ _ e) h.hv, hDb := s _ _ h.hDb }
noncomputable def lastF (ch : Nat × Bd → List Nat) (rs : List (Nat × Bd)) : Nat → List Nat
  | 0 => []
  | i + 1 => ((rs[i]?).map ch).getD []
inductive LmI (H : Hp) (τ : St) (ch : Nat × Bd → List Nat) (rs : List (Nat × Bd)) (i : Nat) (σ : St) (H' : Hp) : Prop
  | mk (La : Addr) (x11 x12 : Option V) : (σ = τ ++ [some (.ref La), x11, x12]) → Same H H' → H' La = some (.lst ((lastF ch rs i).map nV)) → LmI H τ ch rs i σ H'
theorem last_lt {ch : Nat × Bd → List Nat} {rs : List (Nat × Bd)} {i : Nat} {r : Nat × Bd} (hn : ∃ k c, ch r = k :: c) (ho : rs.Pairwise fun r r' => LxN (ch r) (ch r')) (h : rs[i]? = some r) : LxN (lastF ch rs i) (ch r) := by
  cases i with
  | zero => obtain ⟨k, c, e⟩ := hn; rw [e]; exact lx_nil
  | succ i =>
    have hl := (List.getElem?_eq_some_iff.mp h).1
    have e : rs[i]? = some (rs[i]'(by omega)) := List.getElem?_eq_getElem (by omega)
    show LxN (((rs[i]?).map ch).getD []) (ch r)
    rw [e]
    have := List.pairwise_iff_getElem.mp ho i (i + 1) (by omega) hl (by omega)
    rw [(List.getElem?_eq_some_iff.mp h).2] at this
    exact this
theorem den_handed {H : Hp} {A B C : Addr} {us : List V} {ts : List Tm} {ls : List Nat} (hA : H A = some (.lst us)) (ht : Tms H us ts) (hB : H B = some (.lst (ls.map nV))) (hC : H C = some (.lst [.ref A, .ref B])) :
    Den H (.lst [.lst (ts.map tmD), .lst (ls.map fun n : Nat => D.int (n : Int))]) (.ref C) := by
  rw [Den]
  refine ⟨C, _, rfl, hC, ?_⟩
  rw [Dens]
  refine ⟨_, _, rfl, by rw [Den]; exact ⟨A, us, rfl, hA, tms_den ht⟩, ?_⟩
  rw [Dens]
  exact ⟨_, _, rfl, den_leads hB, by rw [Dens]⟩
theorem map_int (cs : List Nat) : cs.map nV = (cs.map fun n : Nat => (n : Int)).map V.int := by rw [List.map_map]; rfl
theorem ok_law (B : Blt mg) (h_cell_at : Has P w K mg base 1 "_law_cell_at" ["_law_script", "_law_k"] (spCell K)) (h_mixed : Has P w K mg base 1 "_law_mixed" ["_law_cell", "_law_k"] spMixed) (h_pool : Has P w K mg base 2 "_law_pool" ["_law_m"] spPool) (h_terms : Has P w K mg base 3 "_law_terms" ["_law_cells", "_law_pool_here", "_law_most", "_law_ties"] spTerms) (h_closed : Has P w K mg base 3 "closed" ["terms", "edges"] (spClosed K))
    (h_left : Has P w K mg base 5 "_law_left" ["_law_script", "_law_terms_here", "_law_leads", "_law_pool_here", "_law_mode"] (spLeft K)) (h_lmark : Has P w K mg base 1 "_law_mark" ["_law_term_here", "_law_leads"] (spMark K)) (h_table : Has P w K mg base 2 "_law_table" ["_law_terms_here", "_law_leads"] (spTable P w)) (h_matches : Has P w K mg base 10 "matches" ["terms", "leads", "left"] spMatches)
    (h_spot : Has P w K mg base 5 "_law_spot" ["_law_table_here", "_law_leads", "_law_pattern", "_law_binds", "_law_chosen"] (spSpot P w 4)) (h_is_match : Has P w K mg base 1 "_law_is_match" ["_law_row", "_law_words", "_law_leads"] spIsM)
    {f : Addr} {fd : FuncData} (F : Fun K "law" "law" s_law f fd) : FnOk P w K mg base CX0 11 f fd ["_law_script"] (spLaw K) := by
  refine F.ok sc_law (fun vs H Q E h => ?_) (fun cdv A outer s H vs Q E hr h => ?_)
  · obtain ⟨a, ns, rfl, _⟩ := h; rfl
  obtain ⟨a, ns, rfl, hS, h63, q⟩ := h
  refine ⟨_, (pss_cons (ps_set (i := 1) sc_law.nd rfl (Or.inl rfl) (pe_callH h_mixed hr (by omega) rfl (pa_cons (pe_callH h_cell_at hr (by omega) rfl (pa_cons (pv 0) (pa_cons pe_int pa_nil))) (pa_cons pe_int pa_nil))))
    (pss_cons (ps_set (i := 2) sc_law.nd rfl (Or.inl rfl) (pe_callH h_pool hr (by omega) rfl (pa_cons (pe_op op_fdiv (pv 1) pe_int) pa_nil)))
    (pss_cons (ps_asg (pe_callH h_terms hr (by omega) rfl (pa_cons (pe_slice sl_list (pv 0) po_none (po_some pe_int)) (pa_cons (pv 2) (pa_cons pe_int (pa_cons (pe_op op_mod (pv 1) pe_int) pa_nil))))) (pg_tup rfl (pgs_cons (pg_name (i := 3) sc_law.nd rfl (Or.inl rfl)) (pgs_cons (pg_name (i := 4) sc_law.nd rfl (Or.inl rfl)) pgs_nil))))
    (pss_cons (ps_set (i := 5) sc_law.nd rfl (Or.inl rfl) (pe_callH h_closed hr (by omega) rfl (pa_cons (pe_callTy call_list_of rfl B.list_ boot_list_ (pa_cons (pv 3) pa_nil)) (pa_cons (pe_callTy call_list_of rfl B.list_ boot_list_ (pa_cons (pv 4) pa_nil)) pa_nil))))
    (pss_cons (ps_set (i := 6) sc_law.nd rfl (Or.inl rfl) (pe_callH h_left hr (by omega) rfl (pa_cons (pv 0) (pa_cons (pv 3) (pa_cons (pv 5) (pa_cons (pv 2) (pa_cons (pe_op op_mod (pe_op op_fdiv (pv 1) pe_int) pe_int) pa_nil)))))))
    (pss_cons (ps_set (i := 7) sc_law.nd rfl (Or.inl rfl) (pe_lst (pa_cons (pe_callTy call_list_of rfl B.list_ boot_list_ (pa_cons (pv 3) pa_nil)) (pa_cons (pe_callTy call_list_of rfl B.list_ boot_list_ (pa_cons (pv 5) pa_nil)) pa_nil))))
    (pss_cons (ps_set (i := 8) sc_law.nd rfl (Or.inl rfl) (pe_callH h_matches hr (by omega) rfl (pa_cons (pe_ix ix_list (pv 7) pe_int (fun _ _ => rfl)) (pa_cons (pe_ix ix_list (pv 7) pe_int (fun _ _ => rfl)) (pa_cons (pe_ix ix_tup (pv 6) pe_int (fun _ _ => rfl)) pa_nil)))))
    (pss_cons (ps_if (PW.pt (pw_or (pt_cmpR (op_neD (un101 hr)) (pv 7) (pe_lst (pa_cons (pv 3) (pa_cons (pv 5) pa_nil))) (nomark _)) (pw_or1 (pt_not (pt_val (pe_callB call_isT rfl B.isinstance_ boot_isinstance_ (pa_cons (pv 8) (pa_cons (pe_bltn (v := .ty "list") rfl B.list_ boot_list_ rfl) pa_nil)))))))) (pss_one (ps_ret pe_bl)) pss_nil)
    (pss_cons (ps_set (i := 9) sc_law.nd rfl (Or.inl rfl) (pe_callH h_table hr (by omega) rfl (pa_cons (pv 3) (pa_cons (pv 5) pa_nil))))
    (pss_cons (ps_set (i := 10) sc_law.nd rfl (Or.inl rfl) (pe_lst pa_nil))
    (pss_cons (ps_for PassesOwn.never rfl (pi_list (pv 8)) (pg_name (i := 11) sc_law.nd rfl (Or.inl rfl))
    (pss_cons (ps_if (pt_not (pt_val (pe_callH h_is_match hr (by omega) rfl (pa_cons (pv 11) (pa_cons (pe_callTy (call_list_dict rfl) rfl B.list_ boot_list_ (pa_cons (pe_ix ix_tup (pv 6) pe_int (fun _ _ => rfl)) pa_nil)) (pa_cons (pv 5) pa_nil)))))) (pss_one (ps_ret pe_bl)) pss_nil)
    (pss_cons (ps_set (i := 12) sc_law.nd rfl (Or.inl rfl) (pe_lst pa_nil))
    (pss_cons (ps_if (PW.pt (pw_or (pt_cmpR op_isN (pe_callH h_spot hr (by omega) rfl (pa_cons (pv 9) (pa_cons (pv 5) (pa_cons (pe_ix ix_tup (pv 6) pe_int (fun _ _ => rfl)) (pa_cons (pe_ix ix_tup (pv 11) pe_int (fun _ _ => rfl)) (pa_cons (pv 12) pa_nil)))))) pe_non (nomark _)) (pw_or (pt_cmpR op_ne (pe_ix ix_list (pv 12) pe_int (fun _ _ => rfl)) (pe_ix ix_tup (pv 11) pe_int (fun _ _ => rfl)) (nomark _)) (pw_or1 (pt_not (pt_cmpR (op_ltL hr.units0) (pv 10) (pv 12) (nomark _))))))) (pss_one (ps_ret pe_bl)) pss_nil)
    (pss_one (ps_set (i := 10) sc_law.nd rfl (Or.inl rfl) (pv 12)))))))
    (pss_one (ps_ret pe_bl))))))))))))), ?_⟩
  try dsimp only [cxOf]
  refine rd_hide fun N eN => ?_
  refine ⟨_, rfl, a, ns, 0, rfl, hS, by decide, fun c => ⟨c, 100, rfl, by decide, by decide, fun m m0 m1 => ?_⟩⟩
  subst eN
  dsimp only [gName]
  refine rd_hide fun N eN => ?_
  refine ⟨_, rfl, _, _, rfl, rfl, div', _, rfl, fun l ws H1 s1 hp1 => ?_⟩
  subst eN
  dsimp only [gName]
  refine rd_hide fun N eN => ?_
  refine ⟨_, rfl, _, rfl, a, _, rfl, s1.seq hS, fun sl hsl => ?_⟩
  obtain ⟨zs, ez, lz⟩ := cut_ints ns
  rw [ez]
  have s2 := s1.trans (same_new hsl (.lst (zs.map V.int)))
  have hsl2 := upd_same (H := H1) (a := sl) (o := .lst (zs.map V.int))
  have hp2 := hp1.same (same_new hsl (.lst (zs.map V.int)))
  generalize upd H1 sl (.lst (zs.map V.int)) = H2 at s2 hsl2 hp2 ⊢
  refine ⟨_, rfl, _, rfl, _, _, rfl, rfl, pos', sl, l, zs, ws, 11, _, rfl, hsl2, by omega, hp2, by decide, fun p Ta E us evs ts es H3 mo hp hpos hof hev => ?_⟩
  refine ⟨p, _, rfl, SqT.of hp, rfl, _, _, rfl, _, _, rfl, rfl, ?_⟩
  subst eN
  dsimp only [gName]
  obtain ⟨har, hal, hnd⟩ := id mo.ok
  have hut := Paired.length mo.tms
  have few := mo.few
  refine rd_hide fun N eN => ?_
  refine ⟨_, rfl, Ta, us, rfl, .inl (SqL.of mo.hT), fun A1 hA1 => ?_⟩
  have s4 := same_new hA1 (.lst us)
  have hA := upd_same (H := H3) (a := A1) (o := .lst us)
  generalize upd H3 A1 (.lst us) = H4 at s4 hA ⊢
  refine ⟨_, rfl, E, evs, rfl, .inl (SqL.of (s4 _ _ mo.hE)), fun A2 hA2 => ?_⟩
  have s5 := same_new hA2 (.lst evs)
  have hA5 := upd_same (H := H4) (a := A2) (o := .lst evs)
  generalize upd H4 A2 (.lst evs) = H5 at s5 hA5 ⊢
  have s45 := s4.trans s5
  have short : ∀ (i : Nat) x as, ts[i]? = some (.of x as) → as.length ≤ 1000 := fun i x as e => Nat.le_trans (hal i x as e).1 (by decide)
  refine ⟨A1, A2, us, evs, ts, es, rfl, s5 _ _ hA, tms_same s45 mo.tms, SqL.of hA5, edges_keep (fun b ys => s45 _ _) mo.eds, har, by omega, short, mo.lt, fun L ls H6 s6 hL0 hL hc => ?_⟩
  subst eN
  dsimp only [gName]
  have g36 : Same H3 H6 := s45.trans s6
  have hT6 := g36 _ _ mo.hT
  have hts6 := tms_same g36 mo.tms
  have hll := hc.1
  have g26 : Same H2 H6 := mo.same.trans g36
  have g6 : Same H H6 := s2.trans g26
  have tl : TLok ts ls := ⟨har, hc.1, by omega, short, like_of har hc⟩
  have llt := lead_lt hc.2.1 (by omega)
  have hE6 := g36 _ _ mo.hE
  have hes6 := edges_keep (fun b ys => g36 _ _) mo.eds
  have hlt := mo.lt
  clear s45 s4 s5 s6 hA5 hA hL0
  -- the pattern
  have mo0 : 0 ≤ m / 9 % 3 := Int.emod_nonneg _ (by decide)
  have mo1 : m / 9 % 3 < 3 := Int.emod_lt_of_pos _ (by decide)
  obtain ⟨md, emd⟩ : ∃ k : Nat, m / 9 % 3 = (k : Int) := ⟨_, (Int.toNat_of_nonneg mo0).symm⟩
  refine rd_hide fun N eN => ?_
  refine ⟨_, rfl, _, rfl, _, rfl, _, rfl, _, rfl, _, _, rfl, rfl, div', _, _, rfl, rfl, pos', ?_⟩
  show SpLeft K [.ref a, .ref Ta, .ref L, .ref l, V.int (m / 9 % 3)] H6 _
  rw [emd] at mo1 ⊢
  refine ⟨a, Ta, L, l, ns, us, ts, ls, ws, md, rfl, g6.seq hS, hT6, hts6, hL, tl, few, llt, hof, hp2.same g26, by omega, fun i x as e => (hal i x as e).1, fun p7 Db t x as v ps b H7 s7 ht hp7 hv7 hDb7 lo => ?_⟩
  subst eN
  dsimp only [gName]
  have hT7 := s7 _ _ hT6
  have hts7 := tms_same s7 hts6
  have hL7 := s7 _ _ hL
  clear hT6 hts6 hL hE6 hes6 hp2 hp1 hsl2 ht
  -- what is handed
  refine rd_hide fun N eN => ?_
  refine ⟨_, rfl, Ta, us, rfl, .inl (SqL.of hT7), fun B1 hB1 => ?_⟩
  have s8 := same_new hB1 (.lst us)
  have hB8 := upd_same (H := H7) (a := B1) (o := .lst us)
  generalize upd H7 B1 (.lst us) = H8 at s8 hB8 ⊢
  refine ⟨_, rfl, L, _, rfl, .inl (SqL.of (s8 _ _ hL7)), fun B2 hB2 => ?_⟩
  have s9 := same_new hB2 (.lst (ls.map nV))
  have hB9 := upd_same (H := H8) (a := B2) (o := .lst (ls.map nV))
  generalize upd H8 B2 (.lst (ls.map nV)) = H9 at s9 hB9 ⊢
  refine ⟨(show 2 ≤ sizeLine by decide), fun Hd hHd => ?_⟩
  have s10 := same_new hHd (.lst [.ref B1, .ref B2])
  have hHd10 := upd_same (H := H9) (a := Hd) (o := .lst [.ref B1, .ref B2])
  generalize upd H9 Hd (.lst [.ref B1, .ref B2]) = H10 at s10 hHd10 ⊢
  subst eN
  dsimp only [gName]
  have g10 := s8.trans (s9.trans s10)
  have hB110 := (s9.trans s10) _ _ hB8
  have hB210 := s10 _ _ hB9
  have hp10 := g10 _ _ hp7
  have hv10 := tr_keep (fun c ys e => g10 _ _ e) hv7
  have hts10 := tms_same g10 hts7
  -- what is found
  have hpw : ts.length ^ (1 + T.kns ps) ≤ 1000000 := Nat.le_trans (Nat.pow_le_pow_left few _) (Nat.le_trans (Nat.pow_le_pow_right (by decide) (show _ ≤ 3 by have := lo.kns; omega)) (by decide))
  have hho := lo.hol
  refine rd_hide fun N eN => ?_
  refine ⟨_, rfl, Hd, _, _, _, rfl, rfl, SqL.of hHd10, atI_nat (j := 0) rfl, _, rfl, Hd, _, _, _, rfl, rfl, SqL.of hHd10, atI_nat (j := 1) rfl, _, rfl, p7, _, 1, _, rfl, rfl, SqT.of hp10, atI_nat (j := 1) rfl, B1, B2, us, ts, ls, v, x, ps, rfl, hB110, hts10, hB210, tl, by omega, by omega, hv10, lo.deep, by omega, hpw, fun R us1 nn H11 s11 hR0 hR pm asc rm => ?_⟩
  subst eN
  dsimp only [gName]
  have g11 := g10.trans s11
  -- what was handed is as it was
  refine rd_hide fun N eN => ?_
  refine ⟨_, rfl, _, rfl, _, rfl, (show 2 ≤ sizeLine by decide), fun Hn hHn => ?_⟩
  have s12 := same_new hHn (.lst [.ref Ta, .ref L])
  have hHn12 := upd_same (H := H11) (a := Hn) (o := .lst [.ref Ta, .ref L])
  generalize upd H11 Hn (.lst [.ref Ta, .ref L]) = H12 at s12 hHn12 ⊢
  have g12 := g11.trans s12
  have w12 := s11.trans s12
  refine ⟨_, _, .inr ⟨den_handed (w12 _ _ hB110) (tms_same w12 hts10) (w12 _ _ hB210) (w12 _ _ hHd10), den_handed (g12 _ _ hT7) (tms_same g12 hts7) (g12 _ _ hL7) hHn12⟩, ?_, _, rfl, iteDN (fun z => absurd rfl z) (fun _ => ?_)⟩
  · rw [D.deeps, D.deep, D.deeps, D.deep, D.deeps, ints_deep]
    have := tms_deep ts
    omega
  refine ⟨_, rfl, _, "list", _, true, rfl, .lst (s12 _ _ hR), kit_ll, _, rfl, iteF ?_⟩
  subst eN
  dsimp only [tNext]
  -- the table
  refine rd_hide fun N eN => ?_
  refine ⟨_, rfl, _, rfl, Ta, L, us, ts, ls, rfl, g12 _ _ hT7, tms_same g12 hts7, g12 _ _ hL7, tl, fun Tb kvs H13 s13 dn13 hv13 => ?_⟩
  subst eN
  dsimp only [gName]
  refine rd_hide fun N eN => ?_
  refine ⟨Nat.zero_le _, fun La hLa => ?_⟩
  subst eN
  dsimp only [gName]
  have s14 := same_new hLa (.lst [])
  have hLa14 := upd_same (H := H13) (a := La) (o := .lst [])
  generalize upd H13 La (.lst []) = H14 at s14 hLa14 ⊢
  have g14 := g12.trans (s13.trans s14)
  have w14 := s12.trans (s13.trans s14)
  have lm : LmB P w H14 L p7 Db Tb R t v us1 ts ls kvs x ps b (nn.flatMap (mtF ts ls x ps)) := ⟨tl, g14 _ _ hL7, dn13.same s14, hv13, w14 _ _ hR, rowsM_same rm w14, g14 _ _ hp7, tr_keep (fun c ys e => g14 _ _ e) hv7, g14 _ _ hDb7⟩
  have ord := rows_ord tl (x := x) (ps := ps) asc
  have tells : ∀ r ∈ nn.flatMap (mtF ts ls x ps), RowT ts ls x ps r.1 r.2 := fun r hr => row_tells tl hc.2.1 hpos pm hr
  clear hT7 hts7 hL7 s8 s9 s10 s11 s12 s13 s14 g10 g11 g12 w12 g14 w14 hB8 hB9 hHd10 hB110 hB210 hp10 hv10 hts10 hR rm dn13 hv13 hp7 hv7 hDb7 hHn12 hpw
  generalize nn.flatMap (mtF ts ls x ps) = rs at lm ord tells
  refine ⟨_, rfl, R, rfl, ⟨_, SqL.of lm.hR⟩, ?_⟩
  refine for_list (xs := us1) (LmI H14 [some (.ref a), some (.int m), some (.ref l), some (.ref Ta), some (.ref E), some (.ref L), some (.ref p7), some (.ref Hd), some (.ref R), some (.ref Tb)] (fun r => r.1 :: chsF ts ls (look r.2) ps) rs) ⟨La, none, none, rfl, Same.refl _, hLa14⟩ ?_ ?_ ?_
  · rintro i σ H' _ ⟨La, x11, x12, rfl, sm, _⟩
    exact SqL.of (sm _ _ lm.hR)
  · rintro i y σ H' hy ⟨La, x11, x12, rfl, sm, hLa⟩
    obtain ⟨rw_, hrw, p, g, rfl, h1, h2⟩ := Paired.at lm.rows hy
    have rt := tells _ (List.mem_of_getElem? hrw)
    obtain ⟨kr, vr⟩ := rw_
    dsimp only at h1 h2 rt
    have lm' := lm.same sm
    have h1' := sm _ _ h1
    have h2' := sm _ _ h2
    dsimp only [gName]
    have hdm : ∀ z, (look vr z).isSome = true ↔ (look b z).isSome = true := fun z => by rw [rt.dom, lo.dom]
    refine ⟨_, rfl, _, rfl, p7, _, 2, _, rfl, rfl, SqT.of lm'.hp, atI_nat (j := 2) rfl, Db, _, rfl, .inl lm'.hDb, fun W hW => ?_⟩
    rw [enc_keys]
    have s15 := same_new hW (.lst ((b.map (·.1)).map V.str))
    have hW15 := upd_same (H := H') (a := W) (o := .lst ((b.map (·.1)).map V.str))
    generalize upd H' W (.lst ((b.map (·.1)).map V.str)) = H15 at s15 hW15 ⊢
    have lm15 := lm'.same s15
    refine ⟨_, rfl, p, W, L, g, kr, vr, b.map (·.1), ls, rfl, ⟨s15 _ _ h1', s15 _ _ h2', hW15, lm15.hL, by rw [List.length_map]; exact same_len rt.nk lo.nk hdm, fun y hy => ?_⟩, _, rfl, iteF ?_⟩
    · have := (hdm y).mpr (look_mem.mpr hy)
      cases e : look vr y with
      | none => rw [e] at this; cases this
      | some l => exact ⟨l, rfl, rt.pr y l e⟩
    refine ⟨Nat.zero_le _, fun Ch hCh => ?_⟩
    dsimp only [gName]
    have s16 := same_new hCh (.lst [])
    have hCh16 := upd_same (H := H15) (a := Ch) (o := .lst [])
    generalize upd H15 Ch (.lst []) = H16 at s16 hCh16 ⊢
    have g16 := s15.trans s16
    have lm16 := lm15.same s16
    have nL : L ≠ Ch := ne_of_none lm15.hL hCh
    have hChH : H' Ch = none := s15.free hCh
    refine ⟨_, rfl, _, rfl, _, rfl, p7, _, 1, _, rfl, rfl, SqT.of lm16.hp, atI_nat (j := 1) rfl, _, rfl, p, _, 1, _, rfl, rfl, SqT.of (g16 _ _ h1'), atI_nat (j := 1) rfl, _, rfl, Tb, L, g, Ch, v, .of x ps, ts, ls, kvs, vr, [], rfl, ⟨lm16.dn, lm16.tab, lm16.hL, lm16.ok, g16 _ _ h2', hCh16, nL⟩, lm16.hv, ?_, fun y hy => ?_, ?_, fun cs' H17 bt17 hC17 hcs => ?_⟩
    · rw [T.depth]; have := lo.deep; omega
    · rw [T.hol] at hy; exact (rt.dom y).mpr hy
    · rw [T.ar, List.length_nil]; have := lo.ars; omega
    rw [rt.cl]
    have ecs := hcs _ rt.cl
    rw [List.nil_append, rt.ch] at ecs
    subst ecs
    have s17 : Same H' H17 := fun c o e => bt17 c o (ne_of_none e hChH) (g16 _ _ e)
    refine ⟨rfl, _, rfl, iteF ?_⟩
    refine ⟨_, rfl, Ch, _, _, _, rfl, rfl, SqL.of hC17, atI_nat (j := 0) rfl, _, rfl, p, _, 0, _, rfl, rfl, SqT.of (s17 _ _ h1'), atI_nat (j := 0) rfl, rfl, _, rfl, iteDN (fun z => absurd rfl z) (fun _ => ?_)⟩
    have lt := last_lt (ch := fun r => r.1 :: chsF ts ls (look r.2) ps) ⟨_, _, rfl⟩ ord hrw
    refine ⟨_, rfl, _, rfl, La, Ch, _, _, rfl, rfl, SqL.of (by rw [← map_int]; exact s17 _ _ hLa), SqL.of (by rw [← map_int]; exact hC17), _, rfl, ?_⟩
    rw [show HT.lexLt ((lastF (fun r => r.1 :: chsF ts ls (look r.2) ps) rs i).map fun n : Nat => (n : Int)) ((kr :: chsF ts ls (look vr) ps).map fun n : Nat => (n : Int)) = true from lt]
    refine iteF ?_
    refine ⟨_, rfl, Ch, _, _, rfl, sm.trans s17, ?_⟩
    rw [hC17]
    show _ = some (HO.lst ((((rs[i]?).map fun r => r.1 :: chsF ts ls (look r.2) ps).getD []).map nV))
    rw [hrw]; rfl
  · rintro σ H' ⟨La, x11, x12, rfl, sm, _⟩
    exact q _
end

end K44
namespace K44
open PySem L2
theorem len_s {n : Nat} {us : List Value} (h : us.length = n + 1) : ∃ v vs, us = v :: vs ∧ vs.length = n := by cases us with | nil => cases h | cons v vs => exact ⟨v, vs, rfl, Nat.succ.inj h⟩
theorem len1_ {fd : FuncData} {ps : List Str} (h : ∀ v0 : Value, bindArgs fd ⟨[v0], []⟩ = pure (ps.zip [v0])) : ∀ us : List Value, us.length = 1 → bindArgs fd ⟨us, []⟩ = pure (ps.zip us) := fun us h0 => by obtain ⟨v0, us, rfl, h1⟩ := len_s h0; obtain rfl := List.eq_nil_of_length_eq_zero h1; exact h v0
open PySem L2 Sw
theorem len2_ {fd : FuncData} {ps : List Str} (h : ∀ v0 v1 : Value, bindArgs fd ⟨[v0, v1], []⟩ = pure (ps.zip [v0, v1])) : ∀ us : List Value, us.length = 2 → bindArgs fd ⟨us, []⟩ = pure (ps.zip us) := fun us h0 => by obtain ⟨v0, us, rfl, h1⟩ := len_s h0; obtain ⟨v1, us, rfl, h2⟩ := len_s h1; obtain rfl := List.eq_nil_of_length_eq_zero h2; exact h v0 v1
open PySem L2 Sw
theorem len3_ {fd : FuncData} {ps : List Str} (h : ∀ v0 v1 v2 : Value, bindArgs fd ⟨[v0, v1, v2], []⟩ = pure (ps.zip [v0, v1, v2])) : ∀ us : List Value, us.length = 3 → bindArgs fd ⟨us, []⟩ = pure (ps.zip us) := fun us h0 => by obtain ⟨v0, us, rfl, h1⟩ := len_s h0; obtain ⟨v1, us, rfl, h2⟩ := len_s h1; obtain ⟨v2, us, rfl, h3⟩ := len_s h2; obtain rfl := List.eq_nil_of_length_eq_zero h3; exact h v0 v1 v2
open PySem L2 Sw
theorem len4_ {fd : FuncData} {ps : List Str} (h : ∀ v0 v1 v2 v3 : Value, bindArgs fd ⟨[v0, v1, v2, v3], []⟩ = pure (ps.zip [v0, v1, v2, v3])) : ∀ us : List Value, us.length = 4 → bindArgs fd ⟨us, []⟩ = pure (ps.zip us) := fun us h0 => by obtain ⟨v0, us, rfl, h1⟩ := len_s h0; obtain ⟨v1, us, rfl, h2⟩ := len_s h1; obtain ⟨v2, us, rfl, h3⟩ := len_s h2; obtain ⟨v3, us, rfl, h4⟩ := len_s h3; obtain rfl := List.eq_nil_of_length_eq_zero h4; exact h v0 v1 v2 v3
open PySem L2 Sw
theorem len5_ {fd : FuncData} {ps : List Str} (h : ∀ v0 v1 v2 v3 v4 : Value, bindArgs fd ⟨[v0, v1, v2, v3, v4], []⟩ = pure (ps.zip [v0, v1, v2, v3, v4])) : ∀ us : List Value, us.length = 5 → bindArgs fd ⟨us, []⟩ = pure (ps.zip us) := fun us h0 => by obtain ⟨v0, us, rfl, h1⟩ := len_s h0; obtain ⟨v1, us, rfl, h2⟩ := len_s h1; obtain ⟨v2, us, rfl, h3⟩ := len_s h2; obtain ⟨v3, us, rfl, h4⟩ := len_s h3; obtain ⟨v4, us, rfl, h5⟩ := len_s h4; obtain rfl := List.eq_nil_of_length_eq_zero h5; exact h v0 v1 v2 v3 v4
open PySem L2 Sw
theorem len8_ {fd : FuncData} {ps : List Str} (h : ∀ v0 v1 v2 v3 v4 v5 v6 v7 : Value, bindArgs fd ⟨[v0, v1, v2, v3, v4, v5, v6, v7], []⟩ = pure (ps.zip [v0, v1, v2, v3, v4, v5, v6, v7])) : ∀ us : List Value, us.length = 8 → bindArgs fd ⟨us, []⟩ = pure (ps.zip us) := fun us h0 => by obtain ⟨v0, us, rfl, h1⟩ := len_s h0; obtain ⟨v1, us, rfl, h2⟩ := len_s h1; obtain ⟨v2, us, rfl, h3⟩ := len_s h2; obtain ⟨v3, us, rfl, h4⟩ := len_s h3; obtain ⟨v4, us, rfl, h5⟩ := len_s h4; obtain ⟨v5, us, rfl, h6⟩ := len_s h5; obtain ⟨v6, us, rfl, h7⟩ := len_s h6; obtain ⟨v7, us, rfl, h8⟩ := len_s h7; obtain rfl := List.eq_nil_of_length_eq_zero h8; exact h v0 v1 v2 v3 v4 v5 v6 v7
open PySem L2 Sw
theorem all_mk {l : PySem.W.OpenLaw} {w : World} {K : PySem.W.Frag} {h : Heap} {mg : Str → Option Value} {fa CM f0 f1 f2 f3 f4 f5 f6 f7 f8 f9 f10 f11 f12 f13 f14 f15 f16 f17 f18 f19 f20 f21 f22 f23 f24 f25 f26  : Addr} (X : K.In h) (G : h.Ns mainGlobals mg) (hfa : mg "law" = some (.ref fa))
    {od0 an0 od1 an1 od2 an2 od3 an3 od4 an4 od5 an5 od6 an6 od7 an7 od8 an8 od9 an9 od10 an10 od11 an11 od12 an12 od13 an13 od14 an14 od15 an15 od16 an16 od17 an17 od18 an18 od19 an19 od20 an20 od21 an21 od22 an22 od23 an23 od24 an24 od25 an25 od26 an26 : Option Addr} {sl0 sl1 sl2 sl3 sl4 sl5 sl6 sl7 sl8 sl9 sl10 sl11 sl12 sl13 sl14 sl15 sl16 sl17 sl18 sl19 sl20 sl21 sl22 sl23 sl24 sl25 sl26 : Array (Option Value)} {oc0 kV0 dc0 pm0 cd0 ct0 oc1 kV1 dc1 pm1 cd1 ct1 oc2 kV2 dc2 pm2 cd2 ct2 oc3 kV3 dc3 pm3 cd3 ct3 oc4 kV4 dc4 pm4 cd4 ct4 oc5 kV5 dc5 pm5 cd5 ct5 oc6 kV6 dc6 pm6 cd6 ct6 oc7 kV7 dc7 pm7 cd7 ct7 oc8 kV8 dc8 pm8 cd8 ct8 oc9 kV9 dc9 pm9 cd9 ct9 oc10 kV10 dc10 pm10 cd10 ct10 oc11 kV11 dc11 pm11 cd11 ct11 oc12 kV12 dc12 pm12 cd12 ct12 oc13 kV13 dc13 pm13 cd13 ct13 oc14 kV14 dc14 pm14 cd14 ct14 oc15 kV15 dc15 pm15 cd15 ct15 oc16 kV16 dc16 pm16 cd16 ct16 oc17 kV17 dc17 pm17 cd17 ct17 oc18 kV18 dc18 pm18 cd18 ct18 oc19 kV19 dc19 pm19 cd19 ct19 oc20 kV20 dc20 pm20 cd20 ct20 oc21 kV21 dc21 pm21 cd21 ct21 oc22 kV22 dc22 pm22 cd22 ct22 oc23 kV23 dc23 pm23 cd23 ct23 oc24 kV24 dc24 pm24 cd24 ct24 oc25 kV25 dc25 pm25 cd25 ct25 oc26 kV26 dc26 pm26 cd26 ct26 : Value}
    (aC : PySem.W.nsIn K mainGlobals "Matcher" = some (some (.ref CM)))
    (a0 : PySem.W.nsIn K mainGlobals "mark" = some (some (.ref f0)))
    (l0 : K.lookup f0 = some ⟨oc0, od0, .func (PySem.W.fnOf "mark" "mark" (defArgs s_mark) (defBody s_mark) (defScope s_mark) .none kV0 dc0 pm0 an0 cd0 ct0), sl0⟩)
    (c0 : PySem.W.codeIn K cd0 "mark" = true)
    (k0 : PySem.W.keepIn K (.ref f0) = true)
    (a1 : PySem.W.nsIn K mainGlobals "join_classes" = some (some (.ref f1)))
    (l1 : K.lookup f1 = some ⟨oc1, od1, .func (PySem.W.fnOf "join_classes" "join_classes" (defArgs s_join_classes) (defBody s_join_classes) (defScope s_join_classes) .none kV1 dc1 pm1 an1 cd1 ct1), sl1⟩)
    (c1 : PySem.W.codeIn K cd1 "join_classes" = true)
    (k1 : PySem.W.keepIn K (.ref f1) = true)
    (a2 : PySem.W.nsIn K mainGlobals "join_like" = some (some (.ref f2)))
    (l2 : K.lookup f2 = some ⟨oc2, od2, .func (PySem.W.fnOf "join_like" "join_like" (defArgs s_join_like) (defBody s_join_like) (defScope s_join_like) .none kV2 dc2 pm2 an2 cd2 ct2), sl2⟩)
    (c2 : PySem.W.codeIn K cd2 "join_like" = true)
    (k2 : PySem.W.keepIn K (.ref f2) = true)
    (a3 : PySem.W.nsIn K mainGlobals "closed" = some (some (.ref f3)))
    (l3 : K.lookup f3 = some ⟨oc3, od3, .func (PySem.W.fnOf "closed" "closed" (defArgs s_closed) (defBody s_closed) (defScope s_closed) .none kV3 dc3 pm3 an3 cd3 ct3), sl3⟩)
    (c3 : PySem.W.codeIn K cd3 "closed" = true)
    (k3 : PySem.W.keepIn K (.ref f3) = true)
    (a4 : PySem.W.nsIn K mainGlobals "marks" = some (some (.ref f4)))
    (l4 : K.lookup f4 = some ⟨oc4, od4, .func (PySem.W.fnOf "marks" "marks" (defArgs s_marks) (defBody s_marks) (defScope s_marks) .none kV4 dc4 pm4 an4 cd4 ct4), sl4⟩)
    (c4 : PySem.W.codeIn K cd4 "marks" = true)
    (k4 : PySem.W.keepIn K (.ref f4) = true)
    (a5 : PySem.W.nsIn K mainGlobals "nodes" = some (some (.ref f5)))
    (l5 : K.lookup f5 = some ⟨oc5, od5, .func (PySem.W.fnOf "nodes" "nodes" (defArgs s_nodes) (defBody s_nodes) (defScope s_nodes) .none kV5 dc5 pm5 an5 cd5 ct5), sl5⟩)
    (c5 : PySem.W.codeIn K cd5 "nodes" = true)
    (k5 : PySem.W.keepIn K (.ref f5) = true)
    (a6 : PySem.W.nsIn K mainGlobals "matches" = some (some (.ref f6)))
    (l6 : K.lookup f6 = some ⟨oc6, od6, .func (PySem.W.fnOf "matches" "matches" (defArgs s_matches) (defBody s_matches) (defScope s_matches) .none kV6 dc6 pm6 an6 cd6 ct6), sl6⟩)
    (c6 : PySem.W.codeIn K cd6 "matches" = true)
    (k6 : PySem.W.keepIn K (.ref f6) = true)
    (a7 : PySem.W.nsIn K mainGlobals "node_numbers" = some (some (.ref f7)))
    (l7 : K.lookup f7 = some ⟨oc7, od7, .func (PySem.W.fnOf "node_numbers" "node_numbers" (defArgs s_node_numbers) (defBody s_node_numbers) (defScope s_node_numbers) .none kV7 dc7 pm7 an7 cd7 ct7), sl7⟩)
    (c7 : PySem.W.codeIn K cd7 "node_numbers" = true)
    (k7 : PySem.W.keepIn K (.ref f7) = true)
    (a8 : PySem.W.findIn K (.ref CM) "__init__" = some (some (.ref f8)))
    (l8 : K.lookup f8 = some ⟨oc8, od8, .func (PySem.W.fnOf "__init__" "Matcher.__init__" (defArgs s_minit) (defBody s_minit) (defScope s_minit) .none kV8 dc8 pm8 an8 cd8 ct8), sl8⟩)
    (c8 : PySem.W.codeIn K cd8 "Matcher.__init__" = true)
    (k8 : PySem.W.keepIn K (.ref f8) = true)
    (n8 : PySem.W.isFn K (.ref f8) = true)
    (a9 : PySem.W.findIn K (.ref CM) "term_ways" = some (some (.ref f9)))
    (l9 : K.lookup f9 = some ⟨oc9, od9, .func (PySem.W.fnOf "term_ways" "Matcher.term_ways" (defArgs s_term_ways) (defBody s_term_ways) (defScope s_term_ways) .none kV9 dc9 pm9 an9 cd9 ct9), sl9⟩)
    (c9 : PySem.W.codeIn K cd9 "Matcher.term_ways" = true)
    (k9 : PySem.W.keepIn K (.ref f9) = true)
    (n9 : PySem.W.isFn K (.ref f9) = true)
    (a10 : PySem.W.findIn K (.ref CM) "class_ways" = some (some (.ref f10)))
    (l10 : K.lookup f10 = some ⟨oc10, od10, .func (PySem.W.fnOf "class_ways" "Matcher.class_ways" (defArgs s_class_ways) (defBody s_class_ways) (defScope s_class_ways) .none kV10 dc10 pm10 an10 cd10 ct10), sl10⟩)
    (c10 : PySem.W.codeIn K cd10 "Matcher.class_ways" = true)
    (k10 : PySem.W.keepIn K (.ref f10) = true)
    (n10 : PySem.W.isFn K (.ref f10) = true)
    (a11 : PySem.W.nsIn K mainGlobals "hole_ways" = some (some (.ref f11)))
    (l11 : K.lookup f11 = some ⟨oc11, od11, .func (PySem.W.fnOf "hole_ways" "hole_ways" (defArgs s_hole_ways) (defBody s_hole_ways) (defScope s_hole_ways) .none kV11 dc11 pm11 an11 cd11 ct11), sl11⟩)
    (c11 : PySem.W.codeIn K cd11 "hole_ways" = true)
    (k11 : PySem.W.keepIn K (.ref f11) = true)
    (a12 : PySem.W.nsIn K mainGlobals "_law_cell_at" = some (some (.ref f12)))
    (l12 : K.lookup f12 = some ⟨oc12, od12, .func (PySem.W.fnOf "_law_cell_at" "_law_cell_at" (defArgs s_cell_at) (defBody s_cell_at) (defScope s_cell_at) .none kV12 dc12 pm12 an12 cd12 ct12), sl12⟩)
    (c12 : PySem.W.codeIn K cd12 "_law_cell_at" = true)
    (k12 : PySem.W.keepIn K (.ref f12) = true)
    (a13 : PySem.W.nsIn K mainGlobals "_law_mixed" = some (some (.ref f13)))
    (l13 : K.lookup f13 = some ⟨oc13, od13, .func (PySem.W.fnOf "_law_mixed" "_law_mixed" (defArgs s_mixed) (defBody s_mixed) (defScope s_mixed) .none kV13 dc13 pm13 an13 cd13 ct13), sl13⟩)
    (c13 : PySem.W.codeIn K cd13 "_law_mixed" = true)
    (k13 : PySem.W.keepIn K (.ref f13) = true)
    (a14 : PySem.W.nsIn K mainGlobals "_law_word" = some (some (.ref f14)))
    (l14 : K.lookup f14 = some ⟨oc14, od14, .func (PySem.W.fnOf "_law_word" "_law_word" (defArgs s_word) (defBody s_word) (defScope s_word) .none kV14 dc14 pm14 an14 cd14 ct14), sl14⟩)
    (c14 : PySem.W.codeIn K cd14 "_law_word" = true)
    (k14 : PySem.W.keepIn K (.ref f14) = true)
    (a15 : PySem.W.nsIn K mainGlobals "_law_number" = some (some (.ref f15)))
    (l15 : K.lookup f15 = some ⟨oc15, od15, .func (PySem.W.fnOf "_law_number" "_law_number" (defArgs s_number) (defBody s_number) (defScope s_number) .none kV15 dc15 pm15 an15 cd15 ct15), sl15⟩)
    (c15 : PySem.W.codeIn K cd15 "_law_number" = true)
    (k15 : PySem.W.keepIn K (.ref f15) = true)
    (a16 : PySem.W.nsIn K mainGlobals "_law_pool" = some (some (.ref f16)))
    (l16 : K.lookup f16 = some ⟨oc16, od16, .func (PySem.W.fnOf "_law_pool" "_law_pool" (defArgs s_pool) (defBody s_pool) (defScope s_pool) .none kV16 dc16 pm16 an16 cd16 ct16), sl16⟩)
    (c16 : PySem.W.codeIn K cd16 "_law_pool" = true)
    (k16 : PySem.W.keepIn K (.ref f16) = true)
    (a17 : PySem.W.nsIn K mainGlobals "_law_term" = some (some (.ref f17)))
    (l17 : K.lookup f17 = some ⟨oc17, od17, .func (PySem.W.fnOf "_law_term" "_law_term" (defArgs s_term) (defBody s_term) (defScope s_term) .none kV17 dc17 pm17 an17 cd17 ct17), sl17⟩)
    (c17 : PySem.W.codeIn K cd17 "_law_term" = true)
    (k17 : PySem.W.keepIn K (.ref f17) = true)
    (a18 : PySem.W.nsIn K mainGlobals "_law_terms" = some (some (.ref f18)))
    (l18 : K.lookup f18 = some ⟨oc18, od18, .func (PySem.W.fnOf "_law_terms" "_law_terms" (defArgs s_terms) (defBody s_terms) (defScope s_terms) .none kV18 dc18 pm18 an18 cd18 ct18), sl18⟩)
    (c18 : PySem.W.codeIn K cd18 "_law_terms" = true)
    (k18 : PySem.W.keepIn K (.ref f18) = true)
    (a19 : PySem.W.nsIn K mainGlobals "_law_hole" = some (some (.ref f19)))
    (l19 : K.lookup f19 = some ⟨oc19, od19, .func (PySem.W.fnOf "_law_hole" "_law_hole" (defArgs s_hole) (defBody s_hole) (defScope s_hole) .none kV19 dc19 pm19 an19 cd19 ct19), sl19⟩)
    (c19 : PySem.W.codeIn K cd19 "_law_hole" = true)
    (k19 : PySem.W.keepIn K (.ref f19) = true)
    (a20 : PySem.W.nsIn K mainGlobals "_law_general" = some (some (.ref f20)))
    (l20 : K.lookup f20 = some ⟨oc20, od20, .func (PySem.W.fnOf "_law_general" "_law_general" (defArgs s_general) (defBody s_general) (defScope s_general) .none kV20 dc20 pm20 an20 cd20 ct20), sl20⟩)
    (c20 : PySem.W.codeIn K cd20 "_law_general" = true)
    (k20 : PySem.W.keepIn K (.ref f20) = true)
    (a21 : PySem.W.nsIn K mainGlobals "_law_left" = some (some (.ref f21)))
    (l21 : K.lookup f21 = some ⟨oc21, od21, .func (PySem.W.fnOf "_law_left" "_law_left" (defArgs s_left) (defBody s_left) (defScope s_left) .none kV21 dc21 pm21 an21 cd21 ct21), sl21⟩)
    (c21 : PySem.W.codeIn K cd21 "_law_left" = true)
    (k21 : PySem.W.keepIn K (.ref f21) = true)
    (a22 : PySem.W.nsIn K mainGlobals "_law_mark" = some (some (.ref f22)))
    (l22 : K.lookup f22 = some ⟨oc22, od22, .func (PySem.W.fnOf "_law_mark" "_law_mark" (defArgs s_lmark) (defBody s_lmark) (defScope s_lmark) .none kV22 dc22 pm22 an22 cd22 ct22), sl22⟩)
    (c22 : PySem.W.codeIn K cd22 "_law_mark" = true)
    (k22 : PySem.W.keepIn K (.ref f22) = true)
    (a23 : PySem.W.nsIn K mainGlobals "_law_table" = some (some (.ref f23)))
    (l23 : K.lookup f23 = some ⟨oc23, od23, .func (PySem.W.fnOf "_law_table" "_law_table" (defArgs s_table) (defBody s_table) (defScope s_table) .none kV23 dc23 pm23 an23 cd23 ct23), sl23⟩)
    (c23 : PySem.W.codeIn K cd23 "_law_table" = true)
    (k23 : PySem.W.keepIn K (.ref f23) = true)
    (a24 : PySem.W.nsIn K mainGlobals "_law_spot" = some (some (.ref f24)))
    (l24 : K.lookup f24 = some ⟨oc24, od24, .func (PySem.W.fnOf "_law_spot" "_law_spot" (defArgs s_spot) (defBody s_spot) (defScope s_spot) .none kV24 dc24 pm24 an24 cd24 ct24), sl24⟩)
    (c24 : PySem.W.codeIn K cd24 "_law_spot" = true)
    (k24 : PySem.W.keepIn K (.ref f24) = true)
    (a25 : PySem.W.nsIn K mainGlobals "_law_is_match" = some (some (.ref f25)))
    (l25 : K.lookup f25 = some ⟨oc25, od25, .func (PySem.W.fnOf "_law_is_match" "_law_is_match" (defArgs s_is_match) (defBody s_is_match) (defScope s_is_match) .none kV25 dc25 pm25 an25 cd25 ct25), sl25⟩)
    (c25 : PySem.W.codeIn K cd25 "_law_is_match" = true)
    (k25 : PySem.W.keepIn K (.ref f25) = true)
    (a26 : PySem.W.nsIn K mainGlobals "law" = some (some (.ref f26)))
    (l26 : K.lookup f26 = some ⟨oc26, od26, .func (PySem.W.fnOf "law" "law" (defArgs s_law) (defBody s_law) (defScope s_law) .none kV26 dc26 pm26 an26 cd26 ct26), sl26⟩)
    (c26 : PySem.W.codeIn K cd26 "law" = true)
    (k26 : PySem.W.keepIn K (.ref f26) = true)
    (rMk : PySem.W.makesIn K CM = true)
    (rKp : PySem.W.keepIn K (.ref CM) = true)
    (rPg : PySem.W.plainGet K CM Str.empty = true)
    (rHd : PySem.W.hasDictIn K CM = true)
    (rPo : PySem.W.plainOver K CM = true)
    (rSa : PySem.W.findIn K (.ref CM) "__setattr__" = some (some (.builtin "object.__setattr__")))
    (rN_terms : PySem.W.findIn K (.ref CM) "terms" = some none)
    (rN_leads : PySem.W.findIn K (.ref CM) "leads" = some none)
    (rN_table : PySem.W.findIn K (.ref CM) "table" = some none)
    (rN_heads : PySem.W.findIn K (.ref CM) "heads" = some none)
    (z0 : PySem.W.nsIn K mainGlobals "len" = some none)
    (z1 : PySem.W.nsIn K mainGlobals "min" = some none)
    (z2 : PySem.W.nsIn K mainGlobals "max" = some none)
    (z3 : PySem.W.nsIn K mainGlobals "sum" = some none)
    (z4 : PySem.W.nsIn K mainGlobals "range" = some none)
    (z5 : PySem.W.nsIn K mainGlobals "enumerate" = some none)
    (z6 : PySem.W.nsIn K mainGlobals "isinstance" = some none)
    (z7 : PySem.W.nsIn K mainGlobals "tuple" = some none)
    (z8 : PySem.W.nsIn K mainGlobals "int" = some none)
    (z9 : PySem.W.nsIn K mainGlobals "bool" = some none)
    (z10 : PySem.W.nsIn K mainGlobals "str" = some none)
    (z11 : PySem.W.nsIn K mainGlobals "list" = some none)
    (z12 : PySem.W.nsIn K mainGlobals "dict" = some none)
    (z13 : PySem.W.nsIn K mainGlobals "zip" = some none)
    (z14 : PySem.W.nsIn K mainGlobals "sorted" = some none) :
    ∃ fd : FuncData, (∀ (s : Shared) (v : Value), BindsTo s fd ⟨[v], []⟩ [("_law_script", v)]) ∧ ∀ base : Heap, K.In base → base.Ns mainGlobals mg → FnOk l.prog w K mg base CX0 11 fa fd ["_law_script"] (spLaw K) := by
  have e := hfa.symm.trans (PySem.W.mg_of X G a26)
  cases e
  have B : Blt mg := ⟨PySem.W.mg_none_of X G z0, PySem.W.mg_none_of X G z1, PySem.W.mg_none_of X G z2, PySem.W.mg_none_of X G z3, PySem.W.mg_none_of X G z4, PySem.W.mg_none_of X G z5, PySem.W.mg_none_of X G z6, PySem.W.mg_none_of X G z7, PySem.W.mg_none_of X G z8, PySem.W.mg_none_of X G z9, PySem.W.mg_none_of X G z10, PySem.W.mg_none_of X G z11⟩
  have b_dict := PySem.W.mg_none_of X G z12
  have b_zip := PySem.W.mg_none_of X G z13
  have b_sorted := PySem.W.mg_none_of X G z14
  have Z : TopMt K mg CM := ⟨⟨rPg, rHd, rPo, rSa⟩, rN_terms, rN_leads, rN_table, rN_heads⟩
  have F_mark := fun_mk (st := s_mark) l0 c0 k0
  have D_mark : Def K mg "mark" s_mark ["term", "leads"] := ⟨_, _, F_mark, PySem.W.mg_of X G a0, F_mark.binds fun _ _ _ _ _ _ us hl => len2_ (fun _ _ => rfl) us hl⟩
  have F_join_classes := fun_mk (st := s_join_classes) l1 c1 k1
  have D_join_classes : Def K mg "join_classes" s_join_classes ["leads", "a", "b"] := ⟨_, _, F_join_classes, PySem.W.mg_of X G a1, F_join_classes.binds fun _ _ _ _ _ _ us hl => len3_ (fun _ _ _ => rfl) us hl⟩
  have F_join_like := fun_mk (st := s_join_like) l2 c2 k2
  have D_join_like : Def K mg "join_like" s_join_like ["terms", "leads"] := ⟨_, _, F_join_like, PySem.W.mg_of X G a2, F_join_like.binds fun _ _ _ _ _ _ us hl => len2_ (fun _ _ => rfl) us hl⟩
  have F_closed := fun_mk (st := s_closed) l3 c3 k3
  have D_closed : Def K mg "closed" s_closed ["terms", "edges"] := ⟨_, _, F_closed, PySem.W.mg_of X G a3, F_closed.binds fun _ _ _ _ _ _ us hl => len2_ (fun _ _ => rfl) us hl⟩
  have F_marks := fun_mk (st := s_marks) l4 c4 k4
  have D_marks : Def K mg "marks" s_marks ["terms", "leads"] := ⟨_, _, F_marks, PySem.W.mg_of X G a4, F_marks.binds fun _ _ _ _ _ _ us hl => len2_ (fun _ _ => rfl) us hl⟩
  have F_nodes := fun_mk (st := s_nodes) l5 c5 k5
  have D_nodes : Def K mg "nodes" s_nodes ["terms", "leads"] := ⟨_, _, F_nodes, PySem.W.mg_of X G a5, F_nodes.binds fun _ _ _ _ _ _ us hl => len2_ (fun _ _ => rfl) us hl⟩
  have F_matches := fun_mk (st := s_matches) l6 c6 k6
  have D_matches : Def K mg "matches" s_matches ["terms", "leads", "left"] := ⟨_, _, F_matches, PySem.W.mg_of X G a6, F_matches.binds fun _ _ _ _ _ _ us hl => len3_ (fun _ _ _ => rfl) us hl⟩
  have F_node_numbers := fun_mk (st := s_node_numbers) l7 c7 k7
  have D_node_numbers : Def K mg "node_numbers" s_node_numbers ["terms", "leads"] := ⟨_, _, F_node_numbers, PySem.W.mg_of X G a7, F_node_numbers.binds fun _ _ _ _ _ _ us hl => len2_ (fun _ _ => rfl) us hl⟩
  have F_minit := fun_mk (st := s_minit) l8 c8 k8
  have D_minit : DefC K mg "Matcher" CM "Matcher.__init__" s_minit ["self", "terms", "leads"] := ⟨_, _, F_minit, PySem.W.mg_of X G aC, ⟨rMk, a8, n8, rKp⟩, F_minit.binds fun _ _ _ _ _ _ us hl => len3_ (fun _ _ _ => rfl) us hl⟩
  have F_term_ways := fun_mk (st := s_term_ways) l9 c9 k9
  have D_term_ways : DefM K CM "term_ways" "Matcher.term_ways" s_term_ways ["self", "k", "pattern", "binds"] := ⟨_, _, F_term_ways, ⟨a9, n9, k9⟩, F_term_ways.binds fun _ _ _ _ _ _ us hl => len4_ (fun _ _ _ _ => rfl) us hl⟩
  have F_class_ways := fun_mk (st := s_class_ways) l10 c10 k10
  have D_class_ways : DefM K CM "class_ways" "Matcher.class_ways" s_class_ways ["self", "lead", "pattern", "binds"] := ⟨_, _, F_class_ways, ⟨a10, n10, k10⟩, F_class_ways.binds fun _ _ _ _ _ _ us hl => len4_ (fun _ _ _ _ => rfl) us hl⟩
  have F_hole_ways := fun_mk (st := s_hole_ways) l11 c11 k11
  have D_hole_ways : Def K mg "hole_ways" s_hole_ways ["lead", "hole", "binds"] := ⟨_, _, F_hole_ways, PySem.W.mg_of X G a11, F_hole_ways.binds fun _ _ _ _ _ _ us hl => len3_ (fun _ _ _ => rfl) us hl⟩
  have F_cell_at := fun_mk (st := s_cell_at) l12 c12 k12
  have D_cell_at : Def K mg "_law_cell_at" s_cell_at ["_law_script", "_law_k"] := ⟨_, _, F_cell_at, PySem.W.mg_of X G a12, F_cell_at.binds fun _ _ _ _ _ _ us hl => len2_ (fun _ _ => rfl) us hl⟩
  have F_mixed := fun_mk (st := s_mixed) l13 c13 k13
  have D_mixed : Def K mg "_law_mixed" s_mixed ["_law_cell", "_law_k"] := ⟨_, _, F_mixed, PySem.W.mg_of X G a13, F_mixed.binds fun _ _ _ _ _ _ us hl => len2_ (fun _ _ => rfl) us hl⟩
  have F_word := fun_mk (st := s_word) l14 c14 k14
  have D_word : Def K mg "_law_word" s_word ["_law_m"] := ⟨_, _, F_word, PySem.W.mg_of X G a14, F_word.binds fun _ _ _ _ _ _ us hl => len1_ (fun _ => rfl) us hl⟩
  have F_number := fun_mk (st := s_number) l15 c15 k15
  have D_number : Def K mg "_law_number" s_number ["_law_cell", "_law_m"] := ⟨_, _, F_number, PySem.W.mg_of X G a15, F_number.binds fun _ _ _ _ _ _ us hl => len2_ (fun _ _ => rfl) us hl⟩
  have F_pool := fun_mk (st := s_pool) l16 c16 k16
  have D_pool : Def K mg "_law_pool" s_pool ["_law_m"] := ⟨_, _, F_pool, PySem.W.mg_of X G a16, F_pool.binds fun _ _ _ _ _ _ us hl => len1_ (fun _ => rfl) us hl⟩
  have F_term := fun_mk (st := s_term) l17 c17 k17
  have D_term : Def K mg "_law_term" s_term ["_law_cell", "_law_m", "_law_terms_here", "_law_pool_here"] := ⟨_, _, F_term, PySem.W.mg_of X G a17, F_term.binds fun _ _ _ _ _ _ us hl => len4_ (fun _ _ _ _ => rfl) us hl⟩
  have F_terms := fun_mk (st := s_terms) l18 c18 k18
  have D_terms : Def K mg "_law_terms" s_terms ["_law_cells", "_law_pool_here", "_law_most", "_law_ties"] := ⟨_, _, F_terms, PySem.W.mg_of X G a18, F_terms.binds fun _ _ _ _ _ _ us hl => len4_ (fun _ _ _ _ => rfl) us hl⟩
  have F_hole := fun_mk (st := s_hole) l19 c19 k19
  have D_hole : Def K mg "_law_hole" s_hole ["_law_base", "_law_at", "_law_turn_by", "_law_many", "_law_lead"] := ⟨_, _, F_hole, PySem.W.mg_of X G a19, F_hole.binds fun _ _ _ _ _ _ us hl => len5_ (fun _ _ _ _ _ => rfl) us hl⟩
  have F_general := fun_mk (st := s_general) l20 c20 k20
  have D_general : Def K mg "_law_general" s_general ["_law_terms_here", "_law_leads", "_law_t", "_law_picks", "_law_binds", "_law_room", "_law_base", "_law_mode"] := ⟨_, _, F_general, PySem.W.mg_of X G a20, F_general.binds fun _ _ _ _ _ _ us hl => len8_ (fun _ _ _ _ _ _ _ _ => rfl) us hl⟩
  have F_left := fun_mk (st := s_left) l21 c21 k21
  have D_left : Def K mg "_law_left" s_left ["_law_script", "_law_terms_here", "_law_leads", "_law_pool_here", "_law_mode"] := ⟨_, _, F_left, PySem.W.mg_of X G a21, F_left.binds fun _ _ _ _ _ _ us hl => len5_ (fun _ _ _ _ _ => rfl) us hl⟩
  have F_lmark := fun_mk (st := s_lmark) l22 c22 k22
  have D_lmark : Def K mg "_law_mark" s_lmark ["_law_term_here", "_law_leads"] := ⟨_, _, F_lmark, PySem.W.mg_of X G a22, F_lmark.binds fun _ _ _ _ _ _ us hl => len2_ (fun _ _ => rfl) us hl⟩
  have F_table := fun_mk (st := s_table) l23 c23 k23
  have D_table : Def K mg "_law_table" s_table ["_law_terms_here", "_law_leads"] := ⟨_, _, F_table, PySem.W.mg_of X G a23, F_table.binds fun _ _ _ _ _ _ us hl => len2_ (fun _ _ => rfl) us hl⟩
  have F_spot := fun_mk (st := s_spot) l24 c24 k24
  have D_spot : Def K mg "_law_spot" s_spot ["_law_table_here", "_law_leads", "_law_pattern", "_law_binds", "_law_chosen"] := ⟨_, _, F_spot, PySem.W.mg_of X G a24, F_spot.binds fun _ _ _ _ _ _ us hl => len5_ (fun _ _ _ _ _ => rfl) us hl⟩
  have F_is_match := fun_mk (st := s_is_match) l25 c25 k25
  have D_is_match : Def K mg "_law_is_match" s_is_match ["_law_row", "_law_words", "_law_leads"] := ⟨_, _, F_is_match, PySem.W.mg_of X G a25, F_is_match.binds fun _ _ _ _ _ _ us hl => len3_ (fun _ _ _ => rfl) us hl⟩
  have F_law := fun_mk (st := s_law) l26 c26 k26
  refine ⟨PySem.W.fnOf "law" "law" (defArgs s_law) (defBody s_law) (defScope s_law) .none kV26 dc26 pm26 an26 cd26 ct26, fun s v => .of_eq rfl, fun base _ _ => ?_⟩
  have h_mark := ok_mark (P := l.prog) (w := w) (base := base) B D_mark
  have h_join_classes := ok_join_classes (P := l.prog) (w := w) (base := base) B D_join_classes
  have h_join_like := ok_join_like B h_mark h_join_classes D_join_like
  have h_closed := ok_closed B h_join_classes h_join_like D_closed
  have h_marks := ok_marks B h_mark D_marks
  have h_nodes := ok_nodes B h_mark D_nodes
  have h_node_numbers := ok_node_numbers b_sorted h_nodes D_node_numbers
  have h_init := ok_minit Z h_marks h_nodes D_minit
  have h_hole_ways := ok_hole_ways (P := l.prog) (w := w) (base := base) b_dict D_hole_ways
  have h_class_ways := ok_ways B b_zip Z h_hole_ways D_class_ways D_term_ways 3
  have h_term_ways := ok_term_ways (n := 3) B b_zip Z h_class_ways D_term_ways
  have h_matches := ok_matches Z h_init h_node_numbers h_term_ways D_matches
  have h_cell_at := ok_cell_at (P := l.prog) (w := w) (base := base) B D_cell_at
  have h_mixed := ok_mixed (P := l.prog) (w := w) (base := base) D_mixed
  have h_word := ok_word (P := l.prog) (w := w) (base := base) D_word
  have h_number := ok_number (P := l.prog) (w := w) (base := base) D_number
  have h_pool := ok_pool B h_word D_pool
  have h_term := ok_termP B h_number D_term
  have h_terms := ok_terms B h_mixed h_term D_terms
  have h_hole := ok_hole (P := l.prog) (w := w) (base := base) D_hole
  have h_general := ok_general B h_hole D_general 3
  have h_left := ok_left B h_cell_at h_mixed h_general D_left
  have h_lmark := ok_lmark (P := l.prog) (w := w) (base := base) B D_lmark
  have h_table := ok_table B h_lmark D_table
  have h_spot := ok_spot (P := l.prog) (w := w) (base := base) B D_spot 4
  have h_is_match := ok_is_match (P := l.prog) (w := w) (base := base) B b_dict D_is_match
  exact ok_law B h_cell_at h_mixed h_pool h_terms h_closed h_left h_lmark h_table h_matches h_spot h_is_match F_law
theorem walk {l : PySem.W.OpenLaw} {q : Program} {loose : List Str} {XP : (Str → Option Value) → Heap → Prop} {YP : World → Heap → Prop} {d : DefRec} {K : Params → PySem.W.Frag} (hn : l.most = some 63) (hdf : d.params.defaults = [])
    (hY : ∀ (w : World) (h : Heap), YP w h → (K w.params).In h)
    (F : ∀ (w : World) (mg : Str → Option Value) (fa : Addr) (h : Heap), (K w.params).In h → h.Ns mainGlobals mg → mg d.name = some (.ref fa) →
      ∃ fd : FuncData, (∀ (s : Shared) (u : Value), BindsTo s fd ⟨[u], []⟩ [("_law_script", u)]) ∧ ∀ base : Heap, (K w.params).In base → base.Ns mainGlobals mg → FnOk l.prog w (K w.params) mg base CX0 11 fa fd ["_law_script"] (spLaw (K w.params))) :
    PySem.W.WalkO q loose XP YP l.row.toRowW d [] (fun f vs => PySem.call f vs) :=
  L2.walk_of (n := 63) (k := 11) (x := "_law_script") (CX := fun _ => CX0) (sp := fun w => spLaw (K w.params)) hn (by decide) hdf ⟨rfl, by decide, by decide⟩ hY F (fun _ _ a ns hl _ hS => ⟨a, ns, rfl, hS, hl, fun _ => rfl⟩) fun _ _ _ _ _ z => z
end K44
open PySem PySem.W PyProof.Rows
set_option maxRecDepth 100000 in
set_option maxHeartbeats 0 in
theorem PySem.Challenge.cw_samewise_k44_matches_walked_holds : PySem.Challenge.rw_samewise_k44_matches_walked.Holds := by
  w_on; o_law; k_head; (case hw => w_witness2)
  k_fill
  refine K44.walk (l := PySem.Challenge.rw_samewise_k44_matches_walked) rfl rfl (fun w h Y => PySem.W.kIn_of Y) ?F
  case F =>
    intro w mg fa h KX G hmg
    refine' K44.all_mk KX G hmg ?aC ?a0 ?l0 ?c0 ?k0 ?a1 ?l1 ?c1 ?k1 ?a2 ?l2 ?c2 ?k2 ?a3 ?l3 ?c3 ?k3 ?a4 ?l4 ?c4 ?k4 ?a5 ?l5 ?c5 ?k5 ?a6 ?l6 ?c6 ?k6 ?a7 ?l7 ?c7 ?k7 ?a8 ?l8 ?c8 ?k8 ?n8 ?a9 ?l9 ?c9 ?k9 ?n9 ?a10 ?l10 ?c10 ?k10 ?n10 ?a11 ?l11 ?c11 ?k11 ?a12 ?l12 ?c12 ?k12 ?a13 ?l13 ?c13 ?k13 ?a14 ?l14 ?c14 ?k14 ?a15 ?l15 ?c15 ?k15 ?a16 ?l16 ?c16 ?k16 ?a17 ?l17 ?c17 ?k17 ?a18 ?l18 ?c18 ?k18 ?a19 ?l19 ?c19 ?k19 ?a20 ?l20 ?c20 ?k20 ?a21 ?l21 ?c21 ?k21 ?a22 ?l22 ?c22 ?k22 ?a23 ?l23 ?c23 ?k23 ?a24 ?l24 ?c24 ?k24 ?a25 ?l25 ?c25 ?k25 ?a26 ?l26 ?c26 ?k26 ?rMk ?rKp ?rPg ?rHd ?rPo ?rSa ?rN_terms ?rN_leads ?rN_table ?rN_heads ?z0 ?z1 ?z2 ?z3 ?z4 ?z5 ?z6 ?z7 ?z8 ?z9 ?z10 ?z11 ?z12 ?z13 ?z14
    (case aC => k_is)
    (case a0 => k_is)
    (case l0 => k_is)
    (case c0 => k_is)
    (case k0 => k_is)
    (case a1 => k_is)
    (case l1 => k_is)
    (case c1 => k_is)
    (case k1 => k_is)
    (case a2 => k_is)
    (case l2 => k_is)
    (case c2 => k_is)
    (case k2 => k_is)
    (case a3 => k_is)
    (case l3 => k_is)
    (case c3 => k_is)
    (case k3 => k_is)
    (case a4 => k_is)
    (case l4 => k_is)
    (case c4 => k_is)
    (case k4 => k_is)
    (case a5 => k_is)
    (case l5 => k_is)
    (case c5 => k_is)
    (case k5 => k_is)
    (case a6 => k_is)
    (case l6 => k_is)
    (case c6 => k_is)
    (case k6 => k_is)
    (case a7 => k_is)
    (case l7 => k_is)
    (case c7 => k_is)
    (case k7 => k_is)
    (case a8 => k_is)
    (case l8 => k_is)
    (case c8 => k_is)
    (case k8 => k_is)
    (case n8 => k_is)
    (case a9 => k_is)
    (case l9 => k_is)
    (case c9 => k_is)
    (case k9 => k_is)
    (case n9 => k_is)
    (case a10 => k_is)
    (case l10 => k_is)
    (case c10 => k_is)
    (case k10 => k_is)
    (case n10 => k_is)
    (case a11 => k_is)
    (case l11 => k_is)
    (case c11 => k_is)
    (case k11 => k_is)
    (case a12 => k_is)
    (case l12 => k_is)
    (case c12 => k_is)
    (case k12 => k_is)
    (case a13 => k_is)
    (case l13 => k_is)
    (case c13 => k_is)
    (case k13 => k_is)
    (case a14 => k_is)
    (case l14 => k_is)
    (case c14 => k_is)
    (case k14 => k_is)
    (case a15 => k_is)
    (case l15 => k_is)
    (case c15 => k_is)
    (case k15 => k_is)
    (case a16 => k_is)
    (case l16 => k_is)
    (case c16 => k_is)
    (case k16 => k_is)
    (case a17 => k_is)
    (case l17 => k_is)
    (case c17 => k_is)
    (case k17 => k_is)
    (case a18 => k_is)
    (case l18 => k_is)
    (case c18 => k_is)
    (case k18 => k_is)
    (case a19 => k_is)
    (case l19 => k_is)
    (case c19 => k_is)
    (case k19 => k_is)
    (case a20 => k_is)
    (case l20 => k_is)
    (case c20 => k_is)
    (case k20 => k_is)
    (case a21 => k_is)
    (case l21 => k_is)
    (case c21 => k_is)
    (case k21 => k_is)
    (case a22 => k_is)
    (case l22 => k_is)
    (case c22 => k_is)
    (case k22 => k_is)
    (case a23 => k_is)
    (case l23 => k_is)
    (case c23 => k_is)
    (case k23 => k_is)
    (case a24 => k_is)
    (case l24 => k_is)
    (case c24 => k_is)
    (case k24 => k_is)
    (case a25 => k_is)
    (case l25 => k_is)
    (case c25 => k_is)
    (case k25 => k_is)
    (case a26 => k_is)
    (case l26 => k_is)
    (case c26 => k_is)
    (case k26 => k_is)
    (case rMk => k_is)
    (case rKp => k_is)
    (case rPg => k_is)
    (case rHd => k_is)
    (case rPo => k_is)
    (case rSa => k_is)
    (case rN_terms => k_is)
    (case rN_leads => k_is)
    (case rN_table => k_is)
    (case rN_heads => k_is)
    (case z0 => k_is)
    (case z1 => k_is)
    (case z2 => k_is)
    (case z3 => k_is)
    (case z4 => k_is)
    (case z5 => k_is)
    (case z6 => k_is)
    (case z7 => k_is)
    (case z8 => k_is)
    (case z9 => k_is)
    (case z10 => k_is)
    (case z11 => k_is)
    (case z12 => k_is)
    (case z13 => k_is)
    (case z14 => k_is)
#print axioms PySem.Challenge.cw_samewise_k44_matches_walked_holds
