import PyProof.Rows.All
import Wide.All
import OpenK.AllK
import Wide.FinOn
import Lean
import PyProof.EqAt
import PyProof.EqKinds
import PyProof.TupleCall
import PySem.Challenge.RW_stallyard_k11_whole_books_stand_alike
set_option Elab.async false
set_option linter.all false
set_option maxRecDepth 100000
namespace L2
open PySem PySem.Spec PyProof.Rows

abbrev Key := Sum Int Str
def keyIs : Key → Value → Bool
  | .inl k, v => Value.isInt k v
  | .inr x, v => Value.isStrOf x v
def keyH (w : World) : Key → Int
  | .inl k => hashInt k
  | .inr x => hashStr w x
theorem keyIs_shape : ∀ {k : Key} {v : Value}, keyIs k v = true → (∃ i t, k = Sum.inl i ∧ v = Value.int i t) ∨ (∃ x t, k = Sum.inr x ∧ v = Value.str x t)
  | .inl i, v, h => by
    obtain ⟨t, e⟩ := Value.isInt_shape (k := i) (v := v) h
    exact .inl ⟨i, t, rfl, e⟩
  | .inr x, v, h => by
    obtain ⟨t, e⟩ := Value.isStrOf_shape (x := x) (v := v) h
    exact .inr ⟨x, t, rfl, e⟩
theorem keyIs_int (i : Int) (t : Tok) : keyIs (.inl i) (.int i t) = true := by simp [keyIs, Value.isInt]
theorem keyIs_str (x : Str) (t : Tok) : keyIs (.inr x) (.str x t) = true := by simp [keyIs, Value.isStrOf]
theorem key_ll (a b : Int) : decide ((Sum.inl a : Key) = Sum.inl b) = (a == b) := by
  by_cases e : a = b
  · subst e; simp
  · have h : ¬ (Sum.inl a : Key) = Sum.inl b := fun q => e (Sum.inl.inj q)
    rw [decide_eq_false h]
    exact (beq_eq_false_iff_ne.mpr e).symm
theorem key_rr (a b : Str) : decide ((Sum.inr a : Key) = Sum.inr b) = decide (a = b) := by
  by_cases e : a = b
  · subst e; simp
  · have h : ¬ (Sum.inr a : Key) = Sum.inr b := fun q => e (Sum.inr.inj q)
    rw [decide_eq_false h, decide_eq_false e]
theorem key_lr (a : Int) (b : Str) : decide ((Sum.inl a : Key) = Sum.inr b) = false := decide_eq_false (fun q => nomatch q)
theorem key_rl (a : Str) (b : Int) : decide ((Sum.inr a : Key) = Sum.inl b) = false := decide_eq_false (fun q => nomatch q)

def mixKind (prog : Program) (w : World) : PySem.KeyKind prog w Key where
  is := keyIs
  hash := keyH w
  inj := fun v a b ha hb => by
    rcases keyIs_shape ha with ⟨i, t, rfl, rfl⟩ | ⟨x, t, rfl, rfl⟩
    · rcases keyIs_shape hb with ⟨j, u, rfl, e⟩ | ⟨y, u, rfl, e⟩
      · injection e with e1 _; rw [e1]
      · exact nomatch e
    · rcases keyIs_shape hb with ⟨j, u, rfl, e⟩ | ⟨y, u, rfl, e⟩
      · exact nomatch e
      · injection e with e1 _; rw [e1]
  byValue := fun k v h => by
    rcases keyIs_shape h with ⟨i, t, rfl, rfl⟩ | ⟨x, t, rfl, rfl⟩ <;> rfl
  pyHash := fun hv h => by
    rcases keyIs_shape hv with ⟨i, t, rfl, rfl⟩ | ⟨x, t, rfl, rfl⟩
    · exact wpAny_pyHash_int h
    · exact wpAny_pyHash_str h
  eqBool := fun hu hv h => by
    rcases keyIs_shape hu with ⟨i, t, rfl, rfl⟩ | ⟨x, t, rfl, rfl⟩
    · rcases keyIs_shape hv with ⟨j, u, rfl, rfl⟩ | ⟨y, u, rfl, rfl⟩
      · rw [key_ll] at h; exact wpAny_eqBool_int h
      · rw [key_lr] at h; exact SeqAt.EqAt.int_str i t y u _ _ _ _ h
    · rcases keyIs_shape hv with ⟨j, u, rfl, rfl⟩ | ⟨y, u, rfl, rfl⟩
      · rw [key_rl] at h; exact SeqAt.EqAt.str_int x t j u _ _ _ _ h
      · rw [key_rr] at h; exact wpAny_eqBool_str h
  «strs» := fun k x t v h => by
    rcases keyIs_shape h with ⟨i, u, rfl, e⟩ | ⟨y, u, rfl, e⟩
    · exact nomatch e
    · injection e with e1 _
      subst e1
      cases v <;> rfl

theorem mixKind_int (prog : Program) (w : World) (i : Int) (t : Tok) : (mixKind prog w).is (.inl i) (.int i t) = true := keyIs_int i t
theorem mixKind_str (prog : Program) (w : World) (x : Str) (t : Tok) : (mixKind prog w).is (.inr x) (.str x t) = true := keyIs_str x t
end L2

namespace L2
open PySem PySem.Spec PyProof.Rows

inductive V where
  | non | bl (b : Bool) | int (i : Int) | str (x : Str) | byt (b : Array UInt8) | flt (b : UInt64) | ref (a : Addr) | ty (n : String)
  deriving DecidableEq

def RelV : V → Value → Prop
  | .non, u => u = Value.none
  | .bl b, u => u = Value.bool b
  | .int i, u => ∃ t, u = Value.int i t
  | .str x, u => ∃ t, u = Value.str x t
  | .byt b, u => ∃ t, u = Value.bytes b t
  | .flt b, u => ∃ t, u = Value.float b t
  | .ref a, u => u = Value.ref a
  | .ty n, u => u = Value.type n

abbrev Vals : List V → List Value → Prop := Paired RelV
theorem Vals.length {xs : List V} {us : List Value} (r : Vals xs us) : xs.length = us.length := Paired.length r
theorem Vals.get : ∀ {xs : List V} {us : List Value} {i : Nat} {x : V}, Vals xs us → xs[i]? = some x → ∃ u, us[i]? = some u ∧ RelV x u
  | _, _, _, _, .nil, e => by simp at e
  | _, _, 0, _, .cons r _, e => by simp at e; subst e; exact ⟨_, rfl, r⟩
  | _, _, i + 1, x, .cons _ t, e => by
    obtain ⟨u, h1, h2⟩ := Vals.get (i := i) (x := x) t (by simpa using e)
    exact ⟨u, by simpa using h1, h2⟩
theorem Vals.set {x : V} {u : Value} (r : RelV x u) : ∀ {xs : List V} {us : List Value} (i : Nat), Vals xs us → Vals (xs.set i x) (us.set i u)
  | _, _, _, .nil => .nil
  | _, _, 0, .cons _ t => .cons r t
  | _, _, i + 1, .cons q t => .cons q (Vals.set r i t)
theorem Vals.append : ∀ {xs ys : List V} {us ws : List Value}, Vals xs us → Vals ys ws → Vals (xs ++ ys) (us ++ ws)
  | _, _, _, _, .nil, s => s
  | _, _, _, _, .cons r t, s => .cons r (Vals.append t s)
theorem Vals.take : ∀ {xs : List V} {us : List Value} (n : Nat), Vals xs us → Vals (xs.take n) (us.take n)
  | _, _, 0, _ => .nil
  | _, _, _ + 1, .nil => .nil
  | _, _, n + 1, .cons r t => .cons r (Vals.take n t)
theorem Vals.drop : ∀ {xs : List V} {us : List Value} (n : Nat), Vals xs us → Vals (xs.drop n) (us.drop n)
  | _, _, 0, r => r
  | _, _, _ + 1, .nil => .nil
  | _, _, n + 1, .cons _ t => Vals.drop n t
def RelO : Option V → Option Value → Prop
  | some v, some u => RelV v u
  | none, none => True
  | _, _ => False
def KV {κ : Type} : List (κ × V) → List (κ × Value) → Prop := Paired fun (p : κ × V) (q : κ × Value) => p.1 = q.1 ∧ RelV p.2 q.2

def kV : Key → V
  | .inl i => .int i
  | .inr x => .str x

inductive HO where
  /-- a list -/
  | lst (xs : List V)
  /-- a tuple (never changes) -/
  | tup (xs : List V)
  /-- a dict whose keys are ints and texts; one whose keys are tuples of ints and texts (the empty one is both) -/
  | dK (kvs : List (Key × V)) | dT (kvs : List (List Key × V))
  /-- a set of ints: its members, its size -/
  | set (S : Int → Bool) (n : Nat)
  /-- an instance of the class at C, its dict at dx, its attributes -/
  | ins (C dx : Addr) (fs : List (Str × V))
  /-- the dict of the instance at x -/
  | own (x : Addr)
  /-- the dict of an exception -/
  | xd (fs : List (Str × V))
  /-- a bound method, f of x -/
  | met (f x : Addr)
  /-- a range object lo, lo + 1, .. below hi -/
  | rng (lo hi : Int)
  /-- a thing that is known to the object (the script; a dict while a loop walks it): read, never written while it is so -/
  | frz (o : Obj) (u : HO)
  /-- a code object's table -/
  | tbl (ps : Array Value)
  /-- any other thing, by what is true of its one object (a def of one's own: SetO a S n := HO.ext fun h => ..) -/
  | ext (φ : Heap → Prop)

abbrev Hp := Addr → Option HO
def upd (H : Hp) (a : Addr) (o : HO) : Hp := fun b => if b = a then some o else H b
theorem upd_same {H : Hp} {a : Addr} {o : HO} : upd H a o a = some o := by unfold upd; rw [if_pos rfl]
theorem upd_ne {H : Hp} {a b : Addr} {o : HO} (h : b ≠ a) : upd H a o b = H b := by unfold upd; rw [if_neg h]
theorem ne_of {H : Hp} {a b : Addr} {o u : HO} (h : H a = some o) (h' : H b = some u) (d : o ≠ u) : a ≠ b := by
  intro e; subst e; rw [h] at h'; exact d (Option.some.inj h')
theorem ne_of_none {H : Hp} {a b : Addr} {o : HO} (h : H a = some o) (h' : H b = none) : a ≠ b := by
  intro e; subst e; rw [h] at h'; cases h'

section
variable (P : Program) (w : World)
def ObjOk (H : Hp) (h : Heap) (a : Addr) : HO → Prop
  | .lst xs => xs.length ≤ sizeLine ∧ ∃ (its : List Value) (n : Nat), Vals xs its ∧ h.get? a = some { cls := .type "list", data := .seq its.toArray n }
  | .tup xs => xs.length ≤ sizeLine ∧ ∃ its : List Value, Vals xs its ∧ IsTup h a its.toArray
  | .dK kvs => kvs.length ≤ sizeLine ∧ (a == sysModules) = false ∧ ∃ vs, KV kvs vs ∧ h.DictOf (mixKind P w) a vs
  | .dT kvs => kvs.length ≤ sizeLine ∧ (a == sysModules) = false ∧ ∃ xs : List (List Key × Addr × Value),
      Paired (fun (p : List Key × V) (q : List Key × Addr × Value) => p.1 = q.1 ∧ H q.2.1 = some (.tup (p.1.map kV)) ∧ RelV p.2 q.2.2) kvs xs ∧
      ∃ o es ep, h.get? a = some o ∧ o.ExactDict ∧ o.data = .dict es ep ∧ es.toList = xs.map (entryOfKey (tupleKind (mixKind P w))) ∧ (xs.map (·.1)).Nodup
  | .set S n => h.SetOf (intKind P w) a S n
  | .ins C dx fs => H dx = some (.own a) ∧ fs.length ≤ 1000 ∧ dx ≠ a ∧ h.get? a = some (PySem.W.instObj C dx) ∧
      ∃ mA, h.Ns1 dx mA ∧ (∀ f, RelO (fs.lookup f) (mA f)) ∧ PySem.Within mA (fs.map (·.1))
  | .own _ => ∃ o, h.get? a = some o
  | .xd fs => ∃ mA, h.Ns1 a mA ∧ ∀ f, RelO (fs.lookup f) (mA f)
  | .rng lo hi => ∃ t u v, h.get? a = some { cls := .type "range", data := .fields #[.int lo t, .int hi u, .int 1 v] }
  | .frz o u => h.get? a = some o ∧ ObjOk H h a u
  | .tbl ps => h.get? a = some { cls := .none, data := .fields ps }
  | .met f x => h.get? a = some (PySem.W.methodObj (.ref f) (.ref x))
  | .ext φ => φ h ∧ (∃ o, h.get? a = some o) ∧ ∀ h1 h2 : Heap, φ h1 → (∀ o, h1.get? a = some o → h2.get? a = some o) → φ h2
def HOk (H : Hp) (h : Heap) : Prop := ∀ a o, H a = some o → ObjOk P w H h a o
end

section
variable {P : Program} {w : World} {H H' : Hp} {h h' : Heap} {a : Addr} {o : HO}
theorem ObjOk.lt (x : ObjOk P w H h a o) : a < h.objs.size := by
  cases o with
  | lst xs => obtain ⟨_, _, _, _, e⟩ := x; exact Heap.lt_size e
  | tup xs => obtain ⟨_, _, _, p⟩ := x; exact p.lt
  | dK kvs => obtain ⟨_, _, _, _, o, _, _, e, _⟩ := x; exact Heap.lt_size e
  | dT kvs => obtain ⟨_, _, _, _, o, _, _, e, _⟩ := x; exact Heap.lt_size e
  | set S n => obtain ⟨o, _, _, _, e, _⟩ := x; exact Heap.lt_size e
  | ins C dx fs => obtain ⟨_, _, _, e, _⟩ := x; exact Heap.lt_size e
  | own y => obtain ⟨_, e⟩ := x; exact Heap.lt_size e
  | xd fs => obtain ⟨_, ⟨_, _, _, e, _⟩, _⟩ := x; exact Heap.lt_size e
  | rng lo hi => obtain ⟨_, _, _, e⟩ := x; exact Heap.lt_size e
  | frz ob u => obtain ⟨e, _⟩ := x; exact Heap.lt_size e
  | tbl ps => exact Heap.lt_size (show h.get? a = some _ from x)
  | met f y => exact Heap.lt_size (show h.get? a = some _ from x)
  | ext φ => obtain ⟨_, ⟨_, e⟩, _⟩ := x; exact Heap.lt_size e
theorem Paired.mapP {α β : Type} {F G : α → β → Prop} : ∀ {l₁ : List α} {l₂ : List β}, Paired F l₁ l₂ → (∀ a b, F a b → G a b) → Paired G l₁ l₂
  | _, _, .nil, _ => .nil
  | _, _, .cons r t, f => .cons (f _ _ r) (Paired.mapP t f)
theorem ObjOk.stay (x : ObjOk P w H h a o) (k : ∀ b u, (b = a ∨ H b = some (.own a)) → h.get? b = some u → h'.get? b = some u)
    (ho : ∀ b, H b = some (.own a) → H' b = some (.own a)) (ht : ∀ b xs, H b = some (.tup xs) → H' b = some (.tup xs)) : ObjOk P w H' h' a o := by
  induction o with
  | lst xs => obtain ⟨z, its, n, r, e⟩ := x; exact ⟨z, its, n, r, k _ _ (.inl rfl) e⟩
  | tup xs => obtain ⟨z, its, r, ob, e, c⟩ := x; exact ⟨z, its, r, ob, k _ _ (.inl rfl) e, c⟩
  | dK kvs => obtain ⟨z, y, vs, r, ob, es, ep, e, c⟩ := x; exact ⟨z, y, vs, r, ob, es, ep, k _ _ (.inl rfl) e, c⟩
  | dT kvs =>
    obtain ⟨z, y, xs, r, ob, es, ep, e, c⟩ := x
    exact ⟨z, y, xs, Paired.mapP r fun p q z => ⟨z.1, ht _ _ z.2.1, z.2.2⟩, ob, es, ep, k _ _ (.inl rfl) e, c⟩
  | set S n => obtain ⟨ob, es, ep, t, e, c⟩ := x; exact ⟨ob, es, ep, t, k _ _ (.inl rfl) e, c⟩
  | ins C dx fs =>
    obtain ⟨d, z, ne, e, mA, ⟨od, es, ep, e2, c⟩, r⟩ := x
    exact ⟨ho _ d, z, ne, k _ _ (.inl rfl) e, mA, ⟨od, es, ep, k _ _ (.inr d) e2, c⟩, r⟩
  | own y => obtain ⟨ob, e⟩ := x; exact ⟨ob, k _ _ (.inl rfl) e⟩
  | xd fs => obtain ⟨mA, ⟨od, es, ep, e, c⟩, r⟩ := x; exact ⟨mA, ⟨od, es, ep, k _ _ (.inl rfl) e, c⟩, r⟩
  | rng lo hi => obtain ⟨t, u, v, e⟩ := x; exact ⟨t, u, v, k _ _ (.inl rfl) e⟩
  | frz ob u ih => obtain ⟨e, q⟩ := x; exact ⟨k _ _ (.inl rfl) e, ih q⟩
  | tbl ps =>
    have e : h.get? a = some { cls := .none, data := .fields ps } := x
    show h'.get? a = some { cls := .none, data := .fields ps }
    exact k a _ (.inl rfl) e
  | met f y =>
    have e : h.get? a = some (PySem.W.methodObj (.ref f) (.ref y)) := x
    show h'.get? a = some (PySem.W.methodObj (.ref f) (.ref y))
    exact k a _ (.inl rfl) e
  | ext φ => obtain ⟨p, ⟨o, e⟩, st⟩ := x; exact ⟨st _ _ p fun o q => k _ _ (.inl rfl) q, ⟨o, k _ _ (.inl rfl) e⟩, st⟩
theorem HOk.lt (x : HOk P w H h) (e : H a = some o) : a < h.objs.size := (x a o e).lt
theorem HOk.fresh (x : HOk P w H h) (e : h.objs.size ≤ a) : H a = none := by
  cases q : H a with
  | none => rfl
  | some u => exact absurd (Nat.lt_of_lt_of_le (x.lt q) e) (Nat.lt_irrefl _)
theorem HOk.kept (x : HOk P w H h) (k : ∀ b u, h.get? b = some u → h'.get? b = some u) : HOk P w H h' := fun a o e =>
  (x a o e).stay (fun b u _ q => k b u q) (fun _ q => q) fun _ _ q => q
theorem HOk.laid (x : HOk P w H h) (k : ∀ b u, h.get? b = some u → h'.get? b = some u) (hp : h.objs.size ≤ a) (new : ObjOk P w (upd H a o) h' a o) : HOk P w (upd H a o) h' := fun b u e => by
  have hn := x.fresh hp
  by_cases hb : b = a
  · subst hb; rw [upd_same] at e; cases e; exact new
  · rw [upd_ne hb] at e
    exact (x b u e).stay (fun c v _ q => k c v q) (fun c q => by rw [upd_ne (ne_of_none q hn)]; exact q) fun c xs q => by rw [upd_ne (ne_of_none q hn)]; exact q
end

def Rd (H : Hp) (a : Addr) (u : HO) : Prop := H a = some u ∨ ∃ o, H a = some (.frz o u)
theorem Rd.ok {P : Program} {w : World} {H : Hp} {h : Heap} {a : Addr} {u : HO} (r : Rd H a u) (x : HOk P w H h) : ObjOk P w H h a u := by
  rcases r with r | ⟨o, r⟩
  · exact x a u r
  · obtain ⟨_, q⟩ := x a _ r
    exact q
def Mut : Option HO → Prop
  | some (.lst _) => True
  | some (.dK _) => True
  | some (.dT _) => True
  | some (.set _ _) => True
  | some (.ins _ _ _) => True
  | some (.ext _) => True
  | _ => False
section
variable {P : Program} {w : World} {H : Hp} {h h' : Heap} {x e : Addr} {o' : HO}
theorem HOk.write (ok : HOk P w H h) (mu : Mut (H x)) (he : e = x ∨ H e = some (.own x)) (k : ∀ b u, b ≠ e → h.get? b = some u → h'.get? b = some u) (heo : ∃ u, h'.get? e = some u)
    (new : ObjOk P w (upd H x o') h' x o') : HOk P w (upd H x o') h' := fun b u q => by
  have nown : ∀ c y, H c = some (.own y) → c ≠ x := fun c y r z => by subst z; rw [r] at mu; exact mu
  have ntup : ∀ c xs, H c = some (.tup xs) → c ≠ x := fun c xs r z => by subst z; rw [r] at mu; exact mu
  by_cases hb : b = x
  · subst hb; rw [upd_same] at q; cases q; exact new
  · rw [upd_ne hb] at q
    by_cases hbe : b = e
    · have q' : H b = some (.own x) := by
        rcases he with z | z
        · exact absurd (hbe.trans z) hb
        · rw [hbe]; exact z
      rw [q] at q'; cases q'
      obtain ⟨v, hv⟩ := heo
      exact ⟨v, by rw [hbe]; exact hv⟩
    · refine (ok b u q).stay (fun c v hc r => k c v ?_ r) (fun c r => by rw [upd_ne (nown c b r)]; exact r) fun c xs r => by rw [upd_ne (ntup c xs r)]; exact r
      rcases hc with rfl | hc
      · exact hbe
      · rintro rfl
        rcases he with z | z
        · exact nown c b hc z
        · rw [hc] at z; cases z; exact hb rfl
end

structure Un (fs ex : List Addr) (H H' : Hp) (h h' : Heap) : Prop where
  keep : ∀ b o, h.get? b = some o → H b = none → b ∉ fs → b ∉ ex → h'.get? b = some o
  slot : ∀ b o, h.get? b = some o → H b = none → b ∈ fs → b ∉ ex → ∃ sl, h'.get? b = some { o with slots := sl }
  free : ∀ b o, h.get? b = some o → H b = none → b ∉ ex → H' b = none
  there : ∀ b o, h.get? b = some o → b ∉ ex → ∃ o', h'.get? b = some o'
  tups : ∀ b xs, H b = some (.tup xs) → H' b = some (.tup xs)
  frzs : ∀ b o u, H b = some (.frz o u) → H' b = some (.frz o u)
  tbls : ∀ b ps, H b = some (.tbl ps) → ∃ more, H' b = some (.tbl (ps ++ more))
section
variable {fs fs' ex ex' : List Addr} {H H1 H2 : Hp} {h h1 h2 h' : Heap} {a x e : Addr} {o : HO}
theorem Un.any (u : Un fs ex H H1 h h1) {b : Addr} {ob : Obj} (q : h.get? b = some ob) (n : H b = none) (hx : b ∉ ex) : ∃ sl, h1.get? b = some { ob with slots := sl } := by
  by_cases hb : b ∈ fs
  · exact u.slot b ob q n hb hx
  · exact ⟨ob.slots, u.keep b ob q n hb hx⟩
theorem Un.kept (k : ∀ b u, h.get? b = some u → h'.get? b = some u) : Un fs ex H H h h' :=
  ⟨fun b ob q _ _ _ => k b ob q, fun b ob q _ _ _ => ⟨ob.slots, k b ob q⟩, fun _ _ _ n _ => n, fun b ob q _ => ⟨ob, k b ob q⟩, fun _ _ q => q, fun _ _ _ q => q, fun _ ps q => ⟨#[], by rw [q]; simp⟩⟩
theorem Un.refl : Un fs ex H H h h := Un.kept fun _ _ q => q
theorem Un.laid (k : ∀ b u, h.get? b = some u → h'.get? b = some u) (hp : h.objs.size ≤ a) (hn : H a = none) : Un fs ex H (upd H a o) h h' where
  keep := fun b u q _ _ _ => k b u q
  slot := fun b u q _ _ _ => ⟨u.slots, k b u q⟩
  free := fun b u q n _ => by rw [upd_ne (Nat.ne_of_lt (Nat.lt_of_lt_of_le (Heap.lt_size q) hp))]; exact n
  there := fun b u q _ => ⟨u, k b u q⟩
  tups := fun b xs q => by rw [upd_ne (ne_of_none q hn)]; exact q
  frzs := fun b u xs q => by rw [upd_ne (ne_of_none q hn)]; exact q
  tbls := fun b ps q => ⟨#[], by rw [upd_ne (ne_of_none q hn), q]; simp⟩
theorem Un.write (mu : Mut (H x)) (he : e = x ∨ H e = some (.own x)) (k : ∀ b u, b ≠ e → h.get? b = some u → h'.get? b = some u) (heo : ∃ u, h'.get? e = some u) : Un fs ex H (upd H x o) h h' := by
  have hx : ∀ b, H b = none → b ≠ x := fun b n z => by subst z; rw [n] at mu; exact mu
  have hb : ∀ b, H b = none → b ≠ e := fun b n z => by
    subst z
    rcases he with r | r
    · exact hx b n r
    · rw [n] at r; cases r
  have hm : ∀ b u, H b = some u → ¬ Mut (some u) → b ≠ x := fun b u q nm z => by subst z; rw [q] at mu; exact nm mu
  refine ⟨fun b u q n _ _ => k b u (hb b n) q, fun b u q n _ _ => ⟨u.slots, k b u (hb b n) q⟩, fun b u q n _ => by rw [upd_ne (hx b n)]; exact n, fun b u q _ => ?_,
    fun b xs q => by rw [upd_ne (hm b _ q fun z => z)]; exact q, fun b u xs q => by rw [upd_ne (hm b _ q fun z => z)]; exact q, fun b ps q => ⟨#[], by rw [upd_ne (hm b _ q fun z => z), q]; simp⟩⟩
  by_cases hbe : b = e
  · subst hbe; exact heo
  · exact ⟨u, k b u hbe q⟩
end

def trk (h : Heap) (H : Hp) : List Addr := (List.range h.objs.size).filter fun a => (H a).isSome
def hidT (h : Heap) (H : Hp) : Heap := PySem.W.hideAll h (trk h H)
theorem hidT_size (h : Heap) (H : Hp) : (hidT h H).objs.size = h.objs.size := PySem.W.hideAll_size _ _
theorem hidT_get {h : Heap} {H : Hp} {b : Addr} {o : Obj} (e : h.get? b = some o) (n : H b = none) : (hidT h H).get? b = some o :=
  PySem.W.hideAll_get _ e fun hm => by
    have q : (H b).isSome = true := (List.mem_filter.mp hm).2
    rw [n] at q; simp at q
theorem of_hidT {h : Heap} {H : Hp} {b : Addr} {o : Obj} (e : (hidT h H).get? b = some o) : h.get? b = some o ∧ H b = none := by
  have e' : h.get? b = some o := PySem.W.of_hideAll (trk h H) e
  refine ⟨e', ?_⟩
  cases q : H b with
  | none => rfl
  | some x =>
    have hm : b ∈ trk h H := List.mem_filter.mpr ⟨List.mem_range.mpr (Heap.lt_size e'), by simp [q]⟩
    have z : (hidT h H).get? b = none := PySem.W.hideAll_none (trk h H) hm
    rw [z] at e; cases e

end L2

namespace L2
open PySem PySem.Spec PyProof.Rows

structure Mod (K : PySem.W.Frag) (mg : Str → Option Value) (base : Heap) : Prop where
  kin : K.In base
  glob : base.Ns mainGlobals mg
  blt : ∃ mb, base.Ns builtinsNs mb ∧ ∀ x : Str, x ≠ "__name__" → mb x = bootBuiltins x
  nolimit : base.NoLimit

/-- the context: a def's body (or a comprehension's block) running. base: fixed through the whole law; s₀, H₀: the entry; outer: the frames whose slots others may change (a def's callers); stack: all frames that run;
   ex: iterators that were made ahead of the entry and are walked here (a comprehension's); fn: the names whose cells were made at the entry (a def: all; a comprehension's block: its own); calm: not within an except suite; pn: pins that every state bears; xe: what is wanted of an exception that leaves the code -/
structure Cx where
  prog : Program
  w : World
  K : PySem.W.Frag
  mg : Str → Option Value
  base : Heap
  A : Around
  N : List Str
  s₀ : Shared
  H₀ : Hp
  env : Env
  outer : List Env
  stack : List Env
  ex : List Addr
  fn : Str → Bool
  calm : Bool
  pn : List (Addr × Obj)
  xe : Value → Shared → Prop
def frs (l : List Env) : List Addr := l.filterMap (·.frame)
abbrev Cx.fs (X : Cx) : List Addr := frs X.outer

def Vis (sc : Scope) (x : Str) : Prop := sc.names.lookup x = some .local ∨ sc.names.lookup x = some .cell ∨ sc.names.lookup x = some .free
def Loc (sc : Scope) (x : Str) : Prop := sc.names.lookup x = some .local ∨ sc.names.lookup x = some .cell
def Look (env : Env) (h : Heap) (m : Str → Option Value) (x : Str) (u : Value) : Prop :=
  (env.kindOf x = some .local ∧ m x = some u) ∨ ((env.kindOf x = some .cell ∨ env.kindOf x = some .free) ∧ ∃ c, env.cells.lookup x = some c ∧ h.IsCell c (some u))

structure Cx.Ok (X : Cx) : Prop where
  mod : Mod X.K X.mg X.base
  kind : X.env.scope.kind = .function
  glob : X.env.globals = mainGlobals
  blt : X.env.builtins = builtinsNs
  above : X.s₀.heap.objs.size ≤ X.env.locals
  inj : ∀ x y c, X.env.cells.lookup x = some c → X.env.cells.lookup y = some c → x = y
  has : ∀ x, (X.env.kindOf x = some .cell ∨ X.env.kindOf x = some .free) → ∃ c, X.env.cells.lookup x = some c
  cab : ∀ x c, X.fn x = true → X.env.cells.lookup x = some c → X.s₀.heap.objs.size ≤ c
  hd : X.calm = true → X.A.handled = none
  frames : X.A.frames = some X.stack
  stk : X.stack = X.outer ∨ (X.stack = X.env :: X.outer ∧ X.env.frame = some X.env.locals)
  exf : ∀ b ∈ X.ex, b ≠ X.env.locals ∧ ∀ x c, X.env.cells.lookup x = some c → c ≠ b
  bs : ∀ b o, X.base.get? b = some o → X.s₀.heap.get? b = some o ∧ X.H₀ b = none
  bsz : X.base.objs.size ≤ X.s₀.heap.objs.size
  noex : ∀ b o, X.base.get? b = some o → b ∉ X.ex
  exfs : ∀ b ∈ X.ex, b ∉ X.fs
  funs : X.s₀.heap.FunFrames X.base X.outer
  frf : ∀ b ∈ X.fs, X.H₀ b = none

structure Inv (X : Cx) (pins : List (Addr × Obj)) (σ : List (Option V)) (H : Hp) (s : Shared) : Prop where
  ok : X.Ok
  os : s.os = X.s₀.os
  bare : AllBare s.gens
  base : Un X.fs X.ex X.H₀ H X.s₀.heap s.heap
  loc : ∃ m, s.heap.Ns X.env.locals m ∧ ∀ (i : Nat) (x : Str) (v : V), X.N[i]? = some x → σ[i]? = some (some v) → Vis X.env.scope x → ∃ u, RelV v u ∧ Look X.env s.heap m x u
  cell : ∀ x c, X.env.cells.lookup x = some c → ∃ v, s.heap.IsCell c v
  free : H X.env.locals = none
  freeC : ∀ x c, X.env.cells.lookup x = some c → H c = none
  pin : ∀ p ∈ X.pn ++ pins, s.heap.get? p.1 = some p.2 ∧ H p.1 = none ∧ p.1 ≠ X.env.locals ∧ p.1 ∉ X.fs ∧ ∀ v, p.2.data ≠ .cell v
  hok : HOk X.prog X.w H s.heap
  len : σ.length = X.N.length

section
variable {X : Cx} {pins : List (Addr × Obj)} {σ : List (Option V)} {H H' : Hp} {s : Shared} {h' : Heap}

theorem Cx.Ok.nofr (ok : X.Ok) {b : Addr} {o : Obj} (e : X.base.get? b = some o) : b ∉ X.fs := fun hb => by
  have := (ok.funs.mem hb).1
  rw [e] at this; cases this
theorem Inv.bs (I : Inv X pins σ H s) : ∀ b o, X.base.get? b = some o → s.heap.get? b = some o ∧ H b = none := fun b o e =>
  ⟨I.base.keep b o (I.ok.bs b o e).1 (I.ok.bs b o e).2 (I.ok.nofr e) (I.ok.noex b o e), I.base.free b o (I.ok.bs b o e).1 (I.ok.bs b o e).2 (I.ok.noex b o e)⟩
theorem Inv.bk (I : Inv X pins σ H s) : ∀ b o, X.base.get? b = some o → s.heap.get? b = some o := fun b o e => (I.bs b o e).1
theorem Inv.mod (I : Inv X pins σ H s) : Mod X.K X.mg X.base := I.ok.mod
theorem Inv.kIn (I : Inv X pins σ H s) : X.K.In s.heap := I.ok.mod.kin.keeps I.bk
theorem Inv.lt (I : Inv X pins σ H s) : X.env.locals < s.heap.objs.size := let ⟨_, hn, _⟩ := I.loc; hn.lt
theorem Inv.sz (I : Inv X pins σ H s) : X.s₀.heap.objs.size ≤ s.heap.objs.size := Nat.le_trans I.ok.above (Nat.le_of_lt I.lt)
theorem Inv.nofs (I : Inv X pins σ H s) {a : Addr} (h : s.heap.objs.size ≤ a) : a ∉ X.fs := fun hb => by
  obtain ⟨_, o, ho, _⟩ := I.ok.funs.mem hb
  exact absurd (Nat.lt_of_lt_of_le (Heap.lt_size ho) (Nat.le_trans I.sz h)) (Nat.lt_irrefl _)
theorem Inv.cne (I : Inv X pins σ H s) : ∀ x c, X.env.cells.lookup x = some c → c ≠ X.env.locals := fun x c e z => by
  obtain ⟨v, o, ho, hd⟩ := I.cell x c e
  obtain ⟨m, ⟨o', es, ep, ho', hd', _⟩, _⟩ := I.loc
  rw [z, ho'] at ho; cases ho; rw [hd'] at hd; cases hd
theorem Inv.funs (I : Inv X pins σ H s) : s.heap.FunFrames X.base X.outer := by
  have all : ∀ (l : List Env), (∀ b ∈ frs l, b ∈ X.fs) → X.s₀.heap.FunFrames X.base l → s.heap.FunFrames X.base l := by
    intro l
    induction l with
    | nil => intro _ _; trivial
    | cons env r ih =>
      intro hs hl
      obtain ⟨hk, ⟨L, o, hf, hn, ho, hd⟩, hr⟩ := hl
      have hL : L ∈ X.fs := hs L (by unfold frs; rw [List.filterMap_cons, hf]; exact List.mem_cons_self)
      obtain ⟨sl, e⟩ := I.base.slot L o ho (I.ok.frf L hL) hL fun z => I.ok.exfs L z hL
      exact ⟨hk, ⟨L, _, hf, hn, e, hd⟩, ih (fun b hb => hs b (by unfold frs; rw [List.filterMap_cons, hf]; exact List.mem_cons_of_mem _ hb)) hr⟩
  exact all X.outer (fun _ hb => hb) I.ok.funs

theorem Inv.stack (I : Inv X pins σ H s) : s.heap.FunFrames X.base X.stack := by
  rcases I.ok.stk with e | ⟨e, hf⟩
  · rw [e]; exact I.funs
  · rw [e]
    obtain ⟨m, hn, _⟩ := I.loc
    refine .cons (by rw [I.ok.kind]; decide) hf hn ?_ I.funs
    exact Heap.get?_none_of_le (Nat.le_trans I.ok.bsz I.ok.above)
theorem Inv.stkSub (I : Inv X pins σ H s) : ∀ b ∈ frs X.stack, b ∈ X.env.locals :: X.fs := fun b hb => by
  rcases I.ok.stk with e | ⟨e, hf⟩
  · rw [e] at hb; exact List.mem_cons_of_mem _ hb
  · rw [e] at hb
    unfold frs at hb
    rw [List.filterMap_cons, hf] at hb
    exact hb
theorem Inv.stkFree (I : Inv X pins σ H s) : ∀ b ∈ frs X.stack, H b = none := fun b hb => by
  rcases List.mem_cons.mp (I.stkSub b hb) with e | hb
  · rw [e]; exact I.free
  · obtain ⟨_, o, ho, _⟩ := I.ok.funs.mem hb
    exact I.base.free b o ho (I.ok.frf b hb) fun z => I.ok.exfs b z hb

theorem Inv.step {g' : Array GenState} {t' : Nat} {d' : Drawn} {ch : List Addr} (I : Inv X pins σ H s)
    (hch : ∀ b ∈ ch, (b ∈ X.ex ∨ X.s₀.heap.objs.size ≤ b) ∧ b ≠ X.env.locals ∧ (∀ x c, X.env.cells.lookup x = some c → c ≠ b) ∧ ∀ p ∈ X.pn ++ pins, p.1 ≠ b)
    (keep : ∀ b o, b ≠ X.env.locals → b ∉ X.fs → b ∉ ch → s.heap.get? b = some o → H b = none → h'.get? b = some o)
    (slot : ∀ b o, b ≠ X.env.locals → b ∈ X.fs → b ∉ ch → s.heap.get? b = some o → H b = none → ∃ sl, h'.get? b = some { o with slots := sl }) (free : ∀ b o, b ∉ ch → s.heap.get? b = some o → H b = none → H' b = none)
    (there : ∀ b o, b ∉ ch → s.heap.get? b = some o → ∃ o', h'.get? b = some o')
    (tups : ∀ b xs, H b = some (.tup xs) → H' b = some (.tup xs)) (frzs : ∀ b o u, H b = some (.frz o u) → H' b = some (.frz o u)) (tbls : ∀ b ps, H b = some (.tbl ps) → ∃ more, H' b = some (.tbl (ps ++ more)))
    (ns : ∀ m, s.heap.Ns X.env.locals m → h'.Ns X.env.locals m) (hok : HOk X.prog X.w H' h') (hg : AllBare g') :
    Inv X pins σ H' { s with heap := h', gens := g', drawn := d', toks := t' } := by
  have neL : ∀ b o, X.s₀.heap.get? b = some o → b ≠ X.env.locals := fun b o e => Nat.ne_of_lt (Nat.lt_of_lt_of_le (Heap.lt_size e) I.ok.above)
  have neC : ∀ b o, X.s₀.heap.get? b = some o → b ∉ X.ex → b ∉ ch := fun b o e hx hb => by
    rcases (hch b hb).1 with z | z
    · exact hx z
    · exact absurd (Nat.lt_of_lt_of_le (Heap.lt_size e) z) (Nat.lt_irrefl _)
  have cellK : ∀ x c, X.env.cells.lookup x = some c → ∀ v, s.heap.IsCell c v → h'.IsCell c v := fun x c e v ⟨o, ho, hd⟩ => by
    have nch : c ∉ ch := fun z => (hch c z).2.2.1 x c e rfl
    by_cases hc : c ∈ X.fs
    · obtain ⟨sl, q⟩ := slot c o (I.cne x c e) hc nch ho (I.freeC x c e)
      exact ⟨_, q, hd⟩
    · exact ⟨o, keep c o (I.cne x c e) hc nch ho (I.freeC x c e), hd⟩
  refine ⟨I.ok, I.os, hg, ⟨fun b o e n hb hx => ?_, fun b o e n hb hx => ?_, fun b o e n hx => ?_, fun b o e hx => ?_, fun b xs e => tups b xs (I.base.tups b xs e), fun b o xs e => frzs b o xs (I.base.frzs b o xs e), fun b ps e => ?_⟩, ?_, fun x c e => ?_, ?_, fun x c e => ?_, fun p hp => ?_, hok, I.len⟩
  · exact keep b o (neL b o e) hb (neC b o e hx) (I.base.keep b o e n hb hx) (I.base.free b o e n hx)
  · obtain ⟨sl, e1⟩ := I.base.slot b o e n hb hx
    obtain ⟨sl', e2⟩ := slot b _ (neL b o e) hb (neC b o e hx) e1 (I.base.free b o e n hx)
    exact ⟨sl', e2⟩
  · obtain ⟨o', e1⟩ := I.base.there b o e hx
    exact free b o' (neC b o e hx) e1 (I.base.free b o e n hx)
  · obtain ⟨o', e1⟩ := I.base.there b o e hx
    exact there b o' (neC b o e hx) e1
  · obtain ⟨m1, e1⟩ := I.base.tbls b ps e
    obtain ⟨m2, e2⟩ := tbls b _ e1
    exact ⟨m1 ++ m2, by rw [e2, Array.append_assoc]⟩
  · obtain ⟨m, hn, hl⟩ := I.loc
    refine ⟨m, ns m hn, fun i x v e1 e2 e3 => ?_⟩
    obtain ⟨u, r, l⟩ := hl i x v e1 e2 e3
    refine ⟨u, r, ?_⟩
    rcases l with l | ⟨k, c, e, z⟩
    · exact .inl l
    · exact .inr ⟨k, c, e, cellK x c e _ z⟩
  · obtain ⟨v, z⟩ := I.cell x c e
    exact ⟨v, cellK x c e v z⟩
  · obtain ⟨m, ⟨o, _, _, ho, _⟩, _⟩ := I.loc
    exact free _ o (fun z => (hch _ z).2.1 rfl) ho I.free
  · obtain ⟨v, o, ho, hd⟩ := I.cell x c e
    exact free c o (fun z => (hch c z).2.2.1 x c e rfl) ho (I.freeC x c e)
  · obtain ⟨e, n, ne, nf, d⟩ := I.pin p hp
    have nch : p.1 ∉ ch := fun z => (hch p.1 z).2.2.2 p hp rfl
    exact ⟨keep p.1 p.2 ne nf nch e n, free p.1 p.2 nch e n, ne, nf, d⟩
theorem Inv.un {t' : Nat} (I : Inv X pins σ H s) (u : Un X.fs [] H H' s.heap h') (hok : HOk X.prog X.w H' h') : Inv X pins σ H' { s with heap := h', toks := t' } := by
  obtain ⟨m, ⟨o, es, ep, ho, r⟩, _⟩ := id I.loc
  obtain ⟨sl, hL⟩ := u.any ho I.free (by simp)
  exact I.step (g' := s.gens) (d' := s.drawn) (ch := []) (fun _ z => nomatch z) (fun b o _ hb _ e n => u.keep b o e n hb (by simp)) (fun b o _ hb _ e n => u.slot b o e n hb (by simp)) (fun b o _ e n => u.free b o e n (by simp)) (fun b o _ e => u.there b o e (by simp)) u.tups u.frzs u.tbls (fun m' hm => by
    obtain ⟨o', es', ep', ho', r'⟩ := hm
    rw [ho] at ho'; cases ho'
    exact ⟨_, es', ep', hL, r'⟩) hok I.bare
theorem Inv.call {g' : Array GenState} {t' : Nat} {d' : Drawn} {ch : List Addr} (I : Inv X pins σ H s) (u : Un (frs X.stack) ch H H' s.heap h') (hok : HOk X.prog X.w H' h') (hg : AllBare g')
    (hch : ∀ b ∈ ch, (b ∈ X.ex ∨ X.s₀.heap.objs.size ≤ b) ∧ b ≠ X.env.locals ∧ (∀ x c, X.env.cells.lookup x = some c → c ≠ b) ∧ ∀ p ∈ X.pn ++ pins, p.1 ≠ b) :
    Inv X pins σ H' { s with heap := h', gens := g', drawn := d', toks := t' } := by
  obtain ⟨m, ⟨o, es, ep, ho, r⟩, _⟩ := id I.loc
  obtain ⟨sl, hL⟩ := u.any ho I.free fun z => (hch _ z).2.1 rfl
  exact I.step (ch := ch) hch (fun b o hL hb hc e n => u.keep b o e n (fun z => (List.mem_cons.mp (I.stkSub b z)).elim hL hb) hc) (fun b o _ _ hc e n => u.any e n hc) (fun b o hc e n => u.free b o e n hc) (fun b o hc e => u.there b o e hc) u.tups u.frzs u.tbls (fun m' hm => by
    obtain ⟨o', es', ep', ho', r'⟩ := hm
    rw [ho] at ho'; cases ho'
    exact ⟨_, es', ep', hL, r'⟩) hok hg
theorem Inv.turned {t' : Nat} {it : Addr} (I : Inv X pins σ H s) (k : ∀ b o, b ≠ it → s.heap.get? b = some o → h'.get? b = some o) (hn : H it = none) (hL : it ≠ X.env.locals)
    (h1 : it ∈ X.ex ∨ X.s₀.heap.objs.size ≤ it) (h2 : ∀ x c, X.env.cells.lookup x = some c → c ≠ it) (h3 : ∀ p ∈ X.pn ++ pins, p.1 ≠ it) : Inv X pins σ H { s with heap := h', toks := t' } := by
  have nit : ∀ b u, H b = some u → b ≠ it := fun b u e z => by rw [z, hn] at e; cases e
  refine I.step (g' := s.gens) (d' := s.drawn) (ch := [it]) (fun b hb => ?_) (fun b o _ _ hc e _ => k b o (fun z => hc (by simp [z])) e) (fun b o _ _ hc e _ => ⟨o.slots, k b o (fun z => hc (by simp [z])) e⟩) (fun _ _ _ _ n => n)
    (fun b o hc e => ⟨o, k b o (fun z => hc (by simp [z])) e⟩) (fun _ _ e => e) (fun _ _ _ e => e) (fun b ps e => ⟨#[], by rw [e]; simp⟩) (fun m hm => ?_) (fun b u e => ?_) I.bare
  · have e : b = it := by simpa using hb
    subst e
    exact ⟨h1, hL, h2, h3⟩
  · obtain ⟨o, es, ep, ho, r⟩ := hm
    exact ⟨o, es, ep, k _ o (Ne.symm hL) ho, r⟩
  · refine (I.hok b u e).stay (fun c v hc q => k c v ?_ q) (fun _ q => q) fun _ _ q => q
    rcases hc with z | z
    · rw [z]; exact nit b u e
    · exact nit c _ z
theorem Inv.tok (I : Inv X pins σ H s) (t : Nat) : Inv X pins σ H { s with toks := t } := I.un (h' := s.heap) (t' := t) Un.refl I.hok
theorem Inv.kept {t' : Nat} (I : Inv X pins σ H s) (k : ∀ b u, s.heap.get? b = some u → h'.get? b = some u) : Inv X pins σ H { s with heap := h', toks := t' } := I.un (Un.kept k) (I.hok.kept k)
theorem Inv.laid {a : Addr} {o : HO} {t' : Nat} (I : Inv X pins σ H s) (k : ∀ b u, s.heap.get? b = some u → h'.get? b = some u) (hp : s.heap.objs.size ≤ a) (new : ObjOk X.prog X.w (upd H a o) h' a o) :
    Inv X pins σ (upd H a o) { s with heap := h', toks := t' } := I.un (Un.laid k hp (I.hok.fresh hp)) (I.hok.laid k hp new)
theorem Inv.write {x e : Addr} {o : HO} {t' : Nat} (I : Inv X pins σ H s) (mu : Mut (H x)) (he : e = x ∨ H e = some (.own x)) (k : ∀ b u, b ≠ e → s.heap.get? b = some u → h'.get? b = some u) (heo : ∃ u, h'.get? e = some u)
    (new : ObjOk X.prog X.w (upd H x o) h' x o) : Inv X pins σ (upd H x o) { s with heap := h', toks := t' } := I.un (Un.write mu he k heo) (I.hok.write mu he k heo new)
theorem Inv.pins_of {pins' : List (Addr × Obj)} (I : Inv X pins σ H s) (h : ∀ p ∈ pins', s.heap.get? p.1 = some p.2 ∧ H p.1 = none ∧ p.1 ≠ X.env.locals ∧ p.1 ∉ X.fs ∧ ∀ v, p.2.data ≠ .cell v) : Inv X pins' σ H s :=
  ⟨I.ok, I.os, I.bare, I.base, I.loc, I.cell, I.free, I.freeC, fun p hp => (List.mem_append.mp hp).elim (fun z => I.pin p (List.mem_append_left _ z)) (h p), I.hok, I.len⟩

theorem nodup_ix {N : List Str} (hN : N.Nodup) {i j : Nat} {x : Str} (a : N[i]? = some x) (b : N[j]? = some x) : i = j := by
  obtain ⟨h1, e1⟩ := List.getElem?_eq_some_iff.mp a
  obtain ⟨h2, e2⟩ := List.getElem?_eq_some_iff.mp b
  exact (List.getElem_inj hN).mp (e1.trans e2.symm)

theorem store_ok2 {M : Model} {A : Around} {E : Value → Shared → Prop} {i : Nat} {x : Str} {v : V} {u : Value} {Q : Unit → Shared → Prop} (I : Inv X pins σ H s) (hN : X.N.Nodup) (hi : X.N[i]? = some x) (hx : Loc X.env.scope x) (r : RelV v u)
    (h : ∀ s', Inv X pins (σ.set i (some v)) H s' → (∃ a, Heap.SameBut a s.heap s'.heap ∧ (a = X.env.locals ∨ X.env.cells.lookup x = some a)) → Q () s') (hf : X.fn x = true ∨ X.env.scope.names.lookup x = some .local := by first | exact .inl rfl | exact .inr rfl | assumption) : wpAny M A (storeName X.env x u) Q E s := by
  obtain ⟨m, hn, hl⟩ := id I.loc
  have hcls : (X.env.scope.kind == .class || (X.env.scope.kind == .module && X.env.locals != X.env.globals)) = false := by rw [I.ok.kind]; rfl
  have hiσ : i < σ.length := by rw [I.len]; exact (List.getElem?_eq_some_iff.mp hi).1
  have cne := I.cne
  have tracked : ∀ {a : Addr} {h' : Heap}, (∃ o, s.heap.get? a = some o ∧ H a = none) → Heap.SameBut a s.heap h' → HOk X.prog X.w H h' := fun {a h'} ha hs b ob e => by
    obtain ⟨_, _, hfree⟩ := ha
    refine (I.hok b ob e).stay (fun c w' hc q => (hs.2 c ?_).trans q) (fun _ q => q) fun _ _ q => q
    rintro rfl
    rcases hc with rfl | hc
    · rw [hfree] at e; cases e
    · rw [hfree] at hc; cases hc
  rcases hx with hk | hk
  · refine wpAny_storeName_local hk hn (fun h' hn' hs => ?_) hcls
    obtain ⟨oL, _, _, hoL, _⟩ := id hn
    refine h _ ⟨I.ok, I.os, I.bare, ⟨fun b o e n hb hx => ?_, fun b o e n hb hx => ?_, I.base.free, fun b o e hx => ?_, I.base.tups, I.base.frzs, I.base.tbls⟩, ⟨_, hn', fun j y v' e1 e2 e3 => ?_⟩, fun y c e => ?_, I.free, I.freeC, fun p hp => ?_, tracked ⟨oL, hoL, I.free⟩ hs, by simpa using I.len⟩ ⟨_, hs, .inl rfl⟩
    · exact (hs.2 b (Nat.ne_of_lt (Nat.lt_of_lt_of_le (Heap.lt_size e) I.ok.above))).trans (I.base.keep b o e n hb hx)
    · obtain ⟨sl, e1⟩ := I.base.slot b o e n hb hx
      exact ⟨sl, (hs.2 b (Nat.ne_of_lt (Nat.lt_of_lt_of_le (Heap.lt_size e) I.ok.above))).trans e1⟩
    · obtain ⟨o', e1⟩ := I.base.there b o e hx
      exact ⟨o', (hs.2 b (Nat.ne_of_lt (Nat.lt_of_lt_of_le (Heap.lt_size e) I.ok.above))).trans e1⟩
    · by_cases hj : j = i
      · subst hj
        rw [hi] at e1; cases e1
        rw [List.getElem?_set_self hiσ] at e2
        cases e2
        exact ⟨u, r, .inl ⟨hk, by simp⟩⟩
      · rw [List.getElem?_set_ne (Ne.symm hj)] at e2
        obtain ⟨u', r', q⟩ := hl j y v' e1 e2 e3
        refine ⟨u', r', ?_⟩
        rcases q with ⟨k, e⟩ | ⟨k, c, e, z⟩
        · refine .inl ⟨k, ?_⟩
          have : y ≠ x := fun e => hj (nodup_ix hN e1 (e ▸ hi))
          simp [this, e]
        · exact .inr ⟨k, c, e, z.sameBut hs (cne y c e)⟩
    · obtain ⟨w', z⟩ := I.cell y c e
      exact ⟨w', z.sameBut hs (cne y c e)⟩
    · obtain ⟨e, n, ne, nf, d⟩ := I.pin p hp
      exact ⟨(hs.2 p.1 ne).trans e, n, ne, nf, d⟩
  · have hfn : X.fn x = true := by
      rcases hf with z | z
      · exact z
      · rw [z] at hk; cases hk
    obtain ⟨c, hc⟩ := I.ok.has x (.inl hk)
    obtain ⟨w', z⟩ := I.cell x c hc
    refine wpAny_storeName_cell I.ok.kind hk hc z (fun h' hc' hs => ?_)
    obtain ⟨oc, hoc, hocd⟩ := id z
    refine h { s with heap := h' } ⟨I.ok, I.os, I.bare, ⟨fun b o e n hb hx => ?_, fun b o e n hb hx => ?_, I.base.free, fun b o e hx => ?_, I.base.tups, I.base.frzs, I.base.tbls⟩, ⟨m, hn.sameBut hs (Ne.symm (cne x c hc)), fun j y v' e1 e2 e3 => ?_⟩, fun y c' e => ?_, I.free, I.freeC, fun p hp => ?_, tracked ⟨oc, hoc, I.freeC x c hc⟩ hs, by simpa using I.len⟩ ⟨c, hs, .inr hc⟩
    · exact (hs.2 b (Nat.ne_of_lt (Nat.lt_of_lt_of_le (Heap.lt_size e) (I.ok.cab x c hfn hc)))).trans (I.base.keep b o e n hb hx)
    · obtain ⟨sl, e1⟩ := I.base.slot b o e n hb hx
      exact ⟨sl, (hs.2 b (Nat.ne_of_lt (Nat.lt_of_lt_of_le (Heap.lt_size e) (I.ok.cab x c hfn hc)))).trans e1⟩
    · obtain ⟨o', e1⟩ := I.base.there b o e hx
      exact ⟨o', (hs.2 b (Nat.ne_of_lt (Nat.lt_of_lt_of_le (Heap.lt_size e) (I.ok.cab x c hfn hc)))).trans e1⟩
    · by_cases hj : j = i
      · subst hj
        rw [hi] at e1; cases e1
        rw [List.getElem?_set_self hiσ] at e2
        cases e2
        exact ⟨u, r, .inr ⟨.inl hk, c, hc, hc'⟩⟩
      · rw [List.getElem?_set_ne (Ne.symm hj)] at e2
        obtain ⟨u', r', q⟩ := hl j y v' e1 e2 e3
        refine ⟨u', r', ?_⟩
        rcases q with q | ⟨k, c', e, z'⟩
        · exact .inl q
        · refine .inr ⟨k, c', e, z'.sameBut hs ?_⟩
          rintro rfl
          exact hj (nodup_ix hN e1 (I.ok.inj _ _ _ e hc ▸ hi))
    · by_cases hcc : c' = c
      · subst hcc; exact ⟨_, hc'⟩
      · obtain ⟨w2, z2⟩ := I.cell y c' e
        exact ⟨w2, z2.sameBut hs hcc⟩
    · obtain ⟨e, n, ne, nf, d⟩ := I.pin p hp
      refine ⟨(hs.2 p.1 ?_).trans e, n, ne, nf, d⟩
      intro q
      rw [q, hoc] at e
      have q' : oc = p.2 := Option.some.inj e
      exact d w' (by rw [← q']; exact hocd)
theorem store_ok {M : Model} {A : Around} {E : Value → Shared → Prop} {i : Nat} {x : Str} {v : V} {u : Value} {Q : Unit → Shared → Prop} (I : Inv X pins σ H s) (hN : X.N.Nodup) (hi : X.N[i]? = some x) (hx : Loc X.env.scope x) (r : RelV v u)
    (h : ∀ s', Inv X pins (σ.set i (some v)) H s' → Q () s') (hf : X.fn x = true ∨ X.env.scope.names.lookup x = some .local := by first | exact .inl rfl | exact .inr rfl | assumption) : wpAny M A (storeName X.env x u) Q E s :=
  store_ok2 I hN hi hx r (fun s' I' _ => h s' I') hf
theorem Inv.call' {s' : Shared} {ch : List Addr} (I : Inv X pins σ H s) (ho : s'.os = s.os) (u : Un (frs X.stack) ch H H' s.heap s'.heap) (hok : HOk X.prog X.w H' s'.heap) (hg : AllBare s'.gens)
    (hch : ∀ b ∈ ch, (b ∈ X.ex ∨ X.s₀.heap.objs.size ≤ b) ∧ b ≠ X.env.locals ∧ (∀ x c, X.env.cells.lookup x = some c → c ≠ b) ∧ ∀ p ∈ X.pn ++ pins, p.1 ≠ b) : Inv X pins σ H' s' := by
  obtain ⟨h', g', d', t', o'⟩ := s'
  have e : o' = s.os := ho
  subst e
  exact I.call (g' := g') (t' := t') (d' := d') u hok hg hch
end

abbrev XK := Value → Option Addr → Hp → Prop
abbrev St := List (Option V)
abbrev VK := V → Hp → Prop
abbrev TE := St → Hp → VK → Prop
abbrev TT := St → Hp → (Bool → Hp → Prop) → Prop
abbrev TA := St → Hp → (List V → Hp → Prop) → Prop
structure Ends where
  nx : St → Hp → Prop
  rt : VK
  bk : St → Hp → Prop := fun _ _ => False
  ct : St → Hp → Prop := fun _ _ => False
abbrev TS := Ends → St → Hp → Prop

def EP (X : Cx) (pins : List (Addr × Obj)) (σ : St) (Q : VK) (u : Value) (s' : Shared) : Prop := ∃ v H', Inv X pins σ H' s' ∧ RelV v u ∧ Q v H'
def TP (X : Cx) (pins : List (Addr × Obj)) (σ : St) (Q : Bool → Hp → Prop) (b : Bool) (s' : Shared) : Prop := ∃ H', Inv X pins σ H' s' ∧ Q b H'
def AP (X : Cx) (pins : List (Addr × Obj)) (σ : St) (Q : List V → Hp → Prop) (us : List Value) (s' : Shared) : Prop := ∃ vs H', Inv X pins σ H' s' ∧ Vals vs us ∧ Q vs H'
def SP (X : Cx) (pins : List (Addr × Obj)) (D : Ends) (f : Flow) (s' : Shared) : Prop :=
  match f with
  | .next => ∃ σ' H', Inv X pins σ' H' s' ∧ D.nx σ' H'
  | .brk => ∃ σ' H', Inv X pins σ' H' s' ∧ D.bk σ' H'
  | .cont => ∃ σ' H', Inv X pins σ' H' s' ∧ D.ct σ' H'
  | .ret u => ∃ v σ' H', Inv X pins σ' H' s' ∧ RelV v u ∧ D.rt v H'

def PE (X : Cx) (e : Expr) (t : TE) : Prop :=
  ∀ (pins : List (Addr × Obj)) (s : Shared) (σ : St) (H : Hp) (Q : VK), Inv X pins σ H s → t σ H Q → wpAny (model X.prog X.w) X.A (eval e X.env) (EP X pins σ Q) X.xe s
def PT (X : Cx) (e : Expr) (t : TT) : Prop :=
  ∀ (pins : List (Addr × Obj)) (s : Shared) (σ : St) (H : Hp) (Q : Bool → Hp → Prop), Inv X pins σ H s → t σ H Q → wpAny (model X.prog X.w) X.A (isTrue e X.env (eval e X.env)) (TP X pins σ Q) X.xe s
def PW (X : Cx) (e : Expr) (t : TT) : Prop :=
  ∀ (whole : Sem Value) (pins : List (Addr × Obj)) (s : Shared) (σ : St) (H : Hp) (Q : Bool → Hp → Prop), Inv X pins σ H s → t σ H Q → wpAny (model X.prog X.w) X.A (isTrue e X.env whole) (TP X pins σ Q) X.xe s
theorem PW.pt {X : Cx} {e : Expr} {t : TT} (h : PW X e t) : PT X e t := h _
def PA (X : Cx) (es : List Expr) (t : TA) : Prop :=
  ∀ (pos : Pos) (pins : List (Addr × Obj)) (s : Shared) (σ : St) (H : Hp) (Q : List V → Hp → Prop), Inv X pins σ H s → t σ H Q → wpAny (model X.prog X.w) X.A (spliced (backTo pos (starEach es X.env))) (AP X pins σ Q) X.xe s
def PS (X : Cx) (st : Stmt) (t : TS) : Prop :=
  ∀ (pins : List (Addr × Obj)) (s : Shared) (σ : St) (H : Hp) (D : Ends), Inv X pins σ H s → t D σ H → wpAny (model X.prog X.w) X.A (exec st X.env) (SP X pins D) X.xe s
def PSs (X : Cx) (st : List Stmt) (t : TS) : Prop :=
  ∀ (pins : List (Addr × Obj)) (s : Shared) (σ : St) (H : Hp) (D : Ends), Inv X pins σ H s → t D σ H → wpAny (model X.prog X.w) X.A (execs st X.env) (SP X pins D) X.xe s
theorem thn {α : Type} {t : Sem α} {Q Q' : α → Shared → Prop} {M : Model} {A : Around} {E : Value → Shared → Prop} {s : Shared} (h : wpAny M A t Q E s) (hQ : ∀ a s, Q a s → Q' a s) : wpAny M A t Q' E s := wpAny_mono h hQ fun _ _ x => x
end L2

namespace L2
open PySem PySem.Spec PyProof.Rows
section
variable {X : Cx}

theorem bin {a b : Expr} {ta tb : TE} (ha : PE X a ta) (hb : PE X b tb) {pins : List (Addr × Obj)} {s : Shared} {σ : St} {H : Hp} {R : V → V → Hp → Prop} (I : Inv X pins σ H s) (h : ta σ H fun x H1 => tb σ H1 fun y H2 => R x y H2)
    {α : Type} {Q : α → Shared → Prop} {f : Value → Value → Sem α}
    (hf : ∀ v u s2 x y H2, Inv X pins σ H2 s2 → RelV x v → RelV y u → R x y H2 → wpAny (model X.prog X.w) X.A (f v u) Q X.xe s2) :
    wpAny (model X.prog X.w) X.A (eval a X.env) (fun v s₁ => wpAny (model X.prog X.w) X.A (eval b X.env) (fun u s₂ => wpAny (model X.prog X.w) X.A (f v u) Q X.xe s₂) X.xe s₁) X.xe s := by
  refine thn (ha pins s σ H _ I h) fun v s1 ⟨x, H1, I1, r1, q1⟩ => ?_
  refine thn (hb pins s1 σ H1 _ I1 q1) fun u s2 ⟨y, H2, I2, r2, q2⟩ => ?_
  exact hf v u s2 x y H2 I2 r1 r2 q2

def tVar (i : Nat) : TE := fun σ H Q => ∃ v, σ[i]? = some (some v) ∧ Q v H
def tC (v : V) : TE := fun _ H Q => Q v H
theorem pe_var {i : Nat} {x : Str} {pos : Pos} (hN : X.N[i]? = some x) (hv : Vis X.env.scope x) (hd : (x == ("__debug__" : Str)) = false := by decide) (hcd : (x == ("__classdict__" : Str)) = false := by decide) : PE X (.Name x pos) (tVar i) := by
  intro pins s σ H Q I h
  obtain ⟨v, e, h⟩ := h
  obtain ⟨m, hn, hl⟩ := I.loc
  obtain ⟨u, r, l⟩ := hl i x v hN e hv
  have fin : EP X pins σ Q u s := ⟨v, H, I, r, h⟩
  rcases l with ⟨hk, hm⟩ | ⟨hk, c, hc, hcell⟩
  · exact wpAny_Name (wpAny_loadName_local I.ok.kind hk hn hm fin) hd
  · rcases hk with hk | hk
    · exact wpAny_Name (wpAny_loadName_cell I.ok.kind hk hc hcell fin) hd
    · exact wpAny_Name (wpAny_loadName_free I.ok.kind hk hc hcell fin hcd) hd
theorem pe_int {i j pos} : PE X (.Constant (.int i) j pos) (tC (.int i)) := fun _ _ _ H _ I h => wpAny_Constant_int ⟨.int i, H, I.tok _, ⟨_, rfl⟩, h⟩
theorem pe_bl {b j pos} : PE X (.Constant (.bool b) j pos) (tC (.bl b)) := fun _ _ _ H _ I h => Constant_bool ⟨.bl b, H, I, rfl, h⟩
theorem pe_non {j pos} : PE X (.Constant .none j pos) (tC .non) := fun _ _ _ H _ I h => Constant_none ⟨.non, H, I, rfl, h⟩
theorem pe_str {x j pos} : PE X (.Constant (.str x) j pos) (tC (.str x)) := fun _ _ _ H _ I h => Calls.Constant_str ⟨.str x, H, I.tok _, ⟨_, rfl⟩, h⟩

def Gl (X : Cx) (x : Str) : Prop := X.env.kindOf x = some .globalImplicit
theorem ld_glob {E : Value → Shared → Prop} {pins : List (Addr × Obj)} {s : Shared} {σ : St} {H : Hp} {x : Str} {u : Value} {pos : Pos} {Q : Value → Shared → Prop} (I : Inv X pins σ H s) (hg : Gl X x) (hm : X.mg x = some u) (h : Q u s)
    (hd : (x == ("__debug__" : Str)) = false := by decide) : wpAny (model X.prog X.w) X.A (eval (.Name x pos) X.env) Q E s :=
  Calls.Name_function_global I.ok.kind hg (Calls.loadGlobal_global (by rw [I.ok.glob]; exact I.mod.glob.keeps I.bk) hm h) hd
theorem ld_blt {E : Value → Shared → Prop} {pins : List (Addr × Obj)} {s : Shared} {σ : St} {H : Hp} {x : Str} {u : Value} {pos : Pos} {Q : Value → Shared → Prop} (I : Inv X pins σ H s) (hg : Gl X x) (hm : X.mg x = none) (hv : bootBuiltins x = some u) (h : Q u s)
    (hn : x ≠ "__name__" := by decide) (hd : (x == ("__debug__" : Str)) = false := by decide) : wpAny (model X.prog X.w) X.A (eval (.Name x pos) X.env) Q E s := by
  obtain ⟨mb, h1, h2⟩ := I.mod.blt
  exact Calls.Name_function_global I.ok.kind hg (Calls.loadGlobal_builtin (by rw [I.ok.glob]; exact I.mod.glob.keeps I.bk) hm (by rw [I.ok.blt]; exact h1.keeps I.bk) ((h2 x hn).trans hv) h) hd
theorem pe_glob {x : Str} {v : V} {u : Value} {pos : Pos} (hg : Gl X x) (hm : X.mg x = some u) (r : RelV v u) (hd : (x == ("__debug__" : Str)) = false := by decide) : PE X (.Name x pos) (tC v) :=
  fun _ _ _ H _ I h => ld_glob I hg hm ⟨v, H, I, r, h⟩ hd
theorem pe_bltn {x : Str} {v : V} {u : Value} {pos : Pos} (hg : Gl X x) (hm : X.mg x = none) (hv : bootBuiltins x = some u) (r : RelV v u) (hn : x ≠ "__name__" := by decide) (hd : (x == ("__debug__" : Str)) = false := by decide) : PE X (.Name x pos) (tC v) :=
  fun _ _ _ H _ I h => ld_blt I hg hm hv ⟨v, H, I, r, h⟩ hn hd

variable {a b : Expr} {ta tb : TE} {pos : Pos}
def PC (X : Cx) (op : CmpOp) (a b : Expr) (t : TE) : Prop :=
  ∀ (pins : List (Addr × Obj)) (s : Shared) (σ : St) (H : Hp) (Q : VK), Inv X pins σ H s → t σ H Q →
    wpAny (model X.prog X.w) X.A (eval a X.env) (fun v s₁ => wpAny (model X.prog X.w) X.A (eval b X.env) (fun u s₂ => wpAny (model X.prog X.w) X.A (compareOp op v u) (EP X pins σ Q) X.xe s₂) X.xe s₁) X.xe s
theorem nobehind (b : Expr) {op : CmpOp} (h : op ≠ .In) (h2 : op ≠ .NotIn) : behindInMarks op b = false := by
  have e1 : (op == CmpOp.In) = false := by cases op <;> first | rfl | exact absurd rfl h
  have e2 : (op == CmpOp.NotIn) = false := by cases op <;> first | rfl | exact absurd rfl h2
  cases b <;> simp [behindInMarks, e1, e2]
def tIsN (ta : TE) : TE := fun σ H Q => ta σ H fun x H1 => Q (.bl (decide (x = .non))) H1
def tNotN (ta : TE) : TE := fun σ H Q => ta σ H fun x H1 => Q (.bl (!decide (x = .non))) H1
theorem RelV.none_iff {x : V} {v : Value} (r : RelV x v) : (v == Value.none) = decide (x = .non) := by
  cases x with
  | non => cases r; rfl
  | bl _ => cases r; rfl
  | int _ => obtain ⟨t, rfl⟩ := r; rfl
  | str _ => obtain ⟨t, rfl⟩ := r; rfl
  | byt _ => obtain ⟨t, rfl⟩ := r; rfl
  | flt _ => obtain ⟨t, rfl⟩ := r; rfl
  | ref _ => cases r; rfl
  | ty _ => cases r; rfl
theorem pc_isN {j pos'} (ha : PE X a ta) : PC X .Is a (.Constant .none j pos') (tIsN ta) := by
  intro pins s σ H Q I h
  refine thn (ha pins s σ H _ I h) fun v s1 ⟨x, H1, I1, r1, q1⟩ => ?_
  exact Constant_none (is_none_gen ⟨.bl _, H1, I1, by rw [r1.none_iff]; rfl, q1⟩)
theorem pc_notN {j pos'} (ha : PE X a ta) : PC X .IsNot a (.Constant .none j pos') (tNotN ta) := by
  intro pins s σ H Q I h
  refine thn (ha pins s σ H _ I h) fun v s1 ⟨x, H1, I1, r1, q1⟩ => ?_
  exact Constant_none (isnot_none_gen ⟨.bl _, H1, I1, by rw [r1.none_iff]; rfl, q1⟩)
def tB (t : TE) : TT := fun σ H Q => t σ H fun x H1 => ∃ c, x = .bl c ∧ Q c H1
theorem pe_cmp {op : CmpOp} {t : TE} (h : PC X op a b t) (h1 : behindInMarks op b = false := by first | exact nobehind _ (by decide) (by decide) | rfl) : PE X (.Compare a [op] [b] pos) t := fun pins s σ H Q I hw => wpAny_Compare1 (h pins s σ H Q I hw) h1
theorem pt_cmp {op : CmpOp} {t : TE} (h : PC X op a b t) (h1 : behindInMarks op b = false := by first | exact nobehind _ (by decide) (by decide) | rfl) : PT X (.Compare a [op] [b] pos) (tB t) := by
  intro pins s σ H Q I hw
  refine wpAny_isTrue_Compare1 (thn (h pins s σ H _ I hw) fun v s1 h1 => thn h1 fun u s2 h2 => thn h2 fun c s3 ⟨x, H1, I1, r1, q1⟩ => ?_) h1
  obtain ⟨d, rfl, q⟩ := q1
  cases r1
  exact wpAny_truthy_bool ⟨H1, I1, q⟩
theorem pt_val {e : Expr} {t : TE} (h : PE X e t) (he : ∀ whole, isTrue e X.env whole = (do let v ← whole; standAt e.pos; holding [v] (truthy v)) := by intro _; rfl) : PT X e (tB t) := by
  intro pins s σ H Q I hw
  refine isTrue_plain (thn (h pins s σ H _ I hw) fun v s1 ⟨x, H1, I1, r1, q1⟩ => ?_) (he _)
  obtain ⟨d, rfl, q⟩ := q1
  cases r1
  exact wpAny_truthy_bool ⟨H1, I1, q⟩

variable {tA tB' : TT} {rest : List Expr}
def tAnd (t u : TT) : TT := fun σ H Q => t σ H fun c H1 => if c = true then u σ H1 Q else Q false H1
def tOr (t u : TT) : TT := fun σ H Q => t σ H fun c H1 => if c = true then Q true H1 else u σ H1 Q
def tNot (t : TT) : TT := fun σ H Q => t σ H fun c H1 => Q (!c) H1
theorem pw_and1 (ha : PT X a tA) : PW X (.BoolOp .And [a] pos) tA := by
  intro wh pins s σ H Q I h
  refine isTrue_and (thn (ha pins s σ H Q I h) fun c s1 e => ?_)
  cases c with
  | true => exact isTrue_and_nil e
  | false => exact e
theorem pw_or1 (ha : PT X a tA) : PW X (.BoolOp .Or [a] pos) tA := by
  intro wh pins s σ H Q I h
  refine isTrue_or (thn (ha pins s σ H Q I h) fun c s1 e => ?_)
  cases c with
  | false => exact isTrue_or_nil e
  | true => exact e
theorem pw_and (ha : PT X a tA) (hb : PW X (.BoolOp .And (b :: rest) pos) tB') : PW X (.BoolOp .And (a :: b :: rest) pos) (tAnd tA tB') := by
  intro wh pins s σ H Q I h
  refine isTrue_and (thn (ha pins s σ H _ I h) fun c s1 ⟨H1, I1, q1⟩ => ?_)
  cases c with
  | true => exact hb wh pins s1 σ H1 Q I1 q1
  | false => exact ⟨H1, I1, q1⟩
theorem pw_or (ha : PT X a tA) (hb : PW X (.BoolOp .Or (b :: rest) pos) tB') : PW X (.BoolOp .Or (a :: b :: rest) pos) (tOr tA tB') := by
  intro wh pins s σ H Q I h
  refine isTrue_or (thn (ha pins s σ H _ I h) fun c s1 ⟨H1, I1, q1⟩ => ?_)
  cases c with
  | true => exact ⟨H1, I1, q1⟩
  | false => exact hb wh pins s1 σ H1 Q I1 q1
theorem pt_not (ha : PT X a tA) : PT X (.UnaryOp .Not a pos) (tNot tA) := by
  intro pins s σ H Q I h
  exact isTrue_not (ha pins s σ H (fun c H1 => Q (!c) H1) I h)
def tAndV (ta tb : TE) : TE := fun σ H Q => ta σ H fun x H1 => ∃ c, x = .bl c ∧ if c = true then tb σ H1 Q else Q (.bl false) H1
theorem pe_one {op} {t : TE} (h : PE X a t) : PE X (.BoolOp op [a] pos) t := fun pins s σ H Q I hw => BoolOp_one (h pins s σ H Q I hw)
theorem pe_and (ha : PE X a ta) (hb : PE X (.BoolOp .And (b :: rest) pos) tb) : PE X (.BoolOp .And (a :: b :: rest) pos) (tAndV ta tb) := by
  intro pins s σ H Q I h
  refine BoolOp_and (thn (ha pins s σ H _ I h) fun v s1 ⟨x, H1, I1, r1, q1⟩ => ?_)
  obtain ⟨c, rfl, q1⟩ := q1
  cases r1
  refine wpAny_truthy_bool ?_
  cases c with
  | true => exact hb pins s1 σ H1 Q I1 q1
  | false => exact ⟨.bl false, H1, I1, rfl, q1⟩
def tIf (t : TT) (ta tb : TE) : TE := fun σ H Q => t σ H fun c H1 => if c = true then ta σ H1 Q else tb σ H1 Q
theorem pe_ifExp {c : Expr} (hc : PT X c tA) (ha : PE X a ta) (hb : PE X b tb) : PE X (.IfExp c a b pos) (tIf tA ta tb) := by
  intro pins s σ H Q I h
  refine wpAny_IfExp (thn (hc pins s σ H _ I h) fun d s1 ⟨H1, I1, q1⟩ => ?_)
  cases d with
  | true => exact ha pins s1 σ H1 Q I1 q1
  | false => exact hb pins s1 σ H1 Q I1 q1
end
end L2

namespace L2
open PySem PySem.Spec PyProof.Rows

def SqL (K : PySem.W.Frag) (H : Hp) (a : Addr) (xs : List V) : Prop :=
  Rd H a (.lst xs) ∨
    ∃ (o : Obj) (its : Array Value) (n : Nat), K.lookup a = some o ∧ o.cls = .type "list" ∧ o.dict = none ∧ o.data = .seq its n ∧ its.size ≤ sizeLine ∧ Vals xs its.toList
def SqT (K : PySem.W.Frag) (H : Hp) (a : Addr) (xs : List V) : Prop :=
  Rd H a (.tup xs) ∨
    ∃ (o : Obj) (its : Array Value) (n : Nat), K.lookup a = some o ∧ o.cls = .type "tuple" ∧ o.data = .seq its n ∧ its.size ≤ sizeLine ∧ Vals xs its.toList
def absV : Value → Option V
  | .none => some .non
  | .bool b => some (.bl b)
  | .int i _ => some (.int i)
  | .str x _ => some (.str x)
  | .bytes b _ => some (.byt b)
  | .float b _ => some (.flt b)
  | .ref a => some (.ref a)
  | .type n => some (.ty n)
  | _ => none
theorem RelV.abs {x : V} {u : Value} (r : RelV x u) : absV u = some x := by
  cases x with
  | non => cases r; rfl
  | bl _ => cases r; rfl
  | int _ => obtain ⟨t, rfl⟩ := r; rfl
  | str _ => obtain ⟨t, rfl⟩ := r; rfl
  | byt _ => obtain ⟨t, rfl⟩ := r; rfl
  | flt _ => obtain ⟨t, rfl⟩ := r; rfl
  | ref _ => cases r; rfl
  | ty _ => cases r; rfl
theorem RelV.inj {x y : V} {u : Value} (r : RelV x u) (q : RelV y u) : x = y := Option.some.inj (r.abs.symm.trans q.abs)
theorem Vals.inj : ∀ {xs ys : List V} {us : List Value}, Vals xs us → Vals ys us → xs = ys
  | _, _, _, .nil, .nil => rfl
  | _, _, _, .cons r t, .cons r' t' => by rw [r.inj r', Vals.inj t t']
section
variable {X : Cx} {pins : List (Addr × Obj)} {σ : St} {H : Hp} {s : Shared} {a : Addr} {xs ys : List V}
theorem SqL.of {K : PySem.W.Frag} (h : H a = some (.lst xs)) : SqL K H a xs := .inl (.inl h)
theorem SqT.of {K : PySem.W.Frag} (h : H a = some (.tup xs)) : SqT K H a xs := .inl (.inl h)
theorem Inv.list (I : Inv X pins σ H s) (h : SqL X.K H a xs) : ∃ its : List Value, Vals xs its ∧ PlainL s.heap a its.toArray ∧ xs.length ≤ sizeLine := by
  rcases h with h | ⟨o, its, n, hk, hc, hd, hs, hz, r⟩
  · obtain ⟨z, its, n, r, e⟩ := h.ok I.hok
    exact ⟨its, r, ⟨_, n, e, rfl, rfl, rfl⟩, z⟩
  · refine ⟨its.toList, r, ⟨o, n, I.kIn a o hk, hc, hd, by simpa using hs⟩, ?_⟩
    have e := r.length
    simp only [Array.length_toList] at e
    omega
theorem Inv.tuple (I : Inv X pins σ H s) (h : SqT X.K H a xs) : ∃ its : List Value, Vals xs its ∧ IsTup s.heap a its.toArray ∧ xs.length ≤ sizeLine := by
  rcases h with h | ⟨o, its, n, hk, hc, hs, hz, r⟩
  · obtain ⟨z, its, r, p⟩ := h.ok I.hok
    exact ⟨its, r, p, z⟩
  · refine ⟨its.toList, r, ⟨o, I.kIn a o hk, hc, n, by simpa using hs⟩, ?_⟩
    have e := r.length
    simp only [Array.length_toList] at e
    omega
theorem Inv.list_inj (I : Inv X pins σ H s) (h : SqL X.K H a xs) (h' : SqL X.K H a ys) : xs = ys := by
  obtain ⟨its, r, ⟨o, n, e, _, _, d⟩, _⟩ := I.list h
  obtain ⟨its', r', ⟨o', n', e', _, _, d'⟩, _⟩ := I.list h'
  rw [e] at e'; cases e'
  rw [d] at d'
  injection d' with d1 _
  have : its = its' := by simpa using congrArg Array.toList d1
  subst this
  exact r.inj r'
theorem Inv.tuple_inj (I : Inv X pins σ H s) (h : SqT X.K H a xs) (h' : SqT X.K H a ys) : xs = ys := by
  obtain ⟨its, r, ⟨o, e, _, n, d⟩, _⟩ := I.tuple h
  obtain ⟨its', r', ⟨o', e', _, n', d'⟩, _⟩ := I.tuple h'
  rw [e] at e'; cases e'
  rw [d] at d'
  injection d' with d1 _
  have : its = its' := by simpa using congrArg Array.toList d1
  subst this
  exact r.inj r'
end

abbrev Cx.wish (X : Cx) (E : Value → Shared → Prop) : Cx := { X with xe := E }
abbrev Cx.nox (X : Cx) : Cx := X.wish fun _ _ => False
theorem Cx.Ok.wish {X : Cx} (ok : X.Ok) (E : Value → Shared → Prop) : (X.wish E).Ok :=
  ⟨ok.mod, ok.kind, ok.glob, ok.blt, ok.above, ok.inj, ok.has, ok.cab, ok.hd, ok.frames, ok.stk, ok.exf, ok.bs, ok.bsz, ok.noex, ok.exfs, ok.funs, ok.frf⟩
theorem Cx.Ok.unwish {X : Cx} {E : Value → Shared → Prop} (ok : (X.wish E).Ok) : X.Ok :=
  ⟨ok.mod, ok.kind, ok.glob, ok.blt, ok.above, ok.inj, ok.has, ok.cab, ok.hd, ok.frames, ok.stk, ok.exf, ok.bs, ok.bsz, ok.noex, ok.exfs, ok.funs, ok.frf⟩
section
variable {X : Cx} {pins : List (Addr × Obj)} {σ : St} {H : Hp} {s : Shared} {E : Value → Shared → Prop}
theorem Inv.wish (I : Inv X pins σ H s) (E : Value → Shared → Prop) : Inv (X.wish E) pins σ H s := ⟨I.ok.wish E, I.os, I.bare, I.base, I.loc, I.cell, I.free, I.freeC, I.pin, I.hok, I.len⟩
theorem Inv.unwish (I : Inv (X.wish E) pins σ H s) : Inv X pins σ H s := ⟨I.ok.unwish, I.os, I.bare, I.base, I.loc, I.cell, I.free, I.freeC, I.pin, I.hok, I.len⟩
theorem SP.unwish {D : Ends} {f : Flow} {s' : Shared} (h : SP (X.wish E) pins D f s') : SP X pins D f s' := by
  cases f with
  | next => obtain ⟨σ', H', I, q⟩ := h; exact ⟨σ', H', I.unwish, q⟩
  | brk => obtain ⟨σ', H', I, q⟩ := h; exact ⟨σ', H', I.unwish, q⟩
  | cont => obtain ⟨σ', H', I, q⟩ := h; exact ⟨σ', H', I.unwish, q⟩
  | ret u => obtain ⟨v, σ', H', I, r, q⟩ := h; exact ⟨v, σ', H', I.unwish, r, q⟩
theorem PSs.nox {st : List Stmt} {t : TS} (h : PSs X.nox st t) : PSs X st t := fun pins s σ H D I hw =>
  wpAny_mono (h pins s σ H D (I.wish _) hw) (fun _ _ q => q.unwish) fun _ _ z => False.elim z
end

section
variable {X : Cx} {st : Stmt} {rest : List Stmt} {t u : TS} {e : Expr} {te : TE} {pos : Pos}
def tNext : TS := fun D σ H => D.nx σ H
def tSeq (t u : TS) : TS := fun D σ H => t { D with nx := u D } σ H
theorem pss_nil : PSs X [] tNext := fun _ _ σ H _ I h => wpAny_execs_nil ⟨σ, H, I, h⟩
theorem pss_cons (h1 : PS X st t) (h2 : PSs X rest u) : PSs X (st :: rest) (tSeq t u) := by
  intro pins s σ H D I h
  refine wpAny_execs_cons (thn (h1 pins s σ H { D with nx := u D } I h) fun f s1 q => ?_)
  cases f with
  | next =>
    obtain ⟨σ', H', I', q⟩ := q
    exact h2 pins s1 σ' H' D I' q
  | ret v => exact q
  | brk => exact q
  | cont => exact q
theorem pss_one (h1 : PS X st t) : PSs X [st] t := by
  intro pins s σ H D I h
  refine wpAny_execs_cons (thn (h1 pins s σ H D I h) fun f s1 q => ?_)
  cases f with
  | next => exact wpAny_execs_nil q
  | ret v => exact q
  | brk => exact q
  | cont => exact q
theorem Inv.quiet {pins : List (Addr × Obj)} {σ : St} {H : Hp} {s : Shared} (I : Inv X pins σ H s) : interactive X.env = false := by simp [interactive, I.ok.kind]
def tDrop (te : TE) : TS := fun D σ H => te σ H fun _ H1 => D.nx σ H1
theorem ps_expr (he : PE X e te) (hs : swapsWith e none pos.line X.env = pure false := by rfl) : PS X (.Expr e pos) (tDrop te) := by
  intro pins s σ H D I h
  exact wpAny_Expr_any (thn (he pins s σ H _ I h) fun v s1 ⟨x, H1, I1, r1, q1⟩ => ⟨σ, H1, I1, q1⟩) I.quiet hs
def tRet (te : TE) : TS := fun D σ H => te σ H D.rt
theorem ps_ret (he : PE X e te) : PS X (.Return (some e) pos) (tRet te) := by
  intro pins s σ H D I h
  exact wpAny_Return_some (thn (he pins s σ H _ I h) fun v s1 ⟨x, H1, I1, r1, q1⟩ => ⟨x, σ, H1, I1, r1, q1⟩)
def tIfS (c : TT) (t u : TS) : TS := fun D σ H => c σ H fun b H1 => if b = true then t D σ H1 else u D σ H1
theorem ps_if {c : Expr} {a b : List Stmt} {tc : TT} (hc : PT X c tc) (ha : PSs X a t) (hb : PSs X b u) : PS X (.If c a b pos) (tIfS tc t u) := by
  intro pins s σ H D I h
  refine wpAny_If (thn (hc pins s σ H _ I h) fun d s1 ⟨H1, I1, q1⟩ => ?_)
  cases d with
  | true => exact ha pins s1 σ H1 D I1 q1
  | false => exact hb pins s1 σ H1 D I1 q1
def tNever : TS := fun _ _ _ => False
theorem pss_never {sts : List Stmt} : PSs X sts tNever := fun _ _ _ _ _ _ h => h.elim
end

abbrev TG := V → St → Hp → (St → Hp → Prop) → Prop
abbrev TGs := List V → St → Hp → (St → Hp → Prop) → Prop
def PG (X : Cx) (target : Expr) (t : TG) : Prop :=
  ∀ (pins : List (Addr × Obj)) (s : Shared) (σ : St) (H : Hp) (v : V) (u : Value) (Q : St → Hp → Prop), Inv X pins σ H s → RelV v u → t v σ H Q →
    wpAny (model X.prog X.w) X.A (assign target X.env u) (fun _ s' => ∃ σ' H', Inv X pins σ' H' s' ∧ Q σ' H') X.xe s
def PGs (X : Cx) (ts : List Expr) (t : TGs) : Prop :=
  ∀ (pins : List (Addr × Obj)) (s : Shared) (σ : St) (H : Hp) (vs : List V) (us : List Value) (Q : St → Hp → Prop), Inv X pins σ H s → Vals vs us → t vs σ H Q →
    wpAny (model X.prog X.w) X.A (assignInOrder ((assignEach ts X.env).map (·.2)) us) (fun _ s' => ∃ σ' H', Inv X pins σ' H' s' ∧ Q σ' H') X.xe s
abbrev TSet := V → V → V → Hp → (Hp → Prop) → Prop
def PSet (X : Cx) (t : TSet) : Prop :=
  ∀ (pins : List (Addr × Obj)) (s : Shared) (σ : St) (H : Hp) (o i v : V) (ov iv u : Value) (Q : Hp → Prop), Inv X pins σ H s → RelV o ov → RelV i iv → RelV v u → t o i v H Q →
    wpAny (model X.prog X.w) X.A (setItem ov iv u) (fun _ s' => ∃ H', Inv X pins σ H' s' ∧ Q H') X.xe s
section
variable {X : Cx} {pos : Pos}
def gName (i : Nat) : TG := fun v σ H Q => Q (σ.set i (some v)) H
theorem pg_name {i : Nat} {x : Str} (hN : X.N.Nodup) (hi : X.N[i]? = some x) (hx : Loc X.env.scope x) (hf : X.fn x = true ∨ X.env.scope.names.lookup x = some .local := by first | exact .inl rfl | exact .inr rfl | assumption) : PG X (.Name x pos) (gName i) := by
  intro pins s σ H v u Q I r h
  exact wpAny_assign_Name (store_ok I hN hi hx r (fun s' I' => ⟨_, H, I', h⟩) hf)
def gNil : TGs := fun vs σ H Q => vs = [] ∧ Q σ H
def gCons (t : TG) (u : TGs) : TGs := fun vs σ H Q => ∃ v r, vs = v :: r ∧ t v σ H fun σ' H' => u r σ' H' Q
theorem pgs_nil : PGs X [] gNil := by
  intro pins s σ H vs us Q I r h
  obtain ⟨e, h⟩ := h
  subst e
  cases r
  exact assignInOrder_nil ⟨σ, H, I, h⟩
theorem pgs_cons {e : Expr} {es : List Expr} {t : TG} {u : TGs} (h1 : PG X e t) (h2 : PGs X es u)
    (hs : (assignEach (e :: es) X.env).map (·.2) = assign e X.env :: (assignEach es X.env).map (·.2) := by rfl) : PGs X (e :: es) (gCons t u) := by
  intro pins s σ H vs us Q I r h
  obtain ⟨v, vr, e1, h⟩ := h
  subst e1
  cases r with
  | cons r rr =>
    rw [hs]
    refine assignInOrder_cons (thn (h1 pins s σ H _ _ _ I r h) fun _ s1 ⟨σ1, H1, I1, q1⟩ => ?_)
    exact h2 pins s1 σ1 H1 _ _ Q I1 rr q1
def gTup (K : PySem.W.Frag) (n : Nat) (t : TGs) : TG := fun v σ H Q => ∃ a xs, v = .ref a ∧ SqT K H a xs ∧ xs.length = n ∧ t xs σ H Q
theorem pg_tup {es : List Expr} {k : Nat} {t : TGs} {n : Nat} (hc : X.calm = true) (h : PGs X es t)
    (hn : (assignEach es X.env).length = n := by rfl) (hst : (assignEach es X.env).findIdx? (·.1) = none := by rfl) : PG X (.Tuple es k pos) (gTup X.K n t) := by
  intro pins s σ H v u Q I r hw
  obtain ⟨a, xs, e1, hq, hl, hw⟩ := hw
  subst e1
  cases r
  obtain ⟨its, rv, ht, hz⟩ := I.tuple hq
  refine assign_Tuple_tuple (I.ok.hd hc) ht (by simp [hn, ← hl, rv.length]) hst fun h' hx => ?_
  have I1 : Inv X pins σ H { s with heap := h' } := I.kept (t' := s.toks) fun b o e => hx b o (Nat.ne_of_lt (Heap.lt_size e)) e
  exact h pins _ σ H xs _ Q I1 (by simpa using rv) hw
def gSub (to ti : TE) (t : TSet) : TG := fun v σ H Q => to σ H fun o H1 => ti σ H1 fun i H2 => t o i v H2 fun H3 => Q σ H3
theorem pg_sub {o i : Expr} {to ti : TE} {t : TSet} (ho : PE X o to) (hi : PE X i ti) (hs : PSet X t)
    (ha : ∀ v, assign (.Subscript o i pos) X.env v = (do
      let ov ← holding [v] (eval o X.env)
      let iv ← holding [v, ov] (eval i X.env)
      standAt pos
      holding [v, ov, iv] (setItem ov iv v)
      release [v, ov, iv] []) := by intro _; rfl) : PG X (.Subscript o i pos) (gSub to ti t) := by
  intro pins s σ H v u Q I r h
  rw [ha]
  refine wpAny_bind (wpAny_holding (thn (ho pins s σ H _ I h) fun ov s1 ⟨x, H1, I1, r1, q1⟩ => ?_))
  refine wpAny_bind (wpAny_holding (thn (hi pins s1 σ H1 _ I1 q1) fun iv s2 ⟨y, H2, I2, r2, q2⟩ => ?_))
  refine wpAny_bind (wpAny_standAt (wpAny_bind (wpAny_holding (thn (hs pins s2 σ H2 x y v ov iv u _ I2 r1 r2 r q2) fun _ s3 ⟨H3, I3, q3⟩ => ?_))))
  exact wpAny_release ⟨σ, H3, I3, q3⟩
def tAsg (te : TE) (g : TG) : TS := fun D σ H => te σ H fun x H1 => g x σ H1 D.nx
theorem ps_asg {tg e : Expr} {te : TE} {g : TG} (he : PE X e te) (hg : PG X tg g) (hs : swapsWithSole [tg] e pos.line X.env = pure false := by rfl) (hw : swappedStores [tg] e X.env = pure none := by rfl)
    (h1 : (assignEach [tg] X.env).map (·.2) = [assign tg X.env] := by rfl) : PS X (.Assign [tg] e pos) (tAsg te g) := by
  intro pins s σ H D I h
  refine wpAny_Assign_stores (thn (he pins s σ H _ I h) fun v s1 ⟨x, H1, I1, r1, q1⟩ => ?_) hs hw
  rw [h1]
  exact thn (hg pins s1 σ H1 x v _ I1 r1 q1) fun _ s2 q => q
theorem ps_set {i : Nat} {x : Str} {e : Expr} {te : TE} {pos' : Pos} (hN : X.N.Nodup) (hi : X.N[i]? = some x) (hx : Loc X.env.scope x) (he : PE X e te) (hs : swapsWith e (some (.Name x pos')) pos.line X.env = pure false := by rfl) (hf : X.fn x = true ∨ X.env.scope.names.lookup x = some .local := by first | exact .inl rfl | exact .inr rfl | assumption) :
    PS X (.Assign [.Name x pos'] e pos) (tAsg te (gName i)) := by
  intro pins s σ H D I h
  refine wpAny_Assign_Name (thn (he pins s σ H _ I h) fun v s1 ⟨y, H1, I1, r1, q1⟩ => ?_) hs
  exact store_ok I1 hN hi hx r1 (fun s2 I2 => ⟨_, H1, I2, q1⟩) hf
end

section
variable {X : Cx} {pos : Pos}
def tWhile (c : TT) (tb : TS) : TS := fun D σ H => ∃ W : Nat → St → Hp → Prop, (∃ m, W m σ H) ∧ ∀ m σ H, W m σ H →
  c σ H fun b H1 => if b = true then ∃ N : St → Hp → Prop, (∀ σ' H', N σ' H' → ∃ m', m' < m ∧ W m' σ' H') ∧ tb { D with nx := N, ct := N, bk := D.nx } σ H1 else D.nx σ H1
theorem ps_while {c : Expr} {body : List Stmt} {tc : TT} {tb : TS} (hp : PassesOwn (model X.prog X.w) X.A X.env X.xe) (hc : PT X c tc) (hb : PSs X body tb) : PS X (.While c body [] pos) (tWhile tc tb) := by
  intro pins s σ H D I h
  obtain ⟨W, ⟨m0, w0⟩, turn⟩ := h
  refine wpAny_While (codeAny_whileLoop (fun n s' => ∃ σ' H', Inv X pins σ' H' s' ∧ W n σ' H') ?_ m0 ⟨σ, H, I, w0⟩)
  rintro n s1 ⟨σ1, H1, I1, w1⟩
  refine wpAny_passesOwn hp (thn (hc pins s1 σ1 H1 _ I1 (turn n σ1 H1 w1)) fun b s2 ⟨H2, I2, q2⟩ => ?_)
  cases b with
  | true =>
    obtain ⟨N, hN, q2⟩ := q2
    rw [if_pos rfl]
    refine wpAny_passesOwn hp (thn (hb pins s2 σ1 H2 _ I2 q2) fun f s3 q3 => ?_)
    cases f with
    | next =>
      obtain ⟨σ3, H3, I3, n3⟩ := q3
      obtain ⟨m', hm, w3⟩ := hN σ3 H3 n3
      exact ⟨m', hm, σ3, H3, I3, w3⟩
    | cont =>
      obtain ⟨σ3, H3, I3, n3⟩ := q3
      obtain ⟨m', hm, w3⟩ := hN σ3 H3 n3
      exact ⟨m', hm, σ3, H3, I3, w3⟩
    | brk => exact q3
    | ret v => exact q3
  | false =>
    rw [if_neg Bool.false_ne_true]
    exact wpAny_execs_nil ⟨σ1, H2, I2, q2⟩
end

structure It where
  go : Nat → Hp → Prop
  yld : Nat → Hp → V → Hp → Prop
  stop : Nat → Hp → Prop
def FpOk (X : Cx) (pins : List (Addr × Obj)) (H : Hp) (b : Addr) : Prop :=
  H b = none ∧ b ≠ X.env.locals ∧ b ∉ X.fs ∧ (b ∈ X.ex ∨ X.s₀.heap.objs.size ≤ b) ∧ (∀ x c, X.env.cells.lookup x = some c → c ≠ b) ∧ ∀ p ∈ X.pn ++ pins, p.1 ≠ b
theorem Inv.fpOk {X : Cx} {pins : List (Addr × Obj)} {σ : St} {H H' : Hp} {s : Shared} {b : Addr} (I : Inv X pins σ H s) (hb : s.heap.objs.size ≤ b) (hn : H' b = none) : FpOk X pins H' b := by
  refine ⟨hn, Nat.ne_of_gt (Nat.lt_of_lt_of_le I.lt hb), I.nofs hb, .inr (Nat.le_trans I.sz hb), fun x c e z => ?_, fun p hp z => ?_⟩
  · obtain ⟨v, q⟩ := I.cell x c e
    exact absurd (Nat.lt_of_lt_of_le q.lt (by rw [z]; exact hb)) (Nat.lt_irrefl _)
  · exact absurd (Nat.lt_of_lt_of_le (Heap.lt_size (I.pin p hp).1) (by rw [z]; exact hb)) (Nat.lt_irrefl _)
structure Turn (P : Program) (w : World) (K : PySem.W.Frag) (tg : Expr) (J : It) (fp : List Addr) (it : Addr) (tn : Nat → Heap → Prop) : Prop where
  mem : it ∈ fp
  obj : ∀ i h, tn i h → ∀ b ∈ fp, ∃ o, h.get? b = some o ∧ ∀ v, o.data ≠ .cell v
  keep : ∀ i h h', tn i h → (∀ b ∈ fp, ∀ o, h.get? b = some o → h'.get? b = some o) → tn i h'
  item : ∀ (X : Cx), X.prog = P → X.w = w → X.K = K → X.calm = true → ∀ (i : Nat) (pins : List (Addr × Obj)) (s : Shared) (σ : St) (H : Hp) (E : Value → Shared → Prop), Inv X pins σ H s → (∀ b ∈ fp, FpOk X pins H b) → tn i s.heap → J.go i H →
    wpAny (model P w) X.A (pyNext (.ref it)) (fun r s1 => ∃ u, r = some u ∧
      wpAny (model P w) X.A (letOwnedTupleGo tg (.ref it) u) (fun _ s2 => ∃ x H', Inv X pins σ H' s2 ∧ RelV x u ∧ J.yld i H x H' ∧ tn (i + 1) s2.heap ∧ ∀ b ∈ fp, H' b = none) E s1) E s
  done : ∀ (X : Cx), X.prog = P → X.w = w → X.K = K → X.calm = true → ∀ (i : Nat) (pins : List (Addr × Obj)) (s : Shared) (σ : St) (H : Hp) (E : Value → Shared → Prop), Inv X pins σ H s → (∀ b ∈ fp, FpOk X pins H b) → tn i s.heap → J.stop i H →
    wpAny (model P w) X.A (pyNext (.ref it)) (fun r s1 => r = none ∧ Inv X pins σ H s1) E s
  self : ∀ (A : Around) (i : Nat) (s : Shared) (Q : Value → Shared → Prop) (E : Value → Shared → Prop), tn i s.heap → Q (.ref it) s → wpAny (model P w) A (pyIter (.ref it)) Q E s
abbrev TI := St → Hp → (It → Hp → Prop) → Prop
def PIE (X : Cx) (pins : List (Addr × Obj)) (σ : St) (tg : Expr) (R : It → Hp → Prop) (itv : Value) (s2 : Shared) : Prop :=
  ∃ (it : Addr) (fp : List Addr) (tn : Nat → Heap → Prop) (J : It) (H' : Hp), itv = .ref it ∧ Inv X pins σ H' s2 ∧ Turn X.prog X.w X.K tg J fp it tn ∧ tn 0 s2.heap ∧ (∀ b ∈ fp, FpOk X pins H' b) ∧ R J H'
def PI (X : Cx) (tg iter : Expr) (wi : TI) : Prop :=
  ∀ (pins : List (Addr × Obj)) (s : Shared) (σ : St) (H : Hp) (R : It → Hp → Prop), Inv X pins σ H s → wi σ H R →
    wpAny (model X.prog X.w) X.A (eval iter X.env) (fun v s1 => wpAny (model X.prog X.w) X.A (pyIter v) (PIE X pins σ tg R) X.xe s1) X.xe s

theorem go_of {M : Model} {A : Around} {E : Value → Shared → Prop} {s : Shared} {tg : Expr} {it : Addr} {u : Value} {o : Obj} {n : String} {vs : Array Value} {Q : Unit → Shared → Prop} (ho : s.heap.get? it = some o) (hc : o.cls = .type n) (hd : o.data = .fields vs)
    (hn : ["enumerate", "zip", "dict_itemiterator", "dict_reverseitemiterator", "odict_iterator", "itertools.zip_longest", "itertools.pairwise"].contains n = false) (hQ : Q () s) : wpAny M A (letOwnedTupleGo tg (.ref it) u) Q E s := by
  unfold letOwnedTupleGo
  cases tg <;> first
    | exact wpAny_pure hQ
    | (cases u <;> first
        | exact wpAny_pure hQ
        | (refine wpAny_bind (wpAny_load ho ?_)
           rw [hc, hd]
           show wpAny M A (if (["enumerate", "zip", "dict_itemiterator", "dict_reverseitemiterator", "odict_iterator", "itertools.zip_longest", "itertools.pairwise"].contains n && vs[0]? == some (rawInt _)) = true then _ else _) Q E s
           rw [if_neg (by intro h; rw [hn, Bool.false_and] at h; cases h)]
           exact wpAny_pure hQ))

def Itl (K : PySem.W.Frag) (a : Addr) : It :=
  ⟨fun i H => ∃ xs x, SqL K H a xs ∧ xs[i]? = some x, fun i H x H' => H' = H ∧ ∀ xs, SqL K H a xs → xs[i]? = some x, fun i H => ∃ xs, SqL K H a xs ∧ xs.length ≤ i⟩
def Itt (K : PySem.W.Frag) (a : Addr) : It :=
  ⟨fun i H => ∃ xs x, SqT K H a xs ∧ xs[i]? = some x, fun i H x H' => H' = H ∧ ∀ xs, SqT K H a xs → xs[i]? = some x, fun i H => ∃ xs, SqT K H a xs ∧ xs.length ≤ i⟩
theorem turn_list {P : Program} {w : World} {K : PySem.W.Frag} {tg : Expr} (a it : Addr) : Turn P w K tg (Itl K a) [it] it (fun i h => h.IsListIter it a i) where
  mem := by simp
  obj := fun i h st b hb => by
    have e : b = it := by simpa using hb
    subst e
    obtain ⟨o, e, c, d⟩ := st
    exact ⟨o, e, fun v z => by rw [d] at z; cases z⟩
  keep := fun i h h' st k => st.at fun o e => k it (by simp) o e
  item := by
    intro X hP hw hK hc i pins s σ H E I hf st hg
    subst hP hw hK
    obtain ⟨xs, x, hq, hx⟩ := hg
    obtain ⟨its, rv, p, hz⟩ := I.list hq
    obtain ⟨u, hu, ru⟩ := rv.get hx
    obtain ⟨f0, f1, f2, f3, f4, f5⟩ := hf it (by simp)
    refine wpAny_pyNext_list_item st p.isList (x := u) (by simpa using hu) fun h' st' sb => ?_
    have I1 : Inv X pins σ H { s with heap := h' } := I.turned (t' := s.toks) (fun b o hb e => (sb.2 b hb).trans e) f0 f1 f3 f4 f5
    obtain ⟨o, e, c, d⟩ := id st'
    exact ⟨u, rfl, go_of (s := { s with heap := h' }) e c d (by decide) ⟨x, H, I1, ru, ⟨rfl, fun ys hy => by rw [I.list_inj hy hq]; exact hx⟩, st', fun b hb => (hf b hb).1⟩⟩
  done := by
    intro X hP hw hK hc i pins s σ H E I hf st hg
    subst hP hw hK
    obtain ⟨xs, hq, hx⟩ := hg
    obtain ⟨its, rv, p, hz⟩ := I.list hq
    obtain ⟨f0, f1, f2, f3, f4, f5⟩ := hf it (by simp)
    have hl := rv.length
    exact wpAny_pyNext_list_end (I.ok.hd hc) st p.isList (by simp; omega) fun h' eb => ⟨rfl, I.turned (t' := s.toks) (fun b o hb e => eb b o hb e) f0 f1 f3 f4 f5⟩
  self := fun _ _ _ _ _ st h => wpAny_pyIter_listiter st h
theorem turn_tuple {P : Program} {w : World} {K : PySem.W.Frag} {tg : Expr} (a it : Addr) : Turn P w K tg (Itt K a) [it] it (fun i h => h.IsTupleIter it a i) where
  mem := by simp
  obj := fun i h st b hb => by
    have e : b = it := by simpa using hb
    subst e
    obtain ⟨o, e, c, d⟩ := st
    exact ⟨o, e, fun v z => by rw [d] at z; cases z⟩
  keep := fun i h h' st k => st.at fun o e => k it (by simp) o e
  item := by
    intro X hP hw hK hc i pins s σ H E I hf st hg
    subst hP hw hK
    obtain ⟨xs, x, hq, hx⟩ := hg
    obtain ⟨its, rv, p, hz⟩ := I.tuple hq
    obtain ⟨u, hu, ru⟩ := rv.get hx
    obtain ⟨f0, f1, f2, f3, f4, f5⟩ := hf it (by simp)
    refine wpAny_pyNext_tuple_item st (show s.heap.IsTuple a its.toArray from p) (x := u) (by simpa using hu) fun h' st' sb => ?_
    have I1 : Inv X pins σ H { s with heap := h' } := I.turned (t' := s.toks) (fun b o hb e => (sb.2 b hb).trans e) f0 f1 f3 f4 f5
    obtain ⟨o, e, c, d⟩ := id st'
    exact ⟨u, rfl, go_of (s := { s with heap := h' }) e c d (by decide) ⟨x, H, I1, ru, ⟨rfl, fun ys hy => by rw [I.tuple_inj hy hq]; exact hx⟩, st', fun b hb => (hf b hb).1⟩⟩
  done := by
    intro X hP hw hK hc i pins s σ H E I hf st hg
    subst hP hw hK
    obtain ⟨xs, hq, hx⟩ := hg
    obtain ⟨its, rv, p, hz⟩ := I.tuple hq
    obtain ⟨f0, f1, f2, f3, f4, f5⟩ := hf it (by simp)
    have hl := rv.length
    exact wpAny_pyNext_tuple_end (I.ok.hd hc) st (show s.heap.IsTuple a its.toArray from p) (by simp; omega) fun h' eb => ⟨rfl, I.turned (t' := s.toks) (fun b o hb e => eb b o hb e) f0 f1 f3 f4 f5⟩
  self := fun _ _ _ _ _ st h => wpAny_pyIter_tupleiter st h
end L2

namespace L2
open PySem PySem.Spec PyProof.Rows
section
variable {X : Cx} {tg : Expr}
def iList (K : PySem.W.Frag) (tl : TE) : TI := fun σ H R => tl σ H fun x H1 => ∃ a, x = .ref a ∧ (∃ xs, SqL K H1 a xs) ∧ R (Itl K a) H1
def iTup (K : PySem.W.Frag) (tl : TE) : TI := fun σ H R => tl σ H fun x H1 => ∃ a, x = .ref a ∧ (∃ xs, SqT K H1 a xs) ∧ R (Itt K a) H1
theorem pi_list {l : Expr} {tl : TE} (hl : PE X l tl) : PI X tg l (iList X.K tl) := by
  intro pins s σ H R I h
  refine thn (hl pins s σ H _ I h) fun v s1 ⟨x, H1, I1, r1, q1⟩ => ?_
  obtain ⟨a, e, ⟨xs, hq⟩, q⟩ := q1
  subst e
  cases r1
  obtain ⟨its, rv, p, hz⟩ := I1.list hq
  refine wpAny_pyIter_list p.isList ?_
  refine ⟨s1.heap.objs.size, [s1.heap.objs.size], _, _, H1, rfl, I1.kept (t' := s1.toks) fun b o e => Heap.get?_push_of_some _ e, turn_list a _, ⟨_, Heap.get?_push_size _ rfl, rfl, rfl⟩, fun b hb => ?_, q⟩
  have e : b = s1.heap.objs.size := by simpa using hb
  subst e
  exact I1.fpOk (Nat.le_refl _) (I1.hok.fresh (Nat.le_refl _))
theorem pi_tup {l : Expr} {tl : TE} (hl : PE X l tl) : PI X tg l (iTup X.K tl) := by
  intro pins s σ H R I h
  refine thn (hl pins s σ H _ I h) fun v s1 ⟨x, H1, I1, r1, q1⟩ => ?_
  obtain ⟨a, e, ⟨xs, hq⟩, q⟩ := q1
  subst e
  cases r1
  obtain ⟨its, rv, p, hz⟩ := I1.tuple hq
  refine wpAny_pyIter_tuple (show s1.heap.IsTuple a its.toArray from p) ?_
  refine ⟨s1.heap.objs.size, [s1.heap.objs.size], _, _, H1, rfl, I1.kept (t' := s1.toks) fun b o e => Heap.get?_push_of_some _ e, turn_tuple a _, ⟨_, Heap.get?_push_size _ rfl, rfl, rfl⟩, fun b hb => ?_, q⟩
  have e : b = s1.heap.objs.size := by simpa using hb
  subst e
  exact I1.fpOk (Nat.le_refl _) (I1.hok.fresh (Nat.le_refl _))
def tFor (wi : TI) (g : TG) (tb : TS) : TS := fun D σ H => wi σ H fun J H1 => ∃ W : Nat → Nat → St → Hp → Prop, (∃ m, W 0 m σ H1) ∧ ∀ i m σ H, W i m σ H →
  (J.stop i H ∧ D.nx σ H) ∨ (J.go i H ∧ ∃ N : St → Hp → Prop, (∀ σ' H', N σ' H' → ∃ m', m' < m ∧ W (i + 1) m' σ' H') ∧ ∀ x H', J.yld i H x H' → g x σ H' fun σ2 H2 => tb { D with nx := N, ct := N, bk := D.nx } σ2 H2)
def pinsAt (fp : List Addr) (h : Heap) : List (Addr × Obj) := fp.filterMap fun b => (h.get? b).map fun o => (b, o)
theorem mem_pinsAt {fp : List Addr} {h : Heap} {b : Addr} {o : Obj} (hb : b ∈ fp) (e : h.get? b = some o) : (b, o) ∈ pinsAt fp h := List.mem_filterMap.mpr ⟨b, hb, by rw [e]; rfl⟩
theorem of_pinsAt {fp : List Addr} {h : Heap} {p : Addr × Obj} (hp : p ∈ pinsAt fp h) : p.1 ∈ fp ∧ h.get? p.1 = some p.2 := by
  obtain ⟨b, hb, e⟩ := List.mem_filterMap.mp hp
  cases q : h.get? b with
  | none => rw [q] at e; cases e
  | some o =>
    rw [q] at e
    have e' : (b, o) = p := Option.some.inj e
    subst e'
    exact ⟨hb, q⟩
theorem Inv.pinned {pins : List (Addr × Obj)} {σ : St} {H : Hp} {s : Shared} {fp : List Addr} (I : Inv X pins σ H s) (hf : ∀ b ∈ fp, FpOk X pins H b) (ho : ∀ b ∈ fp, ∃ o, s.heap.get? b = some o ∧ ∀ v, o.data ≠ .cell v) : Inv X (pins ++ pinsAt fp s.heap) σ H s :=
  I.pins_of fun p hp => (List.mem_append.mp hp).elim (fun z => I.pin p (List.mem_append_right _ z)) fun z => by
    obtain ⟨hb, e⟩ := of_pinsAt z
    obtain ⟨f0, f1, f2, _⟩ := hf p.1 hb
    obtain ⟨o, e', d⟩ := ho p.1 hb
    rw [e] at e'; cases e'
    exact ⟨e, f0, f1, f2, d⟩
theorem Inv.unpinned {pins pl : List (Addr × Obj)} {σ : St} {H : Hp} {s : Shared} (I : Inv X (pins ++ pl) σ H s) : Inv X pins σ H s := I.pins_of fun p hp => I.pin p (List.mem_append_right _ (List.mem_append_left _ hp))
theorem ps_for {iter : Expr} {body : List Stmt} {wi : TI} {g : TG} {tb : TS} {pos : Pos} (hp : PassesOwn (model X.prog X.w) X.A X.env X.xe) (hc : X.calm = true) (hi : PI X tg iter wi) (hg : PG X tg g) (hb : PSs X body tb)
    (hs : ∀ x, foldedSetIterable iter X.env x = pure x := by intro _; rfl) : PS X (.For tg iter body [] pos) (tFor wi g tb) := by
  intro pins s σ H D I h
  refine wpAny_For (thn (hi pins s σ H _ I h) fun v s1 h1 => thn h1 fun itv s2 h2 => ?_) hs
  obtain ⟨it, fp, tn, J, H2, e, I2, T, st2, f2, W, ⟨m0, w0⟩, turn⟩ := h2
  subst e
  -- what stays true of the iterator's objects through the loop
  have stat : ∀ {H' : Hp}, (∀ b ∈ fp, H' b = none) → ∀ b ∈ fp, FpOk X pins H' b := fun hn b hb => ⟨hn b hb, (f2 b hb).2⟩
  refine codeAny_forLoop_any (fun n s' => ∃ i σ' H', Inv X pins σ' H' s' ∧ tn i s'.heap ∧ (∀ b ∈ fp, H' b = none) ∧ W i n σ' H') ?_ m0 ⟨0, σ, H2, I2, st2, fun b hb => (f2 b hb).1, w0⟩
  rintro n s3 ⟨i, σ3, H3, I3, st3, fr3, w3⟩
  rcases turn i n σ3 H3 w3 with ⟨stop, qn⟩ | ⟨go, N, hN, step⟩
  · refine wpAny_passesOwn hp (thn (T.done X rfl rfl rfl hc i pins s3 σ3 H3 X.xe I3 (stat fr3) st3 stop) fun r s4 ⟨hr, I4⟩ => ?_)
    subst hr
    exact wpAny_execs_nil ⟨σ3, H3, I4, qn⟩
  · refine wpAny_passesOwn hp (thn (T.item X rfl rfl rfl hc i pins s3 σ3 H3 X.xe I3 (stat fr3) st3 go) fun r s4 ⟨u, hr, h4⟩ => ?_)
    subst hr
    refine wpAny_passesOwn hp (thn h4 fun _ s5 ⟨x, H5, I5, r5, y5, st5, fr5⟩ => ?_)
    have I5' := I5.pinned (stat fr5) (T.obj _ _ st5)
    refine wpAny_passesOwn hp (thn (hg _ s5 σ3 H5 x u _ I5' r5 (step x H5 y5)) fun _ s6 ⟨σ6, H6, I6, q6⟩ => ?_)
    refine wpAny_passesOwn hp (thn (hb _ s6 σ6 H6 _ I6 q6) fun f s7 q7 => ?_)
    have again : ∀ {σ7 : St} {H7 : Hp}, Inv X (pins ++ pinsAt fp s5.heap) σ7 H7 s7 → N σ7 H7 → ∃ m, m < n ∧ ∃ i σ' H', Inv X pins σ' H' s7 ∧ tn i s7.heap ∧ (∀ b ∈ fp, H' b = none) ∧ W i m σ' H' := fun {σ7 H7} I7 n7 => by
      obtain ⟨m', hm, w7⟩ := hN σ7 H7 n7
      refine ⟨m', hm, i + 1, σ7, H7, I7.unpinned, T.keep _ _ _ st5 fun b hb o e => (I7.pin (b, o) (List.mem_append_right _ (List.mem_append_right _ (mem_pinsAt hb e)))).1, fun b hb => ?_, w7⟩
      obtain ⟨o, e, d⟩ := T.obj _ _ st5 b hb
      exact (I7.pin (b, o) (List.mem_append_right _ (List.mem_append_right _ (mem_pinsAt hb e)))).2.1
    cases f with
    | next => obtain ⟨σ7, H7, I7, n7⟩ := q7; exact again I7 n7
    | cont => obtain ⟨σ7, H7, I7, n7⟩ := q7; exact again I7 n7
    | brk => obtain ⟨σ7, H7, I7, q7⟩ := q7; exact ⟨σ7, H7, I7.unpinned, q7⟩
    | ret v => obtain ⟨x7, σ7, H7, I7, r7, q7⟩ := q7; exact ⟨x7, σ7, H7, I7.unpinned, r7, q7⟩
end

theorem for_list {K : PySem.W.Frag} {a : Addr} {xs : List V} {g : TG} {tb : TS} {D : Ends} {σ : St} {H : Hp} (Pv : Nat → St → Hp → Prop) (h0 : Pv 0 σ H) (hl : ∀ i σ H, i ≤ xs.length → Pv i σ H → SqL K H a xs)
    (hs : ∀ i x σ H, xs[i]? = some x → Pv i σ H → g x σ H fun σ2 H2 => tb { D with nx := Pv (i + 1), ct := Pv (i + 1), bk := D.nx } σ2 H2) (hd : ∀ σ H, Pv xs.length σ H → D.nx σ H) :
    ∃ W : Nat → Nat → St → Hp → Prop, (∃ m, W 0 m σ H) ∧ ∀ i m σ H, W i m σ H →
      ((Itl K a).stop i H ∧ D.nx σ H) ∨ ((Itl K a).go i H ∧ ∃ N : St → Hp → Prop, (∀ σ' H', N σ' H' → ∃ m', m' < m ∧ W (i + 1) m' σ' H') ∧ ∀ x H', (Itl K a).yld i H x H' → g x σ H' fun σ2 H2 => tb { D with nx := N, ct := N, bk := D.nx } σ2 H2) := by
  refine ⟨fun i m σ H => m = xs.length - i ∧ i ≤ xs.length ∧ Pv i σ H, ⟨xs.length, by simp, Nat.zero_le _, h0⟩, ?_⟩
  rintro i m σ H ⟨rfl, hi, p⟩
  have q := hl i σ H hi p
  by_cases hlt : i < xs.length
  · refine .inr ⟨⟨xs, xs[i], q, by simp [hlt]⟩, Pv (i + 1), fun σ' H' p' => ⟨xs.length - (i + 1), by omega, rfl, hlt, p'⟩, fun x H' y => ?_⟩
    obtain ⟨e, y⟩ := y
    subst e
    exact hs i x σ _ (y xs q) p
  · have e : i = xs.length := by omega
    subst e
    exact .inl ⟨⟨xs, q, Nat.le_refl _⟩, hd σ H p⟩
end L2

namespace L2
open PySem PySem.Spec PyProof.Rows

abbrev R2 := V → V → Hp → VK → Prop
def OpR (X : Cx) (f : Value → Value → Sem Value) (r : R2) : Prop :=
  ∀ (pins : List (Addr × Obj)) (s : Shared) (σ : St) (H : Hp) (x y : V) (v u : Value) (Q : VK), Inv X pins σ H s → RelV x v → RelV y u → r x y H Q →
    wpAny (model X.prog X.w) X.A (f v u) (EP X pins σ Q) X.xe s
def UnR (X : Cx) (f : Value → Sem Value) (r : V → Hp → VK → Prop) : Prop :=
  ∀ (pins : List (Addr × Obj)) (s : Shared) (σ : St) (H : Hp) (x : V) (v : Value) (Q : VK), Inv X pins σ H s → RelV x v → r x H Q →
    wpAny (model X.prog X.w) X.A (f v) (EP X pins σ Q) X.xe s
def CallR (X : Cx) (f : Value) (r : List V → Hp → VK → Prop) : Prop :=
  ∀ (pins : List (Addr × Obj)) (s : Shared) (σ : St) (H : Hp) (xs : List V) (us : List Value) (Q : VK), Inv X pins σ H s → Vals xs us → r xs H Q →
    wpAny (model X.prog X.w) X.A (call f us) (EP X pins σ Q) X.xe s
def tOp (r : R2) (ta tb : TE) : TE := fun σ H Q => ta σ H fun x H1 => tb σ H1 fun y H2 => r x y H2 Q
def tUn (r : V → Hp → VK → Prop) (ta : TE) : TE := fun σ H Q => ta σ H fun x H1 => r x H1 Q
def rI (C : Int → Int → Prop) (g : Int → Int → V) : R2 := fun x y H Q => ∃ i j, x = .int i ∧ y = .int j ∧ C i j ∧ Q (g i j) H
def rI0 (g : Int → Int → V) : R2 := fun x y H Q => ∃ i j, x = .int i ∧ y = .int j ∧ Q (g i j) H
def rU (g : Int → V) : V → Hp → VK → Prop := fun x H Q => ∃ i, x = .int i ∧ Q (g i) H

section
variable {X : Cx} {a b c : Expr} {ta tb tc : TE} {pos : Pos}

theorem binT (ha : PE X a ta) (hb : PE X b tb) {pins : List (Addr × Obj)} {s : Shared} {σ : St} {H : Hp} {R : V → V → Hp → Prop} (I : Inv X pins σ H s)
    (h : ta σ H fun x H1 => tb σ H1 fun y H2 => R x y H2) {Q : Value → Shared → Prop} {f : Value → Value → Sem Value}
    (hf : ∀ v u s2 x y H2, Inv X pins σ H2 s2 → RelV x v → RelV y u → R x y H2 → wpAny (model X.prog X.w) X.A (f v u) Q X.xe s2) :
    wpAny (model X.prog X.w) X.A (eval a X.env) (fun v s₁ => wpAny (model X.prog X.w) X.A (eval b X.env) (fun u s₂ => wpAny (model X.prog X.w) X.A (f v u) Q X.xe s₂) X.xe s₁) X.xe s := by
  refine thn (ha pins s σ H _ I h) fun v s1 ⟨x, H1, I1, r1, q1⟩ => ?_
  refine thn (hb pins s1 σ H1 _ I1 q1) fun u s2 ⟨y, H2, I2, r2, q2⟩ => ?_
  exact hf v u s2 x y H2 I2 r1 r2 q2

theorem pe_op {op : Operator} {r : R2} (ho : OpR X (binaryOp op) r) (ha : PE X a ta) (hb : PE X b tb) : PE X (.BinOp a op b pos) (tOp r ta tb) := by
  intro pins s σ H Q I h
  exact wpAny_BinOp (binT ha hb I h fun v u s2 x y H2 I2 rx ry q => ho pins s2 σ H2 x y v u Q I2 rx ry q)
theorem pe_un {op : UnaryOp} {r : V → Hp → VK → Prop} (ho : UnR X (unaryOp op) r) (ha : PE X a ta) : PE X (.UnaryOp op a pos) (tUn r ta) := by
  intro pins s σ H Q I h
  exact UnaryOp_ (thn (ha pins s σ H _ I h) fun v s1 ⟨x, H1, I1, r1, q1⟩ => ho pins s1 σ H1 x v Q I1 r1 q1)
theorem opI {f : Value → Value → Sem Value} {C : Int → Int → Prop} {g : Int → Int → Int}
    (rule : ∀ (i j : Int) (t u : Tok) (s : Shared) (Q : Value → Shared → Prop) (E : Value → Shared → Prop), C i j → Q (.int (g i j) s.toks) { s with toks := s.toks + 1 } → wpAny (model X.prog X.w) X.A (f (.int i t) (.int j u)) Q E s) :
    OpR X f (rI C fun i j => .int (g i j)) := by
  intro pins s σ H x y v u Q I rx ry h
  obtain ⟨i, j, rfl, rfl, hc, q⟩ := h
  obtain ⟨t, rfl⟩ := rx
  obtain ⟨t', rfl⟩ := ry
  exact rule i j t t' s _ _ hc ⟨.int (g i j), H, I.tok _, ⟨_, rfl⟩, q⟩
theorem opI0 {f : Value → Value → Sem Value} {g : Int → Int → Int}
    (rule : ∀ (i j : Int) (t u : Tok) (s : Shared) (Q : Value → Shared → Prop) (E : Value → Shared → Prop), Q (.int (g i j) s.toks) { s with toks := s.toks + 1 } → wpAny (model X.prog X.w) X.A (f (.int i t) (.int j u)) Q E s) :
    OpR X f (rI0 fun i j => .int (g i j)) := by
  intro pins s σ H x y v u Q I rx ry h
  obtain ⟨i, j, rfl, rfl, q⟩ := h
  obtain ⟨t, rfl⟩ := rx
  obtain ⟨t', rfl⟩ := ry
  exact rule i j t t' s _ _ ⟨.int (g i j), H, I.tok _, ⟨_, rfl⟩, q⟩
theorem opB0 {f : Value → Value → Sem Value} {g : Int → Int → Bool}
    (rule : ∀ (i j : Int) (t u : Tok) (s : Shared) (Q : Value → Shared → Prop) (E : Value → Shared → Prop), Q (.bool (g i j)) s → wpAny (model X.prog X.w) X.A (f (.int i t) (.int j u)) Q E s) :
    OpR X f (rI0 fun i j => .bl (g i j)) := by
  intro pins s σ H x y v u Q I rx ry h
  obtain ⟨i, j, rfl, rfl, q⟩ := h
  obtain ⟨t, rfl⟩ := rx
  obtain ⟨t', rfl⟩ := ry
  exact rule i j t t' s _ _ ⟨.bl (g i j), H, I, rfl, q⟩

def CDiv (i j : Int) : Prop := 0 < j ∧ j < 1073741824
def CPow (i j : Int) : Prop := 0 ≤ j ∧ j ≤ 1000000 ∧ i.natAbs < 2 ^ 64
def CMul (i j : Int) : Prop := (-(2 ^ 64) < i ∧ i < 2 ^ 64) ∨ (-(2 ^ 64) < j ∧ j < 2 ^ 64)
theorem CMul.ok {i j : Int} (h : CMul i j) : IntMulOk i j := by
  rcases h with ⟨h1, h2⟩ | ⟨h1, h2⟩
  · exact .of_left (intBits_le_64 h1 h2)
  · exact .of_right (intBits_le_64 h1 h2)
theorem op_add : OpR X (binaryOp .Add) (rI0 fun i j => .int (i + j)) := opI0 fun _ _ _ _ _ _ _ q => add_int q
theorem op_sub : OpR X (binaryOp .Sub) (rI0 fun i j => .int (i - j)) := opI0 fun _ _ _ _ _ _ _ q => sub_int q
theorem op_mul : OpR X (binaryOp .Mult) (rI CMul fun i j => .int (i * j)) := opI fun _ _ _ _ _ _ _ hc q => mul_int q hc.ok
theorem op_fdiv : OpR X (binaryOp .FloorDiv) (rI CDiv fun i j => .int (i / j)) := opI fun i j _ _ _ _ _ hc q => by
  have h1 : (0 : Int) < j := hc.1
  have h2 : j < 1073741824 := hc.2
  exact floordiv_int (by omega) (by rw [Int.fdiv_eq_ediv_of_nonneg i (by omega)]; exact q) (.inl (PyProof.noPylong_small (by omega)))
theorem op_mod : OpR X (binaryOp .Mod) (rI (fun _ j => 0 < j) fun i j => .int (i % j)) := opI fun i j _ _ _ _ _ hc q => by
  have h1 : (0 : Int) < j := hc
  exact mod_int' (by omega) (by rw [Int.fmod_eq_emod_of_nonneg i (by omega)]; exact q)
theorem op_pow : OpR X (binaryOp .Pow) (rI CPow fun i j => .int (i ^ j.toNat)) := opI fun _ _ _ _ _ _ _ hc q => pow_int_small hc.1 hc.2.1 hc.2.2 q
theorem unI {f : Value → Sem Value} {g : Int → Int}
    (rule : ∀ (i : Int) (t : Tok) (s : Shared) (Q : Value → Shared → Prop) (E : Value → Shared → Prop), Q (.int (g i) s.toks) { s with toks := s.toks + 1 } → wpAny (model X.prog X.w) X.A (f (.int i t)) Q E s) :
    UnR X f (rU fun i => .int (g i)) := by
  intro pins s σ H x v Q I rx h
  obtain ⟨i, rfl, q⟩ := h
  obtain ⟨t, rfl⟩ := rx
  exact rule i t s _ _ ⟨.int (g i), H, I.tok _, ⟨_, rfl⟩, q⟩
theorem un_neg : UnR X (unaryOp .USub) (rU fun i => .int (-i)) := unI fun _ _ _ _ _ q => neg_int q
end

def scal : V → V → Bool
  | .non, .non => true | .non, .int _ => true | .int _, .non => true | .non, .bl _ => true | .bl _, .non => true | .non, .str _ => true | .str _, .non => true
  | .int _, .int _ => true | .bl _, .bl _ => true | .str _, .str _ => true | .byt _, .byt _ => true
  | .int _, .str _ => true | .str _, .int _ => true | .bl _, .str _ => true | .str _, .bl _ => true
  | _, _ => false
def rEq : R2 := fun x y H Q => scal x y = true ∧ Q (.bl (decide (x = y))) H
def rNe : R2 := fun x y H Q => scal x y = true ∧ Q (.bl (!decide (x = y))) H

theorem dec_int {i j : Int} : decide (V.int i = V.int j) = (i == j) := by
  rw [Bool.eq_iff_iff]
  simp
theorem dec_bl {i j : Bool} : decide (V.bl i = V.bl j) = (i == j) := by
  rw [Bool.eq_iff_iff]
  simp
theorem dec_str {i j : Str} : decide (V.str i = V.str j) = (i == j) := by
  rw [Bool.eq_iff_iff]
  simp
theorem dec_byt {i j : Array UInt8} : decide (V.byt i = V.byt j) = (i.toList == j.toList) := by
  rw [Bool.eq_iff_iff]
  cases i
  cases j
  simp

section
variable {X : Cx} {a b c : Expr} {ta tb tc : TE} {pos : Pos}
theorem fin_bl {pins : List (Addr × Obj)} {σ : St} {H : Hp} {s : Shared} {Q : VK} {k k' : Bool} (I : Inv X pins σ H s) (q : Q (.bl k) H) (e : k = k') : EP X pins σ Q (.bool k') s := by
  subst e
  exact ⟨.bl k, H, I, rfl, q⟩
theorem op_eq : OpR X (compareOp .Eq) rEq := by
  intro pins s σ H x y v u Q I rx ry h
  obtain ⟨hs, q⟩ := h
  cases x with
  | non =>
    cases rx
    cases y with
    | non => cases ry; exact PySem.EqNone.eq_none_none (fin_bl I q (by simp))
    | bl j => cases ry; exact PySem.EqNone.eq_none_bool (fin_bl I q (by simp))
    | int j => obtain ⟨t', rfl⟩ := ry; exact PySem.EqNone.eq_none_int (fin_bl I q (by simp))
    | str j => obtain ⟨t', rfl⟩ := ry; exact PySem.EqNone.eq_none_str (fin_bl I q (by simp))
    | _ => exact absurd (show false = true from hs) Bool.false_ne_true
  | bl i =>
    cases rx
    cases y with
    | non => cases ry; exact PySem.EqNone.eq_bool_none (fin_bl I q (by simp))
    | bl j => cases ry; exact eq_bool (fin_bl I q dec_bl)
    | str j => obtain ⟨t', rfl⟩ := ry; exact PySem.EqMixed.eq_bool_str (fin_bl I q (by simp))
    | _ => exact absurd (show false = true from hs) Bool.false_ne_true
  | int i =>
    obtain ⟨t, rfl⟩ := rx
    cases y with
    | non => cases ry; exact PySem.EqNone.eq_int_none (fin_bl I q (by simp))
    | int j => obtain ⟨t', rfl⟩ := ry; exact eq_int (fin_bl I q dec_int)
    | str j => obtain ⟨t', rfl⟩ := ry; exact PySem.EqMixed.eq_int_str (fin_bl I q (by simp))
    | _ => exact absurd (show false = true from hs) Bool.false_ne_true
  | str i =>
    obtain ⟨t, rfl⟩ := rx
    cases y with
    | non => cases ry; exact PySem.EqNone.eq_str_none (fin_bl I q (by simp))
    | bl j => cases ry; exact PySem.EqMixed.eq_str_bool (fin_bl I q (by simp))
    | int j => obtain ⟨t', rfl⟩ := ry; exact PySem.EqMixed.eq_str_int (fin_bl I q (by simp))
    | str j => obtain ⟨t', rfl⟩ := ry; exact eq_str (fin_bl I q dec_str)
    | _ => exact absurd (show false = true from hs) Bool.false_ne_true
  | byt i =>
    obtain ⟨t, rfl⟩ := rx
    cases y with
    | byt j => obtain ⟨t', rfl⟩ := ry; exact PySem.W.eq_bytes (fin_bl I q dec_byt)
    | _ => exact absurd (show false = true from hs) Bool.false_ne_true
  | _ => cases y <;> exact absurd (show false = true from hs) Bool.false_ne_true
theorem op_ne : OpR X (compareOp .NotEq) rNe := by
  intro pins s σ H x y v u Q I rx ry h
  obtain ⟨hs, q⟩ := h
  cases x with
  | non =>
    cases rx
    cases y with
    | non => cases ry; exact PySem.EqNone.ne_none_none (fin_bl I q (by simp))
    | bl j => cases ry; exact PySem.EqNone.ne_none_bool (fin_bl I q (by simp))
    | int j => obtain ⟨t', rfl⟩ := ry; exact PySem.EqNone.ne_none_int (fin_bl I q (by simp))
    | str j => obtain ⟨t', rfl⟩ := ry; exact PySem.EqNone.ne_none_str (fin_bl I q (by simp))
    | _ => exact absurd (show false = true from hs) Bool.false_ne_true
  | bl i =>
    cases rx
    cases y with
    | non => cases ry; exact PySem.EqNone.ne_bool_none (fin_bl I q (by simp))
    | bl j => cases ry; exact ne_bool (fin_bl I q (congrArg not dec_bl))
    | str j => obtain ⟨t', rfl⟩ := ry; exact PySem.EqMixed.ne_bool_str (fin_bl I q (by simp))
    | _ => exact absurd (show false = true from hs) Bool.false_ne_true
  | int i =>
    obtain ⟨t, rfl⟩ := rx
    cases y with
    | non => cases ry; exact PySem.EqNone.ne_int_none (fin_bl I q (by simp))
    | int j => obtain ⟨t', rfl⟩ := ry; exact ne_int (fin_bl I q (congrArg not dec_int))
    | str j => obtain ⟨t', rfl⟩ := ry; exact PySem.EqMixed.ne_int_str (fin_bl I q (by simp))
    | _ => exact absurd (show false = true from hs) Bool.false_ne_true
  | str i =>
    obtain ⟨t, rfl⟩ := rx
    cases y with
    | non => cases ry; exact PySem.EqNone.ne_str_none (fin_bl I q (by simp))
    | bl j => cases ry; exact PySem.EqMixed.ne_str_bool (fin_bl I q (by simp))
    | int j => obtain ⟨t', rfl⟩ := ry; exact PySem.EqMixed.ne_str_int (fin_bl I q (by simp))
    | str j => obtain ⟨t', rfl⟩ := ry; exact ne_str (fin_bl I q (congrArg not dec_str))
    | _ => exact absurd (show false = true from hs) Bool.false_ne_true
  | byt i =>
    obtain ⟨t, rfl⟩ := rx
    cases y with
    | byt j => obtain ⟨t', rfl⟩ := ry; exact PySem.W.ne_bytes (fin_bl I q (congrArg not dec_byt))
    | _ => exact absurd (show false = true from hs) Bool.false_ne_true
  | _ => cases y <;> exact absurd (show false = true from hs) Bool.false_ne_true

theorem op_lt : OpR X (compareOp .Lt) (rI0 fun i j => .bl (decide (i < j))) := opB0 fun _ _ _ _ _ _ _ q => lt_int q
theorem op_le : OpR X (compareOp .LtE) (rI0 fun i j => .bl (decide (i ≤ j))) := opB0 fun _ _ _ _ _ _ _ q => le_int q
theorem op_gt : OpR X (compareOp .Gt) (rI0 fun i j => .bl (decide (j < i))) := opB0 fun _ _ _ _ _ _ _ q => gt_int q
theorem op_ge : OpR X (compareOp .GtE) (rI0 fun i j => .bl (decide (j ≤ i))) := opB0 fun _ _ _ _ _ _ _ q => ge_int q
theorem nomark (b : Expr) {op : CmpOp} (h : op ≠ .In := by decide) (h2 : op ≠ .NotIn := by decide) : behindInMarks op b = false := by
  have e1 : (op == CmpOp.In) = false := by cases op <;> first | rfl | exact absurd rfl h
  have e2 : (op == CmpOp.NotIn) = false := by cases op <;> first | rfl | exact absurd rfl h2
  cases b <;> simp [behindInMarks, e1, e2]
theorem pe_cmpR {op : CmpOp} {r : R2} (ho : OpR X (compareOp op) r) (ha : PE X a ta) (hb : PE X b tb) (hm : behindInMarks op b = false) : PE X (.Compare a [op] [b] pos) (tOp r ta tb) := by
  intro pins s σ H Q I h
  exact wpAny_Compare1 (binT ha hb I h fun v u s2 x y H2 I2 rx ry q => ho pins s2 σ H2 x y v u Q I2 rx ry q) hm
def tTest (t : TE) : TT := fun σ H Q => t σ H fun x H' => ∃ k, x = .bl k ∧ Q k H'
theorem pt_cmpR {op : CmpOp} {r : R2} (ho : OpR X (compareOp op) r) (ha : PE X a ta) (hb : PE X b tb) (hm : behindInMarks op b = false) : PT X (.Compare a [op] [b] pos) (tTest (tOp r ta tb)) := by
  intro pins s σ H Q I h
  refine wpAny_isTrue_Compare1 (thn (ha pins s σ H _ I h) fun v s1 ⟨x, H1, I1, r1, q1⟩ => thn (hb pins s1 σ H1 _ I1 q1) fun u s2 ⟨y, H2, I2, r2, q2⟩ =>
    thn (ho pins s2 σ H2 x y v u _ I2 r1 r2 q2) fun c s3 ⟨z, H3, I3, r3, k, e, q3⟩ => ?_) hm
  subst e
  cases r3
  exact wpAny_truthy_bool ⟨H3, I3, q3⟩
theorem line63 : (sizeLine : Nat) < 2 ^ 63 := by rw [sizeLine_eq]; decide
theorem vals1 {x : V} {us : List Value} (r : Vals [x] us) : ∃ u, us = [u] ∧ RelV x u := by
  cases r with
  | cons r1 r2 => cases r2; exact ⟨_, rfl, r1⟩
end
end L2

namespace L2
open PySem PySem.Spec PyProof.Rows

structure ObjM (h : Heap) (x dx C : Addr) (mA : Str → Option Value) : Prop where
  obj : h.get? x = some (PySem.W.instObj C dx)
  ns : h.Ns1 dx mA
  ne : dx ≠ x

theorem lookIn_ns {h : Heap} {dx : Addr} {mA : Str → Option Value} (n : h.Ns1 dx mA) : ∃ od, h.get? dx = some od ∧ ∀ name, PySem.W.lookIn name od = some (mA name) := by
  obtain ⟨o, es, ep, ho, hd, hk, _, hm⟩ := n
  refine ⟨o, ho, fun name => ?_⟩
  have e := hm name
  unfold nsFind findBy at e
  rw [← Array.find?_toList] at e
  unfold PySem.W.lookIn
  rw [hd]
  dsimp only
  split
  · rename_i y q
    rw [q] at e
    exact congrArg some e
  · rename_i q
    rw [q] at e
    have a : es.toList.any (·.refKey) = false := by
      rw [List.any_eq_false]
      intro y hy
      obtain ⟨z, t, hkey⟩ := hk y (Array.mem_toList_iff.mp hy)
      simp [DictEntry.refKey, hkey]
    have a' : ¬ es.toList.any (·.refKey) = true := by rw [a]; exact Bool.false_ne_true
    rw [if_neg a']
    exact congrArg some e

theorem ObjM.look {h : Heap} {x dx C : Addr} {mA : Str → Option Value} (I : ObjM h x dx C mA) : ∃ od, PySem.W.InstAt h x (PySem.W.instObj C dx) C (some od) ∧ ∀ name, PySem.W.lookIn name od = some (mA name) :=
  let ⟨od, ho, hl⟩ := lookIn_ns I.ns
  ⟨od, ⟨I.obj, rfl, rfl, ho⟩, hl⟩

section
variable {prog : Program} {w : World} {A : Around} {E : Value → Shared → Prop} {s : Shared} {K : PySem.W.Frag} {x dx C f : Addr} {mA : Str → Option Value} {name : Str} {v : Value}

theorem get_map {expr : Bool} {Q : Value → Shared → Prop} (X : K.In s.heap) (I : ObjM s.heap x dx C mA) (hg : PySem.W.plainGet K C name = true) (hh : PySem.W.hasDictIn K C = true)
    (ha : PySem.W.findIn K (.ref C) name = some none) (hv : mA name = some v) (hv' : PySem.W.handedIn v = true) (h : Q v { s with toks := s.toks + 1 }) :
    wpAny (model prog w) A (getAttr (.ref x) name expr) Q E s := by
  obtain ⟨od, J, hl⟩ := I.look
  exact PySem.W.get_value X J (PySem.W.plainGet_of hg).1 (PySem.W.findObj_own hh ha rfl (by rw [hl, hv])) hv' h

theorem get_meth {pl : Sem Bool} {Q : Value × List Value → Shared → Prop} (X : K.In s.heap) (I : ObjM s.heap x dx C mA) (hg : PySem.W.plainGet K C name = true)
    (hf : PySem.W.findIn K (.ref C) name = some (some (.ref f))) (ht : PySem.W.isFn K (.ref f) = true) (hv : mA name = none) (h : Q (.ref f, [.ref x]) s) :
    wpAny (model prog w) A (getMethod (.ref x) name pl) Q E s := by
  obtain ⟨od, J, hl⟩ := I.look
  exact PySem.W.method_fn X J (PySem.W.plainGet_of hg).1 (PySem.W.plainGet_of hg).2 hf (beq_iff_eq.mp ht) (by show (PySem.W.lookIn name od).map (·.isSome) = some false; rw [hl, hv]; rfl) h

theorem set_map {ns : List Str} {Q : Unit → Shared → Prop} (X : K.In s.heap) (I : ObjM s.heap x dx C mA)
    (hs : PySem.W.findIn K (.ref C) "__setattr__" = some (some (.builtin "object.__setattr__"))) (hp : PySem.W.plainOver K C = true) (ht : PySem.W.takerIn K C name = some none) (hh : PySem.W.hasDictIn K C = true)
    (hw : PySem.Within mA ns) (hsz : ns.length ≤ sizeLine)
    (h : ∀ h', ObjM h' x dx C (fun y => if y = name then some v else mA y) → Heap.SameBut dx s.heap h' → Q () { s with heap := h', toks := s.toks + 2 }) :
    wpAny (model prog w) A (setAttr (.ref x) name v) Q E s := by
  obtain ⟨od, J, hl⟩ := I.look
  refine PySem.W.set_plain X J hs (PySem.W.osa_open (s := { s with toks := s.toks + 1 }) (r := none) X J hp ht fun b => ?_)
  obtain ⟨cd, hc, hd'⟩ := PySem.W.any_some hh
  have hx : s.heap.get? x = some ⟨.ref C, some dx, .plain, #[]⟩ := I.obj
  refine wpAny_bind (wpAny_pure (wpAny_bind (wpAny_bind (wpAny_loadPart hx (wpAny_bind (PySem.W.Looks.here (s := { s with toks := s.toks + 1 }) (PySem.W.looks_clsIn X hc) ?_))))))
  rw [hd']
  refine wpAny_pure (a := some dx) (wpAny_bind (wpAny_pure (wpAny_bind ?_)))
  refine wpAny_nsSet1 (s := { s with toks := s.toks + 1 }) I.ns fun h' hn2 hs2 => ?_
  obtain ⟨oD, esD, epD, hoD, hdD, hcD⟩ := hn2.count (PySem.Within.cons name v hw)
  refine wpAny_bind (wpAny_lookBehind hoD (by rw [hdD]; exact pastItsLine_dict (Nat.le_trans hcD (by rw [List.length_cons]; omega))) ?_)
  exact wpAny_pure (h _ ⟨(hs2.2 _ (Ne.symm I.ne)).trans I.obj, hn2, I.ne⟩ hs2)

theorem make_map {R : Result → Shared → Prop} {vs : List Value} {kw : List (Str × Value)} (X : K.In s.heap) (hm : PySem.W.makesIn K C = true)
    (hi : PySem.W.findIn K (.ref C) "__init__" = some (some (.ref f))) (hf : PySem.W.typeIn K (.ref f) = some (.type "function"))
    (h : codeAny (model prog w) (A.under (.builtin "type.__call__" ⟨.ref C :: vs, kw⟩)) (.call (.ref f) ⟨.ref (s.heap.objs.size + 1) :: vs, kw⟩) (PySem.W.InitBack (s.heap.objs.size + 1) R)
      { s with heap := (s.heap.push PySem.W.emptyDict).push (PySem.W.instObj C s.heap.objs.size) }) :
    codeAny (model prog w) A (.call (.ref C) ⟨vs, kw⟩) R s := by
  obtain ⟨hh, g, d, t, os⟩ := s
  exact PySem.W.make_core (PySem.W.makes_of X hm) (PySem.W.looks_findIn X hi) (fun self => PySem.W.bind_fn X self hf) (.inl rfl) h
end

def putF (f : Str) (v : V) : List (Str × V) → List (Str × V)
  | [] => [(f, v)]
  | (g, x) :: r => if g = f then (g, v) :: r else (g, x) :: putF f v r
theorem lookup_putF (f g : Str) (v : V) : ∀ fs : List (Str × V), (putF f v fs).lookup g = if g = f then some v else fs.lookup g
  | [] => by
    show List.lookup g [(f, v)] = _
    by_cases h : g = f
    · have hb : (g == f) = true := beq_iff_eq.mpr h
      simp only [List.lookup, hb, if_pos h]
    · have hb : (g == f) = false := beq_eq_false_iff_ne.mpr h
      simp only [List.lookup, hb, if_neg h]
  | (k, x) :: r => by
    have ih := lookup_putF f g v r
    rw [show putF f v ((k, x) :: r) = (if k = f then (k, v) :: r else (k, x) :: putF f v r) from rfl]
    by_cases hk : k = f
    · rw [if_pos hk]
      by_cases h : g = k
      · have hb : (g == k) = true := beq_iff_eq.mpr h
        simp only [List.lookup, hb, if_pos (h.trans hk)]
      · have hb : (g == k) = false := beq_eq_false_iff_ne.mpr h
        simp only [List.lookup, hb, if_neg (fun e : g = f => h (e.trans hk.symm))]
    · rw [if_neg hk]
      by_cases h : g = k
      · have hb : (g == k) = true := beq_iff_eq.mpr h
        simp only [List.lookup, hb, if_neg (fun e : g = f => hk (h.symm.trans e))]
      · have hb : (g == k) = false := beq_eq_false_iff_ne.mpr h
        simp only [List.lookup, hb]
        exact ih
theorem keys_putF (f : Str) (v : V) : ∀ fs : List (Str × V), f ∈ (putF f v fs).map (·.1) ∧ ∀ g, g ∈ fs.map (·.1) → g ∈ (putF f v fs).map (·.1)
  | [] => ⟨by simp [putF], fun g h => by simp at h⟩
  | (k, x) :: r => by
    obtain ⟨i1, i2⟩ := keys_putF f v r
    rw [show putF f v ((k, x) :: r) = (if k = f then (k, v) :: r else (k, x) :: putF f v r) from rfl]
    by_cases hk : k = f
    · rw [if_pos hk]
      subst hk
      exact ⟨by simp, fun g h => by simpa using h⟩
    · rw [if_neg hk]
      refine ⟨?_, fun g h => ?_⟩
      · rw [List.map_cons]
        exact List.mem_cons_of_mem _ i1
      · rw [List.map_cons] at h ⊢
        rcases List.mem_cons.mp h with e | e
        · exact List.mem_cons.mpr (.inl e)
        · exact List.mem_cons_of_mem _ (i2 g e)
theorem length_putF (f : Str) (v : V) : ∀ fs : List (Str × V), (putF f v fs).length ≤ fs.length + 1
  | [] => by simp [putF]
  | (k, x) :: r => by
    have ih := length_putF f v r
    rw [show putF f v ((k, x) :: r) = (if k = f then (k, v) :: r else (k, x) :: putF f v r) from rfl]
    by_cases hk : k = f
    · rw [if_pos hk, List.length_cons, List.length_cons]; omega
    · rw [if_neg hk, List.length_cons, List.length_cons]; omega

theorem RelO.some_of {v : V} {o : Option Value} (r : RelO (some v) o) : ∃ u, o = some u ∧ RelV v u := by
  cases o with
  | none => exact (show False from r).elim
  | some u => exact ⟨u, rfl, r⟩
theorem RelO.none_of {o : Option Value} (r : RelO none o) : o = none := by
  cases o with
  | none => rfl
  | some u => exact (show False from r).elim
theorem handed_of {v : V} {u : Value} (r : RelV v u) : PySem.W.handedIn u = true := by
  cases v with
  | non => cases (show u = Value.none from r); rfl
  | bl b => cases (show u = Value.bool b from r); rfl
  | int i => obtain ⟨t, e⟩ := (show ∃ t, u = Value.int i t from r); cases e; rfl
  | str x => obtain ⟨t, e⟩ := (show ∃ t, u = Value.str x t from r); cases e; rfl
  | byt b => obtain ⟨t, e⟩ := (show ∃ t, u = Value.bytes b t from r); cases e; rfl
  | flt b => obtain ⟨t, e⟩ := (show ∃ t, u = Value.float b t from r); cases e; rfl
  | ref a => cases (show u = Value.ref a from r); rfl
  | ty n => cases (show u = Value.type n from r); rfl

section
variable {P : Program} {w : World} {H H' : Hp} {h h' : Heap} {a C dx : Addr} {fs fs' : List (Str × V)}
theorem ins_get (hok : HOk P w H h) (e : H a = some (.ins C dx fs)) : ∃ mA, ObjM h a dx C mA ∧ (∀ f, RelO (fs.lookup f) (mA f)) ∧ PySem.Within mA (fs.map (·.1)) ∧ fs.length ≤ 1000 ∧ H dx = some (.own a) := by
  obtain ⟨d, z, ne, ob, mA, n, r, q⟩ := (show ObjOk P w H h a (.ins C dx fs) from hok a _ e)
  exact ⟨mA, ⟨ob, n, ne⟩, r, q, z, d⟩
end

structure Cls (K : PySem.W.Frag) (C : Addr) : Prop where
  pg : PySem.W.plainGet K C Str.empty = true
  hd : PySem.W.hasDictIn K C = true
  po : PySem.W.plainOver K C = true
  sa : PySem.W.findIn K (.ref C) "__setattr__" = some (some (.builtin "object.__setattr__"))
theorem Cls.get {K : PySem.W.Frag} {C : Addr} (c : Cls K C) (f : Str) : PySem.W.plainGet K C f = true := c.pg
def NoAttr (K : PySem.W.Frag) (C : Addr) (f : Str) : Prop := PySem.W.findIn K (.ref C) f = some none
theorem NoAttr.taker {K : PySem.W.Frag} {C : Addr} {f : Str} (n : NoAttr K C f) : PySem.W.takerIn K C f = some none := by
  unfold PySem.W.takerIn
  rw [show PySem.W.findIn K (.ref C) f = some none from n]
  rfl
structure Meth (K : PySem.W.Frag) (C : Addr) (m : Str) (f : Addr) : Prop where
  at_ : PySem.W.findIn K (.ref C) m = some (some (.ref f))
  fn : PySem.W.isFn K (.ref f) = true
  kp : PySem.W.keepIn K (.ref f) = true

section
variable {X : Cx} {pins : List (Addr × Obj)} {σ : St} {H : Hp} {s : Shared} {a C dx : Addr} {fs : List (Str × V)} {f : Str} {v : V} {A : Around} {E : Value → Shared → Prop}

theorem getattr_ok {b : Bool} {Q : Value → Shared → Prop} (I : Inv X pins σ H s) (e : H a = some (.ins C dx fs)) (c : Cls X.K C) (n : NoAttr X.K C f) (l : fs.lookup f = some v)
    (h : ∀ u s', Inv X pins σ H s' → RelV v u → Q u s') : wpAny (model X.prog X.w) A (getAttr (.ref a) f b) Q E s := by
  obtain ⟨mA, O, r, _, _, _⟩ := ins_get I.hok e
  obtain ⟨u, hu, ru⟩ := RelO.some_of (v := v) (o := mA f) (by rw [← l]; exact r f)
  exact get_map I.kIn O (c.get f) c.hd n hu (handed_of ru) (h u _ (I.tok _) ru)

theorem getmeth_ok {m : Str} {g : Addr} {pl : Sem Bool} {Q : Value × List Value → Shared → Prop} (I : Inv X pins σ H s) (e : H a = some (.ins C dx fs)) (c : Cls X.K C) (k : Meth X.K C m g) (l : fs.lookup m = none)
    (h : Q (.ref g, [.ref a]) s) : wpAny (model X.prog X.w) A (getMethod (.ref a) m pl) Q E s := by
  obtain ⟨mA, O, r, _, _, _⟩ := ins_get I.hok e
  have hn : mA m = none := RelO.none_of (by rw [← l]; exact r m)
  exact get_meth I.kIn O (c.get m) k.at_ k.fn hn h

theorem setattr_ok {y : V} {u : Value} {Q : Unit → Shared → Prop} (I : Inv X pins σ H s) (e : H a = some (.ins C dx fs)) (c : Cls X.K C) (n : NoAttr X.K C f) (hl : fs.length < 1000) (ry : RelV y u)
    (h : ∀ s', Inv X pins σ (upd H a (.ins C dx (putF f y fs))) s' → Q () s') : wpAny (model X.prog X.w) A (setAttr (.ref a) f u) Q E s := by
  obtain ⟨mA, O, r, wi, _, ho⟩ := ins_get I.hok e
  have hz : (fs.map (·.1)).length ≤ sizeLine := by rw [List.length_map, sizeLine_eq]; omega
  refine set_map I.kIn O c.sa c.po n.taker c.hd wi hz fun h' O' sb => h _ ?_
  have hd : ∃ o, h'.get? dx = some o := let ⟨o, _, _, e', _⟩ := O'.ns; ⟨o, e'⟩
  refine I.write (x := a) (e := dx) (by rw [e]; exact True.intro) (.inr ho) (fun b q hb z => (sb.2 b hb).trans z) hd ?_
  refine ⟨by rw [upd_ne O.ne]; exact ho, ?_, O.ne, O'.obj, _, O'.ns, fun g => ?_, fun g hg => ?_⟩
  · have := length_putF f y fs; omega
  · show RelO ((putF f y fs).lookup g) (if g = f then some u else mA g)
    rw [lookup_putF]
    by_cases q : g = f
    · rw [if_pos q, if_pos q]; exact ry
    · rw [if_neg q, if_neg q]; exact r g
  · by_cases q : g = f
    · rw [q]; exact (keys_putF f y fs).1
    · refine (keys_putF f y fs).2 g (wi g fun z => hg ?_)
      show (if g = f then some u else mA g) = none
      rw [if_neg q]; exact z

theorem Inv.made (I : Inv X pins σ H s) : Inv X pins σ (upd (upd H s.heap.objs.size (.own (s.heap.objs.size + 1))) (s.heap.objs.size + 1) (.ins C s.heap.objs.size []))
    { s with heap := (s.heap.push PySem.W.emptyDict).push (PySem.W.instObj C s.heap.objs.size) } := by
  have e1 : (s.heap.push PySem.W.emptyDict).get? s.heap.objs.size = some PySem.W.emptyDict := Heap.get?_push_size s.heap rfl
  have e2 : ((s.heap.push PySem.W.emptyDict).push (PySem.W.instObj C s.heap.objs.size)).get? (s.heap.objs.size + 1) = some (PySem.W.instObj C s.heap.objs.size) := by
    have := Heap.get?_push_size (s.heap.push PySem.W.emptyDict) (o := PySem.W.instObj C s.heap.objs.size) rfl
    rwa [Heap.size_push] at this
  have e3 : (s.heap.push PySem.W.emptyDict).Ns s.heap.objs.size (fun _ => none) := ⟨PySem.W.emptyDict, #[], _, e1, rfl, (fun e he => absurd he (by simp)), fun _ => rfl⟩
  have I1 := I.laid (a := s.heap.objs.size) (o := .own (s.heap.objs.size + 1)) (h' := s.heap.push PySem.W.emptyDict) (t' := s.toks) (fun b u q => Heap.get?_push_of_some _ q) (Nat.le_refl _) ⟨_, e1⟩
  refine I1.laid (a := s.heap.objs.size + 1) (o := .ins C s.heap.objs.size []) (t' := s.toks) (fun b u q => Heap.get?_push_of_some _ q) (Nat.le_of_eq (Heap.size_push _ _)) ?_
  have ne : s.heap.objs.size ≠ s.heap.objs.size + 1 := Nat.ne_of_lt (Nat.lt_succ_self _)
  refine ⟨by rw [upd_ne ne, upd_same], Nat.zero_le _, ne, e2, fun _ => none, (Heap.Ns1.of_empty e3).at fun o q => Heap.get?_push_of_some _ q, fun _ => True.intro, fun y hy => absurd rfl hy⟩

theorem attr_of {prog : Program} {w : World} {env : Env} {e : Expr} {f : Str} {pos : Pos} {s : Shared} {Q : Value → Shared → Prop} (hb : attributeBase e f env (eval e env) = eval e env)
    (h : wpAny (model prog w) A (eval e env) (fun o s₁ => wpAny (model prog w) A (getAttr o f true) Q E s₁) E s) : wpAny (model prog w) A (eval (.Attribute e f pos) env) Q E s :=
  Attribute_any_ h (by rw [arm_eval_Attribute, hb])
end

def tFld (K : PySem.W.Frag) (ta : TE) (f : Str) : TE := fun σ H Q => ta σ H fun x H1 => ∃ a C dx fs v, x = .ref a ∧ H1 a = some (.ins C dx fs) ∧ Cls K C ∧ NoAttr K C f ∧ fs.lookup f = some v ∧ Q v H1
def sFld (K : PySem.W.Frag) (ta tv : TE) (f : Str) : TS := fun D σ H => tv σ H fun y H1 => ta σ H1 fun x H2 => ∃ a C dx fs, x = .ref a ∧ H2 a = some (.ins C dx fs) ∧ Cls K C ∧ NoAttr K C f ∧ fs.length < 1000 ∧
  D.nx σ (upd H2 a (.ins C dx (putF f y fs)))
section
variable {X : Cx} {o e value : Expr} {f : Str} {pos pos' tpos : Pos} {ta tv : TE}
theorem pe_fld (he : PE X e ta) (hb : attributeBase e f X.env (eval e X.env) = eval e X.env) : PE X (.Attribute e f pos) (tFld X.K ta f) := by
  intro pins s σ H Q I h
  refine attr_of hb (thn (he pins s σ H _ I h) fun u s1 ⟨x, H1, I1, rx, a, C, dx, fs, v, ex, ea, c, n, l, q⟩ => ?_)
  subst ex
  obtain rfl : u = Value.ref a := rx
  exact getattr_ok I1 ea c n l fun u' s2 I2 ru => ⟨v, H1, I2, ru, q⟩
theorem ps_fld (ha : PE X o ta) (hv : PE X value tv) (hs : swapsWith value (some (.Attribute o f pos')) pos.line X.env = pure false) : PS X (.Assign [.Attribute o f pos'] value pos) (sFld X.K ta tv f) := by
  intro pins s σ H D I h
  refine plainObj_wpAny_Assign_Attribute (thn (hv pins s σ H _ I h) fun u s1 ⟨y, H1, I1, ry, q⟩ => thn (ha pins s1 σ H1 _ I1 q) fun ov s2 ⟨x, H2, I2, rx, a, C, dx, fs, ex, ea, c, n, l, q2⟩ => ?_) hs
  subst ex
  obtain rfl : ov = Value.ref a := rx
  exact setattr_ok I2 ea c n l ry fun s3 I3 => ⟨σ, _, I3, q2⟩
theorem methcall_of {pl : Sem Bool} {m : Str} {apos : Pos} {args : List Expr} {pins : List (Addr × Obj)} {s : Shared} {σ : St} {H : Hp} {Q : Value → Shared → Prop} {te : TE} (he : PE X e te) (I : Inv X pins σ H s)
    (h : te σ H fun x H1 => ∃ a C dx fs g, x = .ref a ∧ H1 a = some (.ins C dx fs) ∧ Cls X.K C ∧ Meth X.K C m g ∧ fs.lookup m = none ∧
      ∀ s1, Inv X pins σ H1 s1 → wpAny (model X.prog X.w) X.A (callWith pos (.ref g) [.ref a] (backTo pos (starEach args X.env)) (backToKw pos (keywordEach [] X.env))) Q X.xe s1)
    (ht : eval (.Call (.Attribute e m apos) args [] pos) X.env = (do
      let ov ← eval e X.env
      standAt apos.atName
      let (f, first) ← holding [ov] (getMethod ov m pl)
      callWith pos f first (backTo pos (starEach args X.env)) (backToKw pos (keywordEach [] X.env)))) :
    wpAny (model X.prog X.w) X.A (eval (.Call (.Attribute e m apos) args [] pos) X.env) Q X.xe s := by
  refine PySem.W.methodCall_KW (pl := pl) (thn (he pins s σ H _ I h) fun u s1 ⟨x, H1, I1, rx, a, C, dx, fs, g, ex, ea, c, k, l, q⟩ => ?_) ht
  subst ex
  obtain rfl : u = Value.ref a := rx
  exact getmeth_ok I1 ea c k l (q s1 I1)
end

section
variable {X : Cx} {pins : List (Addr × Obj)} {σ : St} {H : Hp} {s : Shared} {A : Around} {E : Value → Shared → Prop} {Q : Value → Shared → Prop} {c : Value} {b : Bool}
inductive TyOf (K : PySem.W.Frag) (H : Hp) : V → Value → Prop where
  | non : TyOf K H .non (.type "NoneType")
  | bl (x : Bool) : TyOf K H (.bl x) (.type "bool")
  | int (i : Int) : TyOf K H (.int i) (.type "int")
  | str (x : Str) : TyOf K H (.str x) (.type "str")
  | flt (x : UInt64) : TyOf K H (.flt x) (.type "float")
  | lst {a : Addr} {xs : List V} (e : H a = some (.lst xs)) : TyOf K H (.ref a) (.type "list")
  | frz {a : Addr} {o : Obj} {xs : List V} (e : H a = some (.frz o (.lst xs))) : TyOf K H (.ref a) (.type "list")
  | tup {a : Addr} {xs : List V} (e : H a = some (.tup xs)) : TyOf K H (.ref a) (.type "tuple")
  | dK {a : Addr} {kvs : List (Key × V)} (e : H a = some (.dK kvs)) : TyOf K H (.ref a) (.type "dict")
  | dT {a : Addr} {kvs : List (List Key × V)} (e : H a = some (.dT kvs)) : TyOf K H (.ref a) (.type "dict")
  | ins {a C dx : Addr} {fs : List (Str × V)} (e : H a = some (.ins C dx fs)) (cl : Cls K C) (ha : PySem.W.findIn K (.ref C) "__class__" = some (some (.builtin "object.__class__")))
      (hn : PySem.W.specialIn K (.builtin "object.__class__") "__get__" = some (some (.builtin "getset_descriptor.__get__"))) (htk : PySem.W.takesIn K (.builtin "object.__class__") = some true)
      (hm : PySem.W.mroIn K C (.type "object") = some true) : TyOf K H (.ref a) (.ref C)
theorem isinst_ok {x : V} {u t : Value} (I : Inv X pins σ H s) (rx : RelV x u) (ty : TyOf X.K H x t) (e : PySem.W.kitOne X.K t c = some b) (h : ∀ tk, Q (.bool b) { s with toks := tk }) :
    wpAny (model X.prog X.w) A (call (.builtin "isinstance") [u, c]) Q E s := by
  cases ty with
  | non => cases (show u = Value.none from rx); exact PySem.W.kia_one PySem.W.kitx_none I.kIn True.intro e (fun z => nomatch z) h
  | bl y => cases (show u = Value.bool y from rx); exact PySem.W.kia_one PySem.W.kitx_bool I.kIn True.intro e (fun z => nomatch z) h
  | int i => obtain ⟨t, q⟩ := (show ∃ t, u = Value.int i t from rx); cases q; exact PySem.W.kia_one PySem.W.kitx_int I.kIn True.intro e (fun z => nomatch z) h
  | str y => obtain ⟨t, q⟩ := (show ∃ t, u = Value.str y t from rx); cases q; exact PySem.W.kia_one PySem.W.kitx_str I.kIn True.intro e (fun z => nomatch z) h
  | flt y => obtain ⟨t, q⟩ := (show ∃ t, u = Value.float y t from rx); cases q; exact PySem.W.kia_one PySem.W.kitx_float I.kIn True.intro e (fun z => nomatch z) h
  | @lst a xs ea =>
    cases (show u = Value.ref a from rx)
    obtain ⟨_, _, n, _, h1⟩ := (show ObjOk X.prog X.w H s.heap a (.lst xs) from I.hok a _ ea)
    exact PySem.W.kia_one PySem.W.kitx_list I.kIn ⟨_, h1, rfl⟩ e (fun z => nomatch z) h
  | @frz a ob xs ea =>
    cases (show u = Value.ref a from rx)
    obtain ⟨_, _, _, n, _, h1⟩ := (show ObjOk X.prog X.w H s.heap a (.frz ob (.lst xs)) from I.hok a _ ea)
    exact PySem.W.kia_one PySem.W.kitx_list I.kIn ⟨_, h1, rfl⟩ e (fun z => nomatch z) h
  | @tup a xs ea =>
    cases (show u = Value.ref a from rx)
    obtain ⟨_, _, _, p⟩ := (show ObjOk X.prog X.w H s.heap a (.tup xs) from I.hok a _ ea)
    obtain ⟨o, h1, h2, _⟩ := p
    exact PySem.W.kia_one PySem.W.kitx_tuple I.kIn ⟨o, h1, h2⟩ e (fun z => nomatch z) h
  | @dK a kvs ea =>
    cases (show u = Value.ref a from rx)
    obtain ⟨_, _, vs, _, p⟩ := (show ObjOk X.prog X.w H s.heap a (.dK kvs) from I.hok a _ ea)
    obtain ⟨o, es, ep, h1, h2, _⟩ := p
    exact PySem.W.kia_one PySem.W.kitx_dict I.kIn ⟨o, h1, h2.1⟩ e (fun z => nomatch z) h
  | @dT a kvs ea =>
    cases (show u = Value.ref a from rx)
    obtain ⟨_, _, xs, _, o, es, ep, h1, h2, _⟩ := (show ObjOk X.prog X.w H s.heap a (.dT kvs) from I.hok a _ ea)
    exact PySem.W.kia_one PySem.W.kitx_dict I.kIn ⟨o, h1, h2.1⟩ e (fun z => nomatch z) h
  | @ins a C dx fs ea cl ha hn htk hm =>
    cases (show u = Value.ref a from rx)
    obtain ⟨mA, O, _⟩ := ins_get I.hok ea
    obtain ⟨od, J, _⟩ := O.look
    exact PySem.W.kia_one (PySem.W.kitx_own (cl.get _) cl.hd ha hn htk hm) I.kIn J e (fun z => nomatch z) h
end
end L2

namespace L2
open PySem PySem.Spec PyProof.Rows

structure Room (k : Nat) (A : Around) : Prop where
  hd : A.handled = none
  dp : A.depth + 3 * k + 5 < recursionLimit
  un : A.units + 16 * k + 200 < cLine
theorem Room.mono {j k : Nat} {A : Around} (r : Room k A) (h : j ≤ k) : Room j A := ⟨r.hd, by have := r.dp; omega, by have := r.un; omega⟩
theorem Room.deeper {k : Nat} {A : Around} (r : Room (k + 1) A) (env : Env) : Room k (A.deeper env) :=
  ⟨r.hd, by have := r.dp; show A.depth + 1 + 3 * k + 5 < _; omega, by have := r.un; show A.units + 3 + 16 * k + 200 < _; omega⟩
theorem make_depth {A : Around} {C : Addr} {us : List Value} {kw : List (Str × Value)} : (A.under (.builtin "type.__call__" ⟨.ref C :: us, kw⟩)).depth = A.depth + 1 := by
  first | rfl | simp [Around.under, Code.weight, Code.isCreation, Code.isGuard, Code.isCaller, Code.frames, Code.isFrame, guardIds]
theorem make_units {A : Around} {C : Addr} {us : List Value} {kw : List (Str × Value)} : (A.under (.builtin "type.__call__" ⟨.ref C :: us, kw⟩)).units = A.units + 1 := by
  first | rfl | simp [Around.under, Code.cUnits, Code.frames, Code.isFrame]
theorem Room.make {k : Nat} {A : Around} (r : Room (k + 1) A) (C : Addr) (us : List Value) (kw : List (Str × Value)) : Room k (A.under (.builtin "type.__call__" ⟨.ref C :: us, kw⟩)) :=
  ⟨r.hd, by have := r.dp; rw [make_depth]; omega, by have := r.un; rw [make_units]; omega⟩
theorem Room.depth {k : Nat} {A : Around} (r : Room k A) : A.depth < recursionLimit := by have := r.dp; omega
theorem Room.units {k : Nat} {A : Around} (r : Room k A) : A.units + 64 < cLine := by have := r.un; omega
def tNil : TA := fun _ H Q => Q [] H
def tCons (ta : TE) (tr : TA) : TA := fun σ H Q => ta σ H fun x H1 => tr σ H1 fun xs H2 => Q (x :: xs) H2
section
variable {X : Cx} {e : Expr} {es : List Expr} {te : TE} {t : TA} {pos : Pos}
theorem pa_nil : PA X [] tNil := fun _ _ _ _ H Q I h => Calls.spliced_nil ⟨[], H, I, .nil, h⟩
theorem pa_cons (ha : PE X e te) (hr : PA X es t) (hs : starEach (e :: es) X.env = (false, eval e X.env) :: starEach es X.env := by rfl) : PA X (e :: es) (tCons te t) := by
  intro pos pins s σ H Q I h
  rw [hs]
  show wpAny _ _ (spliced ((false, eval e X.env) :: backTo pos (starEach es X.env))) _ _ s
  refine Calls.spliced_cons (thn (ha pins s σ H _ I h) fun u s1 ⟨x, H1, I1, r1, q1⟩ => ?_)
  exact thn (hr pos pins s1 σ H1 _ I1 q1) fun us s2 ⟨xs, H2, I2, r2, q2⟩ => ⟨x :: xs, H2, I2, .cons r1 r2, q2⟩

def tTup (t : TA) : TE := fun σ H Q => t σ H fun xs H1 => xs.length ≤ sizeLine ∧ ∀ p, H1 p = none → Q (.ref p) (upd H1 p (.tup xs))
def tLst (t : TA) : TE := fun σ H Q => t σ H fun xs H1 => xs.length ≤ sizeLine ∧ ∀ p, H1 p = none → Q (.ref p) (upd H1 p (.lst xs))
theorem pe_tup {x1} (h : PA X es t) : PE X (.Tuple es x1 pos) (tTup t) := by
  intro pins s σ H Q I hq
  refine wpAny_Tuple_spliced (thn (h pos pins s σ H _ I hq) fun us s1 ⟨xs, H1, I1, r, z, q⟩ => ⟨by rw [← r.length]; exact z, ?_⟩)
  have hf : H1 s1.heap.objs.size = none := I1.hok.fresh (Nat.le_refl _)
  refine ⟨.ref s1.heap.objs.size, upd H1 s1.heap.objs.size (.tup xs), I1.laid (t' := s1.toks) (fun b u e => Heap.get?_push_of_some _ e) (Nat.le_refl _) ?_, rfl, q _ hf⟩
  exact ⟨z, us, r, ⟨_, Heap.get?_push_size _ rfl, rfl, _, rfl⟩⟩
theorem pe_lst (h : PA X es t) : PE X (.List es pos) (tLst t) := by
  intro pins s σ H Q I hq
  refine wpAny_List_spliced (thn (h pos pins s σ H _ I hq) fun us s1 ⟨xs, H1, I1, r, z, q⟩ => ⟨by rw [← r.length]; exact z, ?_⟩)
  have hf : H1 s1.heap.objs.size = none := I1.hok.fresh (Nat.le_refl _)
  refine ⟨.ref s1.heap.objs.size, upd H1 s1.heap.objs.size (.lst xs), I1.laid (t' := s1.toks) (fun b u e => Heap.get?_push_of_some _ e) (Nat.le_refl _) ?_, rfl, q _ hf⟩
  exact ⟨z, us, 0, r, Heap.get?_push_size _ rfl⟩
end

abbrev Sp := List V → Hp → VK → XK → Prop
abbrev CXT := List Env → Hp → Shared → XK → Value → Shared → Prop

structure Env0 (P : Program) (w : World) (K : PySem.W.Frag) (mg : Str → Option Value) (base : Heap) (A : Around) (outer : List Env) (s : Shared) (H : Hp) : Prop where
  frames : A.frames = some outer
  mod : Mod K mg base
  bs : ∀ b o, base.get? b = some o → s.heap.get? b = some o ∧ H b = none
  bsz : base.objs.size ≤ s.heap.objs.size
  funs : s.heap.FunFrames base outer
  frf : ∀ b ∈ frs outer, H b = none
  hok : HOk P w H s.heap
  bare : AllBare s.gens
def CE (outer : List Env) (P : Program) (w : World) (H : Hp) (s : Shared) (Q : VK) (u : Value) (s' : Shared) : Prop :=
  ∃ v H', s'.os = s.os ∧ AllBare s'.gens ∧ Un (frs outer) [] H H' s.heap s'.heap ∧ HOk P w H' s'.heap ∧ RelV v u ∧ Q v H'
def CR (CX : CXT) (outer : List Env) (P : Program) (w : World) (H : Hp) (s : Shared) (Q : VK) (E : XK) (r : Result) (s' : Shared) : Prop :=
  match r with
  | .ok (.ret u) => CE outer P w H s Q u s'
  | .ok _ => False
  | .error e => CX outer H s E e s'
structure FnOk (P : Program) (w : World) (K : PySem.W.Frag) (mg : Str → Option Value) (base : Heap) (CX : CXT) (k : Nat) (f : Addr) (fd : FuncData) (ps : List Str) (sp : Sp) : Prop where
  len : ∀ vs H Q E, sp vs H Q E → vs.length = ps.length
  run : ∀ (A : Around) (outer : List Env) (s : Shared) (H : Hp) (args : Args) (us : List Value) (vs : List V) (Q : VK) (E : XK), Room k A → Env0 P w K mg base A outer s H → BindsTo s fd args (ps.zip us) → Vals vs us → sp vs H Q E →
    codeAny (model P w) A (.call (.ref f) args) (CR CX outer P w H s Q E) s
theorem Env0.make {P : Program} {w : World} {K : PySem.W.Frag} {mg : Str → Option Value} {base : Heap} {A : Around} {outer : List Env} {s : Shared} {H : Hp} (e : Env0 P w K mg base A outer s H) (C : Addr) (us : List Value) (kw : List (Str × Value)) :
    Env0 P w K mg base (A.under (.builtin "type.__call__" ⟨.ref C :: us, kw⟩)) outer s H := ⟨by first | exact e.frames | (simpa [Around.under, Code.envs, Code.isFrame, pushEnvs] using e.frames), e.mod, e.bs, e.bsz, e.funs, e.frf, e.hok, e.bare⟩
section
variable {X : Cx} {pins : List (Addr × Obj)} {σ : St} {H : Hp} {s s' : Shared}
theorem Inv.env0 (I : Inv X pins σ H s) : Env0 X.prog X.w X.K X.mg X.base X.A X.stack s H :=
  ⟨I.ok.frames, I.ok.mod, I.bs, Nat.le_trans I.ok.bsz I.sz, I.stack, I.stkFree, I.hok, I.bare⟩
theorem Inv.after {Q : VK} {u : Value} (I : Inv X pins σ H s) (h : CE X.stack X.prog X.w H s Q u s') : EP X pins σ Q u s' := by
  obtain ⟨v, H', os, bare, un, hok, r, q⟩ := h
  obtain ⟨hh, g, d, t, os'⟩ := s'
  obtain rfl : os' = s.os := os
  exact ⟨v, H', I.call (h' := hh) (g' := g) (d' := d) (t' := t) (ch := []) un hok bare (fun b z => absurd z (by simp)), r, q⟩
end

def tCall (sp : Sp) (dvs : List V) (E : XK) (t : TA) : TE := fun σ H Q => t σ H fun vs H1 => sp (vs ++ dvs) H1 Q E
def tMeth (C : Addr) (m : Str) (sp : Sp) (dvs : List V) (E : XK) (ta : TE) (t : TA) : TE := fun σ H Q => ta σ H fun x H1 => ∃ a dx fs, x = .ref a ∧ H1 a = some (.ins C dx fs) ∧ fs.lookup m = none ∧
  t σ H1 fun vs H2 => sp (x :: (vs ++ dvs)) H2 Q E
def tMake (C : Addr) (sp : Sp) (dvs : List V) (E : XK) (t : TA) : TE := fun σ H Q => t σ H fun vs H1 => ∀ x dx, H1 x = none → H1 dx = none → dx ≠ x →
  sp (.ref x :: (vs ++ dvs)) (upd (upd H1 dx (.own x)) x (.ins C dx [])) (fun v H2 => v = .non ∧ Q (.ref x) H2) E

def Binds (K : PySem.W.Frag) (fd : FuncData) (ps : List Str) (ds : List Value) : Prop :=
  ∀ (s : Shared) (us : List Value), K.In s.heap → (us ++ ds).length = ps.length → BindsTo s fd ⟨us, []⟩ (ps.zip (us ++ ds))
theorem Binds.all {K : PySem.W.Frag} {fd : FuncData} {ps : List Str} (h : ∀ us : List Value, us.length = ps.length → bindArgs fd ⟨us, []⟩ = pure (ps.zip us)) : Binds K fd ps [] := fun s us _ hl => by
  rw [List.append_nil] at hl ⊢
  exact .of_eq (h us hl)

def Passes (CX : CXT) (X : Cx) (E : XK) : Prop := ∀ (pins : List (Addr × Obj)) (σ : St) (H : Hp) (s : Shared) (e : Value) (s' : Shared), Inv X pins σ H s → CX X.stack H s E e s' → X.xe e s'

section
variable {X : Cx} {CX : CXT} {k : Nat} {f C : Addr} {fd : FuncData} {ps : List Str} {sp : Sp} {dvs : List V} {ds : List Value} {E : XK} {x m : Str} {p pos apos : Pos} {e o : Expr} {es : List Expr} {ta : TE} {t : TA}

theorem run_fn {pins : List (Addr × Obj)} {σ : St} {H : Hp} {s : Shared} {Q : VK} {us : List Value} {vs : List V} (F : FnOk X.prog X.w X.K X.mg X.base CX k f fd ps sp) (hr : Room k X.A) (hb : Binds X.K fd ps ds) (hd : Vals dvs ds) (hx : Passes CX X E)
    (I : Inv X pins σ H s) (r : Vals vs us) (h : sp (vs ++ dvs) H Q E) : wpAny (model X.prog X.w) X.A (call (.ref f) us) (EP X pins σ Q) X.xe s := by
  have r2 : Vals (vs ++ dvs) (us ++ ds) := r.append hd
  have hl : (us ++ ds).length = ps.length := by rw [← r2.length]; exact F.len _ _ _ _ h
  refine wpAny_call (codeAny_mono (F.run X.A X.stack s H ⟨us, []⟩ (us ++ ds) (vs ++ dvs) Q E hr I.env0 (hb s us I.kIn hl) r2 h) fun r s' hq => ?_)
  cases r with
  | error e => exact hx pins σ H s e s' I hq
  | ok fl =>
    cases fl with
    | ret u => exact I.after hq
    | next => exact False.elim hq
    | brk => exact False.elim hq
    | cont => exact False.elim hq

theorem pe_call (F : FnOk X.prog X.w X.K X.mg X.base CX k f fd ps sp) (hr : Room k X.A) (hg : Gl X x) (hm : X.mg x = some (.ref f)) (hk : PySem.W.keepIn X.K (.ref f) = true) (hb : Binds X.K fd ps ds) (hd : Vals dvs ds) (hx : Passes CX X E)
    (ha : PA X (e :: es) t) (hdb : (x == ("__debug__" : Str)) = false := by decide) (he : starEach (e :: es) X.env = (false, eval e X.env) :: starEach es X.env := by rfl) (hpl : (backTo pos (starEach es X.env)).any (·.1) = false := by rfl) :
    PE X (.Call (.Name x p) (e :: es) [] pos) (tCall sp dvs E t) := by
  intro pins s σ H Q I h
  refine wpAny_Call_Name_kw (ld_glob I hg hm ?_ hdb)
  refine PySem.W.callWith_K (h₀ := X.base) I.ok.mod.kin hk (thn (ha pos pins s σ H _ I h) fun us s1 ⟨vs, H1, I1, r, q⟩ => ⟨I1.kIn, ?_⟩) he hpl
  exact run_fn F hr hb hd hx I1 r q
theorem pe_meth {pl : Sem Bool} (he : PE X o ta) (c : Cls X.K C) (hm : Meth X.K C m f) (F : FnOk X.prog X.w X.K X.mg X.base CX k f fd ps sp) (hr : Room k X.A) (hb : Binds X.K fd ps ds) (hd : Vals dvs ds) (hx : Passes CX X E) (ha : PA X (e :: es) t)
    (hst : starEach (e :: es) X.env = (false, eval e X.env) :: starEach es X.env := by rfl) (hpl : (backTo pos (starEach es X.env)).any (·.1) = false := by rfl)
    (ht : eval (.Call (.Attribute o m apos) (e :: es) [] pos) X.env = (do
      let ov ← eval o X.env
      standAt apos.atName
      let (f, first) ← holding [ov] (getMethod ov m pl)
      callWith pos f first (backTo pos (starEach (e :: es) X.env)) (backToKw pos (keywordEach [] X.env))) := by rfl) :
    PE X (.Call (.Attribute o m apos) (e :: es) [] pos) (tMeth C m sp dvs E ta t) := by
  intro pins s σ H Q I h
  refine PySem.W.methodCall_KW (pl := pl) (thn (he pins s σ H _ I h) fun u s1 ⟨x, H1, I1, rx, a, dx, fs, ex, ea, l, q⟩ => ?_) ht
  subst ex
  obtain rfl : u = Value.ref a := rx
  refine getmeth_ok I1 ea c hm l ?_
  refine PySem.W.callWith_K (first := [.ref a]) (h₀ := X.base) I.ok.mod.kin hm.kp (thn (ha pos pins s1 σ H1 _ I1 q) fun us s2 ⟨vs, H2, I2, r, q2⟩ => ⟨I2.kIn, ?_⟩) hst hpl
  exact run_fn (us := .ref a :: us) (vs := .ref a :: vs) F hr hb hd hx I2 (.cons rfl r) q2
theorem pe_meth0 {pl : Sem Bool} (he : PE X o ta) (c : Cls X.K C) (hm : Meth X.K C m f) (F : FnOk X.prog X.w X.K X.mg X.base CX k f fd ps sp) (hr : Room k X.A) (hb : Binds X.K fd ps ds) (hd : Vals dvs ds) (hx : Passes CX X E)
    (ht : eval (.Call (.Attribute o m apos) [] [] pos) X.env = (do
      let ov ← eval o X.env
      standAt apos.atName
      let (f, first) ← holding [ov] (getMethod ov m pl)
      callWith pos f first (backTo pos (starEach [] X.env)) (backToKw pos (keywordEach [] X.env))) := by rfl) :
    PE X (.Call (.Attribute o m apos) [] [] pos) (tMeth C m sp dvs E ta tNil) := by
  intro pins s σ H Q I h
  refine PySem.W.methodCall_KW (pl := pl) (thn (he pins s σ H _ I h) fun u s1 ⟨x, H1, I1, rx, a, dx, fs, ex, ea, l, q⟩ => ?_) ht
  subst ex
  obtain rfl : u = Value.ref a := rx
  refine getmeth_ok I1 ea c hm l ?_
  exact PySem.W.callWith_K0 (first := [.ref a]) I1.kIn hm.kp (run_fn (us := [.ref a]) (vs := [.ref a]) F hr hb hd hx I1 (.cons rfl .nil) q)

structure Mk (K : PySem.W.Frag) (C f : Addr) : Prop where
  makes : PySem.W.makesIn K C = true
  init : PySem.W.findIn K (.ref C) "__init__" = some (some (.ref f))
  fn : PySem.W.isFn K (.ref f) = true
  kp : PySem.W.keepIn K (.ref C) = true

theorem run_make {pins : List (Addr × Obj)} {σ : St} {H : Hp} {s : Shared} {Q : VK} {us : List Value} {vs : List V} (M : Mk X.K C f) (F : FnOk X.prog X.w X.K X.mg X.base CX k f fd ps sp) (hr : Room (k + 1) X.A) (hb : Binds X.K fd ps ds) (hd : Vals dvs ds)
    (hx : Passes CX X E) (I : Inv X pins σ H s) (r : Vals vs us)
    (h : ∀ x dx, H x = none → H dx = none → dx ≠ x → sp (.ref x :: (vs ++ dvs)) (upd (upd H dx (.own x)) x (.ins C dx [])) (fun v H2 => v = .non ∧ Q (.ref x) H2) E) :
    wpAny (model X.prog X.w) X.A (call (.ref C) us) (EP X pins σ Q) X.xe s := by
  have hq := h (s.heap.objs.size + 1) s.heap.objs.size (I.hok.fresh (Nat.le_succ _)) (I.hok.fresh (Nat.le_refl _)) (Nat.ne_of_lt (Nat.lt_succ_self _))
  have I2 := Inv.made (C := C) I
  have r2 : Vals (V.ref (s.heap.objs.size + 1) :: (vs ++ dvs)) (Value.ref (s.heap.objs.size + 1) :: (us ++ ds)) := .cons rfl (r.append hd)
  have hl : (Value.ref (s.heap.objs.size + 1) :: us ++ ds).length = ps.length := by
    have e := r2.length
    rw [F.len _ _ _ _ hq] at e
    exact e.symm
  refine wpAny_call (make_map (f := f) I.kIn M.makes M.init (beq_iff_eq.mp M.fn) (codeAny_mono (F.run _ X.stack _ _ ⟨Value.ref (s.heap.objs.size + 1) :: us, []⟩ (Value.ref (s.heap.objs.size + 1) :: (us ++ ds)) _ _ E (hr.make C us [])
    (I2.env0.make C us []) (hb _ (Value.ref (s.heap.objs.size + 1) :: us) I2.kIn hl) r2 hq) fun r s' hq' => ?_))
  cases r with
  | error e => exact hx pins σ _ _ e s' I2 hq'
  | ok fl =>
    cases fl with
    | ret u =>
      obtain ⟨v, H', I3, rv, ev, q3⟩ := I2.after hq'
      subst ev
      exact ⟨rv, ⟨V.ref (s.heap.objs.size + 1), H', I3, rfl, q3⟩⟩
    | next => exact False.elim hq'
    | brk => exact False.elim hq'
    | cont => exact False.elim hq'
theorem pe_make (M : Mk X.K C f) (F : FnOk X.prog X.w X.K X.mg X.base CX k f fd ps sp) (hr : Room (k + 1) X.A) (hg : Gl X x) (hm : X.mg x = some (.ref C)) (hb : Binds X.K fd ps ds) (hd : Vals dvs ds) (hx : Passes CX X E)
    (ha : PA X (e :: es) t) (hdb : (x == ("__debug__" : Str)) = false := by decide) (he : starEach (e :: es) X.env = (false, eval e X.env) :: starEach es X.env := by rfl) (hpl : (backTo pos (starEach es X.env)).any (·.1) = false := by rfl) :
    PE X (.Call (.Name x p) (e :: es) [] pos) (tMake C sp dvs E t) := by
  intro pins s σ H Q I h
  refine wpAny_Call_Name_kw (ld_glob I hg hm ?_ hdb)
  refine PySem.W.callWith_K (h₀ := X.base) I.ok.mod.kin M.kp (thn (ha pos pins s σ H _ I h) fun us s1 ⟨vs, H1, I1, r, q⟩ => ⟨I1.kIn, ?_⟩) he hpl
  exact run_make M F hr hb hd hx I1 r q
end

section
variable {X : Cx} {CX : CXT} {k : Nat} {f C : Addr} {fd : FuncData} {ps ks : List Str} {sp : Sp} {E : XK} {x m : Str} {p pos apos kpos : Pos} {e o : Expr} {es : List Expr} {kws : List Keyword} {te ta : TE} {t tk : TA} {nm : Option Str}
variable {g : List Value → List Value → List Value} {gV : List V → List V → List V}
end

structure FnScope (N P : List Str) (sc : Scope) : Prop where
  kind : sc.kind = .function
  co : sc.isCoroutine = false
  gen : sc.isGenerator = false
  nd : N.Nodup
  pre : N.take P.length = P
  par : ∀ x ∈ P, sc.names.lookup x = some .local ∨ sc.names.lookup x = some .cell
  nofree : ∀ y ∈ sc.names, y.2 ≠ .free

theorem bindL_out {kindOf : Str → Option NameKind} {x : Str} : ∀ {binds : List (Str × Value)} {m : Str → Option Value}, (∀ v, (x, v) ∉ binds) → bindL kindOf binds m x = m x
  | [], _, _ => rfl
  | (n, v) :: r, m, h => by
    unfold bindL
    rw [bindL_out fun w hw => h w (List.mem_cons_of_mem _ hw)]
    split
    · have : x ≠ n := by rintro rfl; exact h v List.mem_cons_self
      simp [this]
    · rfl
theorem bindC_out {kindOf : Str → Option NameKind} {x : Str} : ∀ {binds : List (Str × Value)} {m : Str → Option Value}, (∀ v, (x, v) ∉ binds) → bindC kindOf binds m x = m x
  | [], _, _ => rfl
  | (n, v) :: r, m, h => by
    unfold bindC
    rw [bindC_out fun w hw => h w (List.mem_cons_of_mem _ hw)]
    split
    · rfl
    · have : x ≠ n := by rintro rfl; exact h v List.mem_cons_self
      simp [this]
theorem bindL_get {kindOf : Str → Option NameKind} {x : Str} {v : Value} : ∀ {P : List Str} {vs : List Value} {i : Nat} {m : Str → Option Value}, P.Nodup → P[i]? = some x → vs[i]? = some v → kindOf x = some .local →
    bindL kindOf (P.zip vs) m x = some v
  | [], _, _, _, _, h, _, _ => by simp at h
  | _ :: _, [], _, _, _, _, h, _ => by simp at h
  | p :: P, w :: vs, 0, m, nd, h1, h2, hk => by
    simp at h1 h2; subst h1; subst h2
    show bindL kindOf ((p, w) :: P.zip vs) m p = _
    unfold bindL
    rw [bindL_out fun v hv => (List.nodup_cons.mp nd).1 (List.of_mem_zip hv).1, if_pos hk]
    simp
  | p :: P, w :: vs, i + 1, m, nd, h1, h2, hk => by
    show bindL kindOf ((p, w) :: P.zip vs) m x = _
    unfold bindL
    exact bindL_get (i := i) (List.nodup_cons.mp nd).2 (by simpa using h1) (by simpa using h2) hk
theorem bindC_get {kindOf : Str → Option NameKind} {x : Str} {v : Value} : ∀ {P : List Str} {vs : List Value} {i : Nat} {m : Str → Option Value}, P.Nodup → P[i]? = some x → vs[i]? = some v → kindOf x ≠ some .local →
    bindC kindOf (P.zip vs) m x = some v
  | [], _, _, _, _, h, _, _ => by simp at h
  | _ :: _, [], _, _, _, _, h, _ => by simp at h
  | p :: P, w :: vs, 0, m, nd, h1, h2, hk => by
    simp at h1 h2; subst h1; subst h2
    show bindC kindOf ((p, w) :: P.zip vs) m p = _
    unfold bindC
    rw [bindC_out fun v hv => (List.nodup_cons.mp nd).1 (List.of_mem_zip hv).1, if_neg hk]
    simp
  | p :: P, w :: vs, i + 1, m, nd, h1, h2, hk => by
    show bindC kindOf ((p, w) :: P.zip vs) m x = _
    unfold bindC
    exact bindC_get (i := i) (List.nodup_cons.mp nd).2 (by simpa using h1) (by simpa using h2) hk

def start (N : List Str) (vs : List V) : St := vs.map some ++ List.replicate (N.length - vs.length) none

def cxOf (CX : CXT) (P : Program) (w : World) (K : PySem.W.Frag) (mg : Str → Option Value) (base : Heap) (N : List Str) (qual : Str) (scope : Scope) (f : Addr) (cd : Value) (A : Around) (outer : List Env) (s : Shared) (H : Hp) (E : XK) : Cx where
  prog := P
  w := w
  K := K
  mg := mg
  base := base
  A := A.deeper (envOfC qual scope s.heap.objs.size f cd)
  N := N
  s₀ := s
  H₀ := H
  env := envOfC qual scope s.heap.objs.size f cd
  outer := outer
  stack := envOfC qual scope s.heap.objs.size f cd :: outer
  ex := []
  calm := true
  fn := fun _ => true
  pn := []
  xe := fun e s' => wpAny (model P w) (A.deeper (envOfC qual scope s.heap.objs.size f cd)) (leaving (envOfC qual scope s.heap.objs.size f cd) e) (fun _ s'' => CX outer H s E e s'') (fun e' s'' => CX outer H s E e' s'') s'

theorem cell_has {sc : Scope} {n : Nat} {x : Str} (h : sc.names.lookup x = some .cell) : ∃ c, (cellsFrom n sc.names []).lookup x = some c := by
  have q := PySem.W.cellsFrom_some sc.names n [] (.inl h)
  exact Option.isSome_iff_exists.mp q

theorem inv_start {CX : CXT} {P : Program} {w : World} {K : PySem.W.Frag} {mg : Str → Option Value} {base : Heap} {N ps : List Str} {qual : Str} {scope : Scope} {f : Addr} {cd : Value} {A : Around} {outer : List Env} {s s1 : Shared} {H : Hp} {E : XK} {us : List Value} {vs : List V}
    (S : FnScope N ps scope) (hd : A.handled = none) (e0 : Env0 P w K mg base A outer s H) (hl : vs.length = ps.length) (r : Vals vs us)
    (x : InCallC s s.heap.objs.size (bindL (envOfC qual scope s.heap.objs.size f cd).kindOf (ps.zip us) fun _ => none) (cellsFrom (s.heap.objs.size + 1) scope.names []) (bindC (envOfC qual scope s.heap.objs.size f cd).kindOf (ps.zip us) fun _ => none) s1) :
    Inv (cxOf CX P w K mg base N qual scope f cd A outer s H E) [] (start N vs) H s1 := by
  have hpl : ps.length ≤ N.length := by have := congrArg List.length S.pre; rw [List.length_take] at this; omega
  obtain ⟨h1, tk, rfl, hk⟩ := x.done
  have noA : ∀ b : Addr, b ∉ (cxOf CX P w K mg base N qual scope f cd A outer s H E).ex := fun b z => absurd (show b ∈ ([] : List Addr) from z) (by simp)
  refine ⟨⟨e0.mod, S.kind, rfl, rfl, Nat.le_refl _, fun y z c h1 h2 => ?_, fun y hy => ?_, fun y c _ h => ?_, fun _ => hd, Around.frames_deeper e0.frames, .inr ⟨rfl, rfl⟩, fun b z => absurd z (noA b), e0.bs, e0.bsz, fun b _ _ => noA b, fun b z => absurd z (noA b), e0.funs, e0.frf⟩,
    rfl, e0.bare, Un.kept hk, ⟨_, x.toInCall.ns, fun i y v h1 h2 h3 => ?_⟩, fun y c h => ⟨_, x.cell y c h⟩, e0.hok.fresh (Nat.le_refl _), fun y c h => ?_, fun p hp => absurd (show p ∈ ([] : List (Addr × Obj)) from hp) (by simp), e0.hok.kept hk, ?_⟩
  · exact name_of_addr x.apart (PySem.mem_of_lookup h1) (PySem.mem_of_lookup h2)
  · have hy : scope.names.lookup y = some .cell ∨ scope.names.lookup y = some .free := hy
    rcases hy with hy | hy
    · exact cell_has hy
    · exact absurd rfl (S.nofree _ (PySem.mem_of_lookup hy))
  · exact Nat.le_of_lt (x.above y c (PySem.mem_of_lookup h))
  · have hi : i < vs.length := by
      unfold start at h2
      by_cases hi : i < vs.length
      · exact hi
      · rw [List.getElem?_append_right (by simpa using hi)] at h2
        rw [List.getElem?_replicate] at h2
        split at h2 <;> cases h2
    have ha : vs[i]? = some v := by
      unfold start at h2
      rw [List.getElem?_append_left (by simpa using hi), List.getElem?_map] at h2
      cases e : vs[i]? with
      | none => rw [e] at h2; cases h2
      | some a => rw [e] at h2; cases h2; rfl
    obtain ⟨u, hu, rv⟩ := r.get ha
    have hp : ps[i]? = some y := by
      rw [← S.pre, List.getElem?_take_of_lt (by omega)]; exact h1
    have ndP : ps.Nodup := by rw [← S.pre]; exact S.nd.sublist (List.take_sublist _ _)
    refine ⟨u, rv, ?_⟩
    rcases S.par y (List.mem_of_getElem? hp) with k | k
    · exact .inl ⟨k, bindL_get ndP hp hu k⟩
    · obtain ⟨c, e⟩ := cell_has (n := s.heap.objs.size + 1) k
      refine .inr ⟨.inl k, c, e, ?_⟩
      have q := x.cell y c e
      rw [bindC_get ndP hp hu (by show scope.names.lookup y ≠ _; rw [k]; decide)] at q
      exact q
  · exact e0.hok.fresh (Nat.le_of_lt (x.above y c (PySem.mem_of_lookup h)))
  · unfold start
    show _ = N.length
    rw [List.length_append, List.length_map, List.length_replicate]
    omega

theorem fn_of {CX : CXT} {P : Program} {w : World} {K : PySem.W.Frag} {mg : Str → Option Value} {base : Heap} {k : Nat} {f : Addr} {name qual : Str} {params : Arguments} {body : List Stmt} {scope : Scope} {dV kV doc pm cdv ct oc : Value} {an od : Option Addr}
    {osl : Array (Option Value)} {N ps : List Str} {sp : Sp} (lk : K.lookup f = some ⟨oc, od, .func (PySem.W.fnOf name qual params body scope dV kV doc pm an cdv ct), osl⟩) (hcd : PySem.W.codeIn K cdv qual = true) (S : FnScope N ps scope)
    (len : ∀ vs H Q E, sp vs H Q E → vs.length = ps.length)
    (hbody : ∀ (A : Around) (outer : List Env) (s : Shared) (H : Hp) (vs : List V) (Q : VK) (E : XK), Room k (A.deeper (envOfC qual scope s.heap.objs.size f cdv)) → sp vs H Q E →
      ∃ t, PSs (cxOf CX P w K mg base N qual scope f cdv A outer s H E) body t ∧ t { nx := fun _ H' => Q .non H', rt := Q } (start N vs) H) :
    FnOk P w K mg base CX (k + 1) f (PySem.W.fnOf name qual params body scope dV kV doc pm an cdv ct) ps sp := by
  refine ⟨len, fun A outer s H args us vs Q E hr e0 hb r hsp => ?_⟩
  have hl := len _ _ _ _ hsp
  have KX : K.In s.heap := e0.mod.kin.keeps fun b o e => (e0.bs b o e).1
  have lim : s.heap.NoLimit := e0.mod.nolimit.keeps fun b o e => (e0.bs b o e).1
  have hkind : ∀ y ∈ ps.zip us, scope.names.lookup y.1 = some .local ∨ (scope.names.lookup y.1 = some .cell ∧ ((cellsFrom (s.heap.objs.size + 1) scope.names []).lookup y.1).isSome = true) := fun ⟨n, v⟩ hy => by
    rcases S.par n (List.of_mem_zip hy).1 with q | q
    · exact .inl q
    · exact .inr ⟨q, PySem.W.cellsFrom_some _ _ _ (.inl q)⟩
  refine codeAny_call_function hr.depth (KX _ _ lk) rfl S.co S.gen rfl (PySem.W.codeRec_of KX hcd) (hb _ _ _ _ ?_)
  refine wpAny_newFunctionEnv_cells S.kind hkind fun env he s1 x => ?_
  subst he
  refine ⟨lim.keeps x.toInCall.keep, codeAny_func ?_⟩
  obtain ⟨t, ht, hq⟩ := hbody A outer s H vs Q E (hr.deeper _) hsp
  have I : Inv (cxOf CX P w K mg base N qual scope f cdv A outer s H E) [] (start N vs) H s1 := inv_start S hr.hd e0 hl r x
  refine wpAny_mono (ht [] s1 (start N vs) H _ I hq) (fun fl s' hs => ?_) fun e s' hs => hs
  have fin : ∀ {σ' : St} {H' : Hp} {v : V} {u : Value}, Inv (cxOf CX P w K mg base N qual scope f cdv A outer s H E) [] σ' H' s' → RelV v u → Q v H' → CE outer P w H s Q u s' :=
    fun {σ' H' v u} J rv q => ⟨v, H', J.os, J.bare, J.base, J.hok, rv, q⟩
  cases fl with
  | ret u =>
    obtain ⟨v, σ', H', J, rv, q⟩ := hs
    exact fin J rv q
  | next =>
    obtain ⟨σ', H', J, q⟩ := hs
    exact fin (v := V.non) (u := Value.none) J rfl q
  | brk =>
    obtain ⟨_, _, _, q⟩ := hs
    exact False.elim q
  | cont =>
    obtain ⟨_, _, _, q⟩ := hs
    exact False.elim q
end L2

namespace L2
open PySem PySem.Spec PyProof.Rows
section
variable {X : Cx} {x : Str} {p pos : Pos} {e : Expr} {es : List Expr} {t : TA} {id T : String} {r : List V → Hp → VK → Prop}

def tCB (r : List V → Hp → VK → Prop) (t : TA) : TE := fun σ H Q => t σ H fun vs H1 => r vs H1 Q
theorem pe_callB (hc : CallR X (.builtin id) r) (hg : Gl X x) (hm : X.mg x = none) (hv : bootBuiltins x = some (.builtin id)) (ha : PA X (e :: es) t) (hn : x ≠ "__name__" := by decide) (hdb : (x == ("__debug__" : Str)) = false := by decide)
    (he : starEach (e :: es) X.env = (false, eval e X.env) :: starEach es X.env := by rfl) (hpl : (backTo pos (starEach es X.env)).any (·.1) = false := by rfl) : PE X (.Call (.Name x p) (e :: es) [] pos) (tCB r t) := by
  intro pins s σ H Q I h
  refine wpAny_Call_Name_kw (ld_blt I hg hm hv ?_ hn hdb)
  exact PyProof.Rows.callWith_builtin1 (thn (ha pos pins s σ H _ I h) fun us s1 ⟨vs, H1, I1, r1, q1⟩ => hc pins s1 σ H1 vs us Q I1 r1 q1) he hpl
theorem pe_callTy (hc : CallR X (.type T) r) (hg : Gl X x) (hm : X.mg x = none) (hv : bootBuiltins x = some (.type T)) (ha : PA X (e :: es) t) (hn : x ≠ "__name__" := by decide) (hdb : (x == ("__debug__" : Str)) = false := by decide)
    (he : starEach (e :: es) X.env = (false, eval e X.env) :: starEach es X.env := by rfl) (hpl : (backTo pos (starEach es X.env)).any (·.1) = false := by rfl) : PE X (.Call (.Name x p) (e :: es) [] pos) (tCB r t) := by
  intro pins s σ H Q I h
  refine wpAny_Call_Name_kw (ld_blt I hg hm hv ?_ hn hdb)
  exact PyProof.Rows.callWith_type1 (thn (ha pos pins s σ H _ I h) fun us s1 ⟨vs, H1, I1, r1, q1⟩ => hc pins s1 σ H1 vs us Q I1 r1 q1) he hpl
end
end L2

namespace HT
open PySem PyProof.Rows

section
open PySem.SeqAt
open PySem.AutoSeq1 (wpAny_loadPart')
open PySem.MeetsSeq PySem.MeetsSeq2 PySem.MeetsSeq3

end

section
variable {prog : Program} {w : World} {A : Around} {E : Value → Shared → Prop} {s : Shared}

def sIx (n d : Nat) : Option Int → Nat
  | none => d
  | some v => if v < 0 then (v + (n : Int)).toNat else min v.toNat n
theorem sIx_nat (n d k : Nat) : sIx n d (some (k : Int)) = min k n := by
  show (if (k : Int) < 0 then ((k : Int) + (n : Int)).toNat else min (k : Int).toNat n) = min k n
  rw [if_neg (by omega), Int.toNat_natCast]
end
end HT

namespace L2
open PySem PySem.Spec PyProof.Rows

abbrev TO := St → Hp → (Option Int → Hp → Prop) → Prop
def PO (X : Cx) (e : Option Expr) (t : TO) : Prop :=
  ∀ (pins : List (Addr × Obj)) (s : Shared) (σ : St) (H : Hp) (Q : Option Int → Hp → Prop), Inv X pins σ H s → t σ H Q →
    wpAny (model X.prog X.w) X.A (evalPart e X.env) (fun u s' => ∃ o H', Inv X pins σ H' s' ∧ IsPart u o ∧ Q o H') X.xe s
def tPart (t : TE) : TO := fun σ H Q => t σ H fun x H1 => ∃ i, x = .int i ∧ Q (some i) H1

theorem intsAre_of {ns : List Int} : ∀ {us : List Value}, Vals (ns.map V.int) us → IntsAre us ns := by
  induction ns with
  | nil => intro us r; rw [List.map_nil] at r; cases r; exact .nil
  | cons n ns ih =>
    intro us r
    rw [List.map_cons] at r
    cases r with
    | cons r1 r2 =>
      obtain ⟨t, e⟩ := r1
      subst e
      exact .cons n t (ih r2)

section
variable {X : Cx} {e : Expr} {te : TE} {lo hi : Option Expr} {tl th : TO} {pos p2 : Pos}

theorem po_some (h : PE X e te) : PO X (some e) (tPart te) := by
  intro pins s σ H Q I hw
  rw [evalPart_some]
  refine thn (h pins s σ H _ I hw) fun u s1 ⟨x, H1, I1, r1, q1⟩ => ?_
  obtain ⟨i, rfl, q⟩ := q1
  obtain ⟨t, rfl⟩ := r1
  exact ⟨some i, H1, I1, .int i t, q⟩

def SlR (X : Cx) (r : V → Option Int → Option Int → Hp → VK → Prop) : Prop :=
  ∀ (pins : List (Addr × Obj)) (s : Shared) (σ : St) (H : Hp) (x : V) (v vl vu : Value) (lo hi : Option Int) (sl : Addr) (Q : VK), Inv X pins σ H s → RelV x v → s.heap.IsSliceOf sl vl vu .none → IsPart vl lo → IsPart vu hi → r x lo hi H Q →
    ∃ T id, typeLookup (.type T) "__getitem__" = pure (some (.builtin id)) ∧ s.TypeIs v T ∧ wpAny (model X.prog X.w) X.A (getItem v (.ref sl)) (EP X pins σ Q) X.xe s
def tSl (r : V → Option Int → Option Int → Hp → VK → Prop) (te : TE) (tl th : TO) : TE := fun σ H Q => te σ H fun x H1 => tl σ H1 fun l H2 => th σ H2 fun u H3 => r x l u H3 Q
theorem pe_slice {r : V → Option Int → Option Int → Hp → VK → Prop} (hr : SlR X r) (he : PE X e te) (hl : PO X lo tl) (hu : PO X hi th) : PE X (.Subscript e (.Slice lo hi none p2) pos) (tSl r te tl th) := by
  intro pins s σ H Q I h
  refine Subscript_ (thn (he pins s σ H _ I h) fun v s1 ⟨x, H1, I1, r1, q1⟩ => ?_)
  refine wpAny_Slice (thn (hl pins s1 σ H1 _ I1 q1) fun vl s2 ⟨l, H2, I2, pl, q2⟩ => thn (hu pins s2 σ H2 _ I2 q2) fun vu s3 ⟨u, H3, I3, pu, q3⟩ => ?_)
  rw [evalPart_none]
  refine wpAny_pure ?_
  have I4 : Inv X pins σ H3 { s3 with heap := s3.heap.push { cls := .type "slice", data := .fields #[vl, vu, .none] } } := I3.kept (t' := s3.toks) fun b ob q => Heap.get?_push_of_some _ q
  obtain ⟨T, id, hT, ht, hg⟩ := hr pins { s3 with heap := s3.heap.push { cls := .type "slice", data := .fields #[vl, vu, .none] } } σ H3 x v vl vu l u s3.heap.objs.size Q I4 r1 (Heap.IsSliceOf.new ..) pl pu q3
  show wpAny (model X.prog X.w) X.A (subscriptTail e (.Slice lo hi none p2) v (.ref s3.heap.objs.size)) (EP X pins σ Q) X.xe { s3 with heap := s3.heap.push { cls := .type "slice", data := .fields #[vl, vu, .none] } }
  exact tail_any (ops := [.ref s3.heap.objs.size, v]) ht hT hg (by with_unfolding_all rfl)

def cutV (xs : List V) (lo hi : Option Int) : List V := (xs.drop (HT.sIx xs.length 0 lo)).take (HT.sIx xs.length xs.length hi - HT.sIx xs.length 0 lo)
theorem cutV_length (xs : List V) (lo hi : Option Int) : (cutV xs lo hi).length ≤ xs.length := by
  unfold cutV
  rw [List.length_take, List.length_drop]
  omega
end
end L2

namespace L2
open PySem PySem.Spec PyProof.Rows

def ixN (n : Nat) (i : Int) : Option Nat := if 0 ≤ i then (if i < n then some i.toNat else none) else if -(n : Int) ≤ i then some (i + n).toNat else none
def atI {α : Type} (xs : List α) (i : Int) : Option α := (ixN xs.length i).bind fun j => xs[j]?
theorem ixN_seq {n : Nat} {i : Int} {j : Nat} (h : ixN n i = some j) : seqIndex? i n = some j ∧ j < n ∧ -(n : Int) ≤ i ∧ i < n := by
  unfold ixN at h
  by_cases h0 : 0 ≤ i
  · rw [if_pos h0] at h
    by_cases h1 : i < n
    · rw [if_pos h1] at h
      have e : i.toNat = j := Option.some.inj h
      exact ⟨by rw [seqIndex_of h0 h1, e], by omega, by omega, h1⟩
    · rw [if_neg h1] at h; cases h
  · rw [if_neg h0] at h
    by_cases h1 : -(n : Int) ≤ i
    · rw [if_pos h1] at h
      have e : (i + n).toNat = j := Option.some.inj h
      exact ⟨by rw [seqIndex_neg (by omega) h1, e], by omega, h1, by omega⟩
    · rw [if_neg h1] at h; cases h
theorem atI_get {α : Type} {xs : List α} {i : Int} {v : α} (h : atI xs i = some v) : ∃ j, seqIndex? i xs.length = some j ∧ xs[j]? = some v ∧ j < xs.length ∧ -(xs.length : Int) ≤ i ∧ i < xs.length := by
  unfold atI at h
  cases e : ixN xs.length i with
  | none => rw [e] at h; cases h
  | some j =>
    rw [e] at h
    obtain ⟨h1, h2, h3, h4⟩ := ixN_seq e
    exact ⟨j, h1, h, h2, h3, h4⟩
theorem atI_nat {α : Type} {xs : List α} {j : Nat} {v : α} (h : xs[j]? = some v) : atI xs (j : Int) = some v := by
  have hj : j < xs.length := (List.getElem?_eq_some_iff.mp h).1
  have e : ixN xs.length (j : Int) = some j := by
    unfold ixN
    rw [if_pos (by omega), if_pos (by omega)]; simp
  unfold atI; rw [e]; exact h
theorem atI_last {α : Type} (xs : List α) (v : α) : atI (xs ++ [v]) (-1) = some v := by
  have hl : (xs ++ [v]).length = xs.length + 1 := by simp
  have e : ixN (xs ++ [v]).length (-1) = some xs.length := by
    unfold ixN
    rw [hl, if_neg (by decide), if_pos (by omega)]
    congr 1
    omega
  unfold atI
  rw [e]
  show (xs ++ [v])[xs.length]? = some v
  simp

def PlainIx (b : Expr) : Prop := ∀ o i, subscripted b false o i = operate [o, i] (getItem o i)
def IxR (X : Cx) (r : R2) : Prop :=
  ∀ (value slice : Expr) (pins : List (Addr × Obj)) (s : Shared) (σ : St) (H : Hp) (x y : V) (v u : Value) (Q : VK), Inv X pins σ H s → RelV x v → RelV y u → r x y H Q →
    subscripted slice false v u = operate [v, u] (getItem v u) → wpAny (model X.prog X.w) X.A (subscriptTail value slice v u) (EP X pins σ Q) X.xe s
def MtR (X : Cx) (id : String) (r : V → List V → Hp → VK → Prop) : Prop :=
  ∀ (pins : List (Addr × Obj)) (s : Shared) (σ : St) (H : Hp) (x : V) (xs : List V) (v : Value) (us : List Value) (Q : VK), Inv X pins σ H s → RelV x v → Vals xs us → r x xs H Q →
    wpAny (model X.prog X.w) X.A (call (.builtin id) (v :: us)) (EP X pins σ Q) X.xe s
section
variable {X : Cx} {a b : Expr} {ta tb : TE} {pos : Pos}
theorem pe_ix {r : R2} (hr : IxR X r) (ha : PE X a ta) (hb : PE X b tb) (hs : PlainIx b) : PE X (.Subscript a b pos) (tOp r ta tb) := by
  intro pins s σ H Q I h
  exact Subscript_ (binT ha hb I h fun v u s2 x y H2 I2 rx ry q => hr a b pins s2 σ H2 x y v u Q I2 rx ry q (hs _ _))

def rIxL (K : PySem.W.Frag) : R2 := fun x y H Q => ∃ p xs i v, x = .ref p ∧ y = .int i ∧ SqL K H p xs ∧ atI xs i = some v ∧ Q v H
def rIxT (K : PySem.W.Frag) : R2 := fun x y H Q => ∃ p xs i v, x = .ref p ∧ y = .int i ∧ SqT K H p xs ∧ atI xs i = some v ∧ Q v H
theorem ix_list : IxR X (rIxL X.K) := by
  intro value slice pins s σ H x y v u Q I rx ry h hs
  obtain ⟨p, xs, i, z, rfl, rfl, hq, he, q⟩ := h
  cases rx
  obtain ⟨t, rfl⟩ := ry
  obtain ⟨its, r, pl, hz⟩ := I.list hq
  obtain ⟨j, h1, h2, h3, h4, h5⟩ := atI_get he
  obtain ⟨w, ew, rw'⟩ := r.get h2
  have hl := r.length
  have hn := line63
  have fin : EP X pins σ Q w s := ⟨z, H, I, rw', q⟩
  by_cases h0 : 0 ≤ i
  · have hj : i.toNat = j := by
      rw [seqIndex_of h0 h5] at h1
      exact Option.some.inj h1
    exact item_listR pl.isList h0 (by omega) (by rw [hj]; simpa using ew) fin hs
  · have hj : (i + (its.toArray.size : Int)).toNat = j := by
      rw [seqIndex_neg (by omega) h4] at h1
      rw [List.size_toArray, ← hl]
      exact Option.some.inj h1
    exact subscriptTail_builtinR (x := w) pl.isList.typeIs slot_list_getitem.lookup
      (wpAny_getItem_list_neg (Q := fun r s' => r = w ∧ EP X pins σ Q r s') pl.isList (by omega) (by rw [List.size_toArray] <;> omega) (by omega) (by rw [hj]; simpa using ew) ⟨rfl, fin⟩) hs
theorem ix_tup : IxR X (rIxT X.K) := by
  intro value slice pins s σ H x y v u Q I rx ry h hs
  obtain ⟨p, xs, i, z, rfl, rfl, hq, he, q⟩ := h
  cases rx
  obtain ⟨t, rfl⟩ := ry
  obtain ⟨its, r, pl, hz⟩ := I.tuple hq
  obtain ⟨j, h1, h2, h3, h4, h5⟩ := atI_get he
  obtain ⟨w, ew, rw'⟩ := r.get h2
  have hl := r.length
  have hn := line63
  have fin : EP X pins σ Q w s := ⟨z, H, I, rw', q⟩
  exact subscriptTail_builtinR (x := w) pl.typeIs slot_tuple_getitem.lookup
    (getItem_tuple (j := j) (Q := fun r s' => r = w ∧ EP X pins σ Q r s') pl (by omega) (by omega) (by rw [List.size_toArray, ← hl]; exact h1) (by simpa using ew) ⟨rfl, fin⟩) hs
theorem mapSeq_set (its : List Value) (n j : Nat) (u : Value) : Obj.mapSeq (·.setIfInBounds j u) { cls := .type "list", data := .seq its.toArray n } = { cls := .type "list", data := .seq (its.set j u).toArray n } := by
  simp [Obj.mapSeq]
theorem Inv.lst {pins : List (Addr × Obj)} {σ : St} {H : Hp} {s : Shared} {p : Addr} {xs : List V} (I : Inv X pins σ H s) (h : H p = some (.lst xs)) :
    ∃ (its : List Value) (n : Nat), Vals xs its ∧ s.heap.get? p = some { cls := .type "list", data := .seq its.toArray n } ∧ xs.length ≤ sizeLine := by
  obtain ⟨z, its, n, r, e⟩ := I.hok p _ h
  exact ⟨its, n, r, e, z⟩
theorem Inv.lstUpd {pins : List (Addr × Obj)} {σ : St} {H : Hp} {s : Shared} {p : Addr} {xs ys : List V} {its its' : List Value} {n n' : Nat} {f : Obj → Obj} (I : Inv X pins σ H s) (h : H p = some (.lst xs))
    (ho : s.heap.get? p = some { cls := .type "list", data := .seq its.toArray n }) (hf : f { cls := .type "list", data := .seq its.toArray n } = { cls := .type "list", data := .seq its'.toArray n' }) (r : Vals ys its') (hz : ys.length ≤ sizeLine) (t : Nat) :
    Inv X pins σ (upd H p (.lst ys)) { s with heap := s.heap.update p f, toks := t } := by
  have e : (s.heap.update p f).get? p = some { cls := .type "list", data := .seq its'.toArray n' } := by
    rw [Heap.get?_update_self f ho (by rw [hf] <;> rfl), hf]
  refine I.write (x := p) (e := p) (by rw [h]; trivial) (.inl rfl) (fun b u hb q => (Heap.get?_update_other _ _ (Ne.symm hb)).trans q) ⟨_, e⟩ ?_
  exact ⟨hz, its', n', r, e⟩
def rSetL : V → V → V → Hp → (Hp → Prop) → Prop := fun o i v H Q => ∃ p xs k j, o = .ref p ∧ i = .int k ∧ H p = some (.lst xs) ∧ ixN xs.length k = some j ∧ Q (upd H p (.lst (xs.set j v)))
theorem set_list : PSet X rSetL := by
  intro pins s σ H o i v ov iv u Q I ro ri rv h
  obtain ⟨p, xs, k, j, rfl, rfl, hp, hj, q⟩ := h
  cases ro
  obtain ⟨t, rfl⟩ := ri
  obtain ⟨its, n, r, ho, hz⟩ := I.lst hp
  obtain ⟨h1, h2, h3, h4⟩ := ixN_seq hj
  have hl := r.length
  have hn := line63
  have I' : Inv X pins σ (upd H p (.lst (xs.set j v))) { s with heap := s.heap.update p (Obj.mapSeq (·.setIfInBounds j u)) } :=
    I.lstUpd hp ho (mapSeq_set its n j u) (r.set rv j) (by rw [List.length_set]; exact hz) s.toks
  by_cases h0 : 0 ≤ k
  · have hk : k.toNat = j := by
      rw [seqIndex_of h0 h4] at h1
      exact Option.some.inj h1
    exact PySem.W.ki_setAt ho h0 (by omega) (by rw [List.size_toArray, ← hl]; exact h4) (by rw [hk]; exact ⟨_, I', q⟩)
  · have hk : (k + (its.toArray.size : Int)).toNat = j := by
      rw [seqIndex_neg (by omega) h3] at h1
      rw [List.size_toArray, ← hl]
      exact Option.some.inj h1
    exact PySem.W.ki_setBack ho (by omega) (by rw [List.size_toArray, ← hl]; exact h3) (by omega) (by rw [hk]; exact ⟨_, I', q⟩)

theorem slice_bounds (lo hi : Option Int) (n : Nat) : (sliceBounds lo hi none n).1 = ((HT.sIx n 0 lo : Nat) : Int) ∧ (sliceBounds lo hi none n).2.1 = ((HT.sIx n n hi : Nat) : Int) ∧ (sliceBounds lo hi none n).2.2 = 1 := by
  refine ⟨?_, ?_, rfl⟩
  · cases lo with
    | none => simp [sliceBounds, HT.sIx]
    | some i =>
      simp only [sliceBounds, HT.sIx, Option.getD_none, show (1 : Int) > 0 by decide, if_true]
      by_cases h : i < 0
      · simp only [h, if_true] <;> omega
      · simp only [h, if_false] <;> omega
  · cases hi with
    | none => simp [sliceBounds, HT.sIx]
    | some i =>
      simp only [sliceBounds, HT.sIx, Option.getD_none, show (1 : Int) > 0 by decide, if_true]
      by_cases h : i < 0
      · simp only [h, if_true] <;> omega
      · simp only [h, if_false] <;> omega
theorem slicePick_cut (its : List Value) (lo hi : Option Int) : slicePick its.toArray lo hi none = ((its.drop (HT.sIx its.length 0 lo)).take (HT.sIx its.length its.length hi - HT.sIx its.length 0 lo)).toArray := by
  obtain ⟨h1, h2, h3⟩ := slice_bounds lo hi its.toArray.size
  unfold slicePick
  rw [h1, h2, h3]
  simp only [sliceRange_one, pick_run, List.size_toArray] <;> rfl
def rSlL (K : PySem.W.Frag) : V → Option Int → Option Int → Hp → VK → Prop := fun x lo hi H Q => ∃ a xs, x = .ref a ∧ SqL K H a xs ∧ ∀ p, H p = none → Q (.ref p) (upd H p (.lst (cutV xs lo hi)))
theorem sl_list : SlR X (rSlL X.K) := by
  intro pins s σ H x v vl vu lo hi sl Q I rx hs pl pu h
  obtain ⟨a, xs, rfl, hx, q⟩ := h
  cases rx
  obtain ⟨its, r, ht, hz⟩ := I.list hx
  have hlen := r.length
  refine ⟨"list", _, slot_list_getitem.lookup, ht.isList.typeIs, ?_⟩
  refine wpAny_getItem_list_slice ht.isList hs pl pu .none (by simp) ?_ (by rw [List.size_toArray] <;> omega)
  rw [slicePick_cut, ← hlen]
  refine ⟨.ref s.heap.objs.size, _, I.laid (t' := s.toks) (o := .lst (cutV xs lo hi)) (fun b ob q => Heap.get?_push_of_some _ q) (Nat.le_refl _) ?_, rfl, q _ (I.hok.fresh (Nat.le_refl _))⟩
  exact ⟨Nat.le_trans (cutV_length xs lo hi) hz, _, 0, (r.drop (HT.sIx xs.length 0 lo)).take (HT.sIx xs.length xs.length hi - HT.sIx xs.length 0 lo), Heap.get?_push_size _ rfl⟩

def flatV : V → Bool
  | .non => true
  | .bl _ => true
  | .int _ => true
  | .str _ => true
  | _ => false
def eqV : V → V → Bool
  | .non, .non => true
  | .bl a, .bl b => a == b
  | .bl a, .int b => (if a then 1 else 0) == b
  | .int a, .bl b => a == (if b then 1 else 0)
  | .int a, .int b => a == b
  | .str a, .str b => a == b
  | _, _ => false
theorem eqAt_V {A : Around} {s : Shared} {y x : V} {u v : Value} (ry : RelV y u) (rx : RelV x v) (fy : flatV y = true) (fx : flatV x = true) : SeqAt.EqAt A s u v (eqV y x) := by
  cases y with
  | non =>
    cases ry
    cases x with
    | non => cases rx; exact SeqAt.EqAt.same _
    | bl b => cases rx; exact SeqAt.EqAt.none_bool b
    | int b => obtain ⟨t, rfl⟩ := rx; exact SeqAt.EqAt.none_int b t
    | str b => obtain ⟨t, rfl⟩ := rx; exact SeqAt.EqAt.none_str b t
    | _ => exact absurd (show false = true from fx) Bool.false_ne_true
  | bl a =>
    cases ry
    cases x with
    | non => cases rx; exact SeqAt.EqAt.bool_none a
    | bl b => cases rx; exact SeqAt.EqAt.bool_bool a b
    | int b => obtain ⟨t, rfl⟩ := rx; exact SeqAt.EqAt.bool_int a b t
    | str b => obtain ⟨t, rfl⟩ := rx; exact SeqAt.EqAt.bool_str a b t
    | _ => exact absurd (show false = true from fx) Bool.false_ne_true
  | int a =>
    obtain ⟨t', rfl⟩ := ry
    cases x with
    | non => cases rx; exact SeqAt.EqAt.int_none a t'
    | bl b => cases rx; exact SeqAt.EqAt.int_bool a t' b
    | int b => obtain ⟨t, rfl⟩ := rx; exact SeqAt.EqAt.int_int a t' b t
    | str b => obtain ⟨t, rfl⟩ := rx; exact SeqAt.EqAt.int_str a t' b t
    | _ => exact absurd (show false = true from fx) Bool.false_ne_true
  | str a =>
    obtain ⟨t', rfl⟩ := ry
    cases x with
    | non => cases rx; exact SeqAt.EqAt.str_none a t'
    | bl b => cases rx; exact SeqAt.EqAt.str_bool a t' b
    | int b => obtain ⟨t, rfl⟩ := rx; exact SeqAt.EqAt.str_int a t' b t
    | str b => obtain ⟨t, rfl⟩ := rx; exact SeqAt.EqAt.str_str a t' b t
    | _ => exact absurd (show false = true from fx) Bool.false_ne_true
  | _ => exact absurd (show false = true from fy) Bool.false_ne_true
def eqU (x : V) (u : Value) : Bool := match u with
  | .none => eqV .non x
  | .bool b => eqV (.bl b) x
  | .int i _ => eqV (.int i) x
  | .str z _ => eqV (.str z) x
  | _ => false
theorem eqU_of {x y : V} {u : Value} (r : RelV y u) (f : flatV y = true) : eqU x u = eqV y x := by
  cases y with
  | non => cases r; rfl
  | bl b => cases r; rfl
  | int i => obtain ⟨t, rfl⟩ := r; rfl
  | str z => obtain ⟨t, rfl⟩ := r; rfl
  | _ => exact absurd (show false = true from f) Bool.false_ne_true
theorem any_eqU {x : V} : ∀ {xs : List V} {us : List Value}, Vals xs us → xs.all flatV = true → us.any (eqU x) = xs.any fun y => eqV y x
  | _, _, .nil, _ => rfl
  | y :: xs, u :: us, .cons r t, f => by
    rw [List.all_cons, Bool.and_eq_true] at f
    rw [List.any_cons, List.any_cons, eqU_of r f.1, any_eqU t f.2]
theorem mem_eqAt {A : Around} {s : Shared} {x : V} {v : Value} (rx : RelV x v) (fx : flatV x = true) : ∀ {xs : List V} {us : List Value}, Vals xs us → xs.all flatV = true → ∀ u ∈ us, SeqAt.EqAt A s u v (eqU x u)
  | _, _, .nil, _ => fun u hu => by cases hu
  | y :: xs, u :: us, .cons r t, f => fun u' hu => by
    rw [List.all_cons, Bool.and_eq_true] at f
    rcases List.mem_cons.mp hu with rfl | hu
    · rw [eqU_of r f.1]; exact eqAt_V r rx f.1 fx
    · exact mem_eqAt rx fx t f.2 u' hu
def inV (x : V) (xs : List V) : Bool := xs.any fun y => eqV y x
def rIn (K : PySem.W.Frag) (neg : Bool) : R2 := fun x y H Q => ∃ p xs, y = .ref p ∧ (SqL K H p xs ∨ SqT K H p xs) ∧ flatV x = true ∧ xs.all flatV = true ∧ Q (.bl (if neg then !inV x xs else inV x xs)) H
theorem op_notIn_seq : OpR X (compareOp .NotIn) (rIn X.K true) := by
  intro pins s σ H x y v u Q I rx ry h
  obtain ⟨p, xs, rfl, hq, fx, fs, q⟩ := h
  cases ry
  rcases hq with hq | hq
  · obtain ⟨its, r, pl, hz⟩ := I.list hq
    refine SeqAt.notIn_listAt (eqU x) pl.isList (fun w hw => mem_eqAt rx fx r fs w (by simpa using hw)) ⟨.bl _, H, I, rfl, ?_⟩
    rw [show its.toArray.any (eqU x) = its.any (eqU x) by simp, any_eqU r fs]
    exact q
  · obtain ⟨its, r, pl, hz⟩ := I.tuple hq
    refine SeqAt.notIn_tupleAt (eqU x) pl (fun w hw => mem_eqAt rx fx r fs w (by simpa using hw)) ⟨.bl _, H, I, rfl, ?_⟩
    rw [show its.toArray.any (eqU x) = its.any (eqU x) by simp, any_eqU r fs]
    exact q
theorem call_len_seq : CallR X (.builtin "len") (fun xs H Q => ∃ p ys, xs = [.ref p] ∧ (SqL X.K H p ys ∨ SqT X.K H p ys) ∧ Q (.int ys.length) H) := by
  intro pins s σ H xs us Q I r h
  obtain ⟨p, ys, rfl, hq, q⟩ := h
  obtain ⟨u, rfl, rx⟩ := vals1 r
  cases rx
  have hn := line63
  rcases hq with hq | hq
  · obtain ⟨its, r', pl, hz⟩ := I.list hq
    have hlen := r'.length
    exact Calls.call_len_list pl.isList (by simp only [List.size_toArray] <;> omega) ⟨.int ys.length, H, I.tok _, ⟨s.toks + 1, by rw [List.size_toArray, hlen]⟩, q⟩
  · obtain ⟨its, r', pl, hz⟩ := I.tuple hq
    have hlen := r'.length
    exact len_tuple pl (by simp only [List.size_toArray] <;> omega) ⟨.int ys.length, H, I.tok _, ⟨s.toks + 1, by rw [List.size_toArray, hlen]⟩, q⟩
theorem call_list_of : CallR X (.type "list") (fun xs H Q => ∃ p ys, xs = [.ref p] ∧ (SqL X.K H p ys ∨ SqT X.K H p ys) ∧ ∀ l, H l = none → Q (.ref l) (upd H l (.lst ys))) := by
  intro pins s σ H xs us Q I r h
  obtain ⟨p, ys, rfl, hq, q⟩ := h
  obtain ⟨u, rfl, rx⟩ := vals1 r
  cases rx
  have fin : ∀ (its : List Value), Vals ys its → ys.length ≤ sizeLine → ∀ (h' : Heap) (c' : Nat), (∀ b o', s.heap.get? b = some o' → h'.get? b = some o') →
      h'.get? s.heap.objs.size = some { cls := .type "list", dict := none, data := .seq its.toArray c', slots := #[] } → EP X pins σ Q (.ref s.heap.objs.size) { s with heap := h' } := fun its r' hz h' c' kp e =>
    ⟨.ref s.heap.objs.size, _, I.laid (t' := s.toks) kp (Nat.le_refl _) (show ObjOk X.prog X.w _ h' _ (.lst ys) from ⟨hz, its, c', r', e⟩), rfl, q _ (I.hok.fresh (Nat.le_refl _))⟩
  rcases hq with hq | hq
  · obtain ⟨its, r', pl, hz⟩ := I.list hq
    have hlen := r'.length
    obtain ⟨o, ho, hc, n, hd⟩ := pl.isList
    exact call_list_seq p (.inl rfl) ho hc hd (fun h' c' kp e => fin its r' hz h' c' kp e) (by simp only [List.size_toArray] <;> omega)
  · obtain ⟨its, r', pl, hz⟩ := I.tuple hq
    have hlen := r'.length
    obtain ⟨o, ho, hc, n, hd⟩ := pl
    exact call_list_seq p (.inr rfl) ho hc hd (fun h' c' kp e => fin its r' hz h' c' kp e) (by simp only [List.size_toArray] <;> omega)
def tyV (K : PySem.W.Frag) (T : String) (x : V) (H : Hp) : Prop := match x with
  | .str _ => T = "str"
  | .int _ => T = "int"
  | .ref p => (T = "list" ∧ ∃ xs, SqL K H p xs) ∨ (T = "tuple" ∧ ∃ o, K.lookup p = some o ∧ o.cls = .type "tuple" ∧ o.dict = none) ∨
      (T = "dict" ∧ ((∃ kvs, H p = some (.dK kvs)) ∨ ∃ kvs, H p = some (.dT kvs))) ∨ (T = "set" ∧ ∃ S n, H p = some (.set S n))
  | _ => False
theorem tyV_is {pins : List (Addr × Obj)} {σ : St} {H : Hp} {s : Shared} {T : String} {x : V} {v : Value} (I : Inv X pins σ H s) (r : RelV x v) (ty : tyV X.K T x H) :
    s.TypeIs v T ∧ ∀ a, v = .ref a → ∃ ob, s.heap.get? a = some ob ∧ ob.dict = none := by
  cases x with
  | str z =>
    obtain ⟨t, rfl⟩ := r
    cases (show T = "str" from ty)
    exact ⟨typeIs_str s z t, fun _ e => nomatch e⟩
  | int i =>
    obtain ⟨t, rfl⟩ := r
    cases (show T = "int" from ty)
    exact ⟨typeIs_int s i t, fun _ e => nomatch e⟩
  | ref p =>
    cases r
    rcases ty with ⟨rfl, xs, hq⟩ | ⟨rfl, o, hk, hc, hd⟩ | ⟨rfl, hk⟩ | ⟨rfl, S, n, hk⟩
    · obtain ⟨its, _, pl, _⟩ := I.list hq
      refine ⟨pl.isList.typeIs, fun a e => ?_⟩
      cases e
      obtain ⟨o, n, e, c, hd, _⟩ := pl
      exact ⟨o, e, hd⟩
    · refine ⟨⟨o, I.kIn p o hk, hc⟩, fun a e => ?_⟩
      cases e
      exact ⟨o, I.kIn _ o hk, hd⟩
    · have z : ∃ o, s.heap.get? p = some o ∧ o.ExactDict := by
        rcases hk with ⟨kvs, hk⟩ | ⟨kvs, hk⟩
        · obtain ⟨_, _, _, _, o, _, _, e, ex, _⟩ := I.hok p _ hk
          exact ⟨o, e, ex⟩
        · obtain ⟨_, _, _, _, o, _, _, e, ex, _⟩ := I.hok p _ hk
          exact ⟨o, e, ex⟩
      obtain ⟨o, e, ex⟩ := z
      refine ⟨⟨o, e, ex.1⟩, fun a e2 => ?_⟩
      cases e2
      exact ⟨o, e, ex.2.1⟩
    · obtain ⟨o, _, _, _, e, ex, _⟩ := I.hok p _ hk
      refine ⟨⟨o, e, ex.1⟩, fun a e2 => ?_⟩
      cases e2
      exact ⟨o, e, ex.2.1⟩
  | _ => exact False.elim ty
def tBM (K : PySem.W.Frag) (T : String) (r : V → List V → Hp → VK → Prop) (to : TE) (t : TA) : TE := fun σ H Q => to σ H fun x H1 => tyV K T x H1 ∧ t σ H1 fun xs H2 => r x xs H2 Q
variable {o e : Expr} {es : List Expr} {to : TE} {t : TA} {name : Str} {apos cpos : Pos} {T id : String} {r : V → List V → Hp → VK → Prop}
theorem pe_bm (pa : PlainAttrs T) (slot : Slot T name id) (hty : typeOf (.builtin id) = pure (.type "method_descriptor")) (hm : MtR X id r) (ho : PE X o to) (ha : PA X (e :: es) t)
    (hbase : attributeBase o name X.env (eval o X.env) = eval o X.env := by rfl)
    (hfew : ((backTo cpos (starEach (e :: es) X.env)).all (fun x => !x.1) && (backToKw cpos (keywordEach [] X.env)).all (fun x => x.1.isSome)
      && decide ((e :: es).length + ([] : List Keyword).length + (if ([] : List Keyword).isEmpty then 0 else 1) < 30)) = true := by rfl)
    (hline : (apos.endLine == cpos.line) = true := by rfl) (hs : starEach (e :: es) X.env = (false, eval e X.env) :: starEach es X.env := by rfl) (hplain : (backTo cpos (starEach es X.env)).any (·.1) = false := by rfl) :
    PE X (.Call (.Attribute o name apos) (e :: es) [] cpos) (tBM X.K T r to t) := by
  intro pins s σ H Q I h
  refine wpAny_Call_method_late hbase hfew hline rfl (thn (ho pins s σ H _ I h) fun v s1 ⟨x, H1, I1, r1, ty, q1⟩ => ?_)
  obtain ⟨h1, h2⟩ := tyV_is I1 r1 ty
  refine ⟨T, id, pa, slot, hty, h1, h2, ?_⟩
  have hA := ha cpos pins s1 σ H1 _ I1 q1
  rw [hs] at hA ⊢
  refine Calls.callWith_builtin (by show (false || (backTo cpos (starEach es X.env)).any (·.1)) = false; rw [hplain] <;> rfl) (Calls.evalArgs_plain ?_)
  exact thn hA fun us s2 ⟨vs, H2, I2, r2, q2⟩ => hm pins s2 σ H2 x vs v us Q I2 r1 r2 q2
end
end L2

namespace L2
open PySem PySem.Spec PyProof.Rows

def MtM (X : Cx) (id : String) (r : V → List V → Hp → VK → Prop) : Prop :=
  ∀ (pins : List (Addr × Obj)) (s : Shared) (σ : St) (H : Hp) (x : V) (xs : List V) (v : Value) (us : List Value) (Q : VK), Inv X pins σ H s → RelV x v → Vals xs us → r x xs H Q →
    wpAny (model X.prog X.w) X.A (call (.builtin id) (v :: us)) (EP X pins σ Q) X.xe s

theorem Vals.one : ∀ {x : V} {us : List Value}, Vals [x] us → ∃ u, us = [u] ∧ RelV x u
  | _, _, .cons r .nil => ⟨_, rfl, r⟩
theorem Vals.two : ∀ {x y : V} {us : List Value}, Vals [x, y] us → ∃ u v, us = [u, v] ∧ RelV x u ∧ RelV y v
  | _, _, _, .cons r (.cons q .nil) => ⟨_, _, rfl, r, q⟩
theorem Vals.eraseIdx : ∀ {xs : List V} {us : List Value} (i : Nat), Vals xs us → Vals (xs.eraseIdx i) (us.eraseIdx i)
  | _, _, _, .nil => .nil
  | _, _, 0, .cons _ t => t
  | _, _, i + 1, .cons r t => .cons r (Vals.eraseIdx i t)
theorem Vals.rep {xs : List V} {us : List Value} (h : Vals xs us) : ∀ k : Nat, Vals (List.replicate k xs).flatten (List.replicate k us).flatten
  | 0 => .nil
  | k + 1 => by
    rw [List.replicate_succ, List.replicate_succ, List.flatten_cons, List.flatten_cons]
    exact Vals.append h (Vals.rep h k)
theorem len_erase {α : Type} : ∀ (l : List α) (i : Nat), (l.eraseIdx i).length ≤ l.length
  | [], _ => Nat.le_refl _
  | _ :: _, 0 => Nat.le_succ _
  | _ :: r, i + 1 => Nat.succ_le_succ (len_erase r i)
theorem foldl_rep (its : List Value) : ∀ (k : Nat) (acc : List Value),
    List.foldl (fun x1 x2 => x1 ++ x2) acc.toArray (List.replicate k its.toArray) = (acc ++ (List.replicate k its).flatten).toArray
  | 0, acc => by simp
  | k + 1, acc => by
    have e : acc.toArray ++ its.toArray = (acc ++ its).toArray := by simp
    have e2 : (acc ++ its) ++ (List.replicate k its).flatten = acc ++ (List.replicate (k + 1) its).flatten := by
      rw [List.replicate_succ, List.flatten_cons, List.append_assoc]
    rw [← e2, ← foldl_rep its k (acc ++ its), ← e, List.replicate_succ, List.foldl_cons]

section
variable {X : Cx} {pins : List (Addr × Obj)} {σ : St} {H : Hp} {s : Shared} {l b : Addr} {xs ys zs : List V}

theorem Inv.lset {its its' : List Value} {n : Nat} {f : Array Value → Array Value} {t' : Nat} (I : Inv X pins σ H s) (hH : H l = some (.lst xs))
    (e : s.heap.get? l = some { cls := .type "list", data := .seq its.toArray n }) (hf : f its.toArray = its'.toArray) (hv : Vals ys its') (hz : ys.length ≤ sizeLine) :
    Inv X pins σ (upd H l (.lst ys)) { s with heap := s.heap.update l (Obj.mapSeq f), toks := t' } := by
  have q := PySem.IsL.update e f
  rw [hf] at q
  refine I.write (x := l) (e := l) (by rw [hH]; exact trivial) (.inl rfl) (fun b' u hb hu => (Heap.get?_update_other s.heap (Obj.mapSeq f) (Ne.symm hb)).trans hu) ⟨_, q⟩ ?_
  exact ⟨hz, its', _, hv, q⟩
theorem Inv.lnew {its : List Value} {t' : Nat} (I : Inv X pins σ H s) (hv : Vals ys its) (hz : ys.length ≤ sizeLine) :
    Inv X pins σ (upd H s.heap.objs.size (.lst ys)) { s with heap := s.heap.push { cls := .type "list", data := .seq its.toArray }, toks := t' } :=
  I.laid (fun _ _ q => Heap.get?_push_of_some _ q) (Nat.le_refl _) ⟨hz, its, 0, hv, Heap.get?_push_size _ rfl⟩
theorem Inv.fresh (I : Inv X pins σ H s) : H s.heap.objs.size = none := I.hok.fresh (Nat.le_refl _)
theorem Inv.lstM (I : Inv X pins σ H s) (hH : H l = some (.lst xs)) : xs.length ≤ sizeLine ∧ ∃ (its : List Value) (n : Nat), Vals xs its ∧ xs.length = its.length ∧ s.heap.get? l = some { cls := .type "list", data := .seq its.toArray n } := by
  obtain ⟨z, its, n, r, e⟩ := I.hok l _ hH
  exact ⟨z, its, n, r, r.length, e⟩

theorem notLongL {n : Nat} (h : n ≤ sizeLine) : Builtin.List.listTooLong n = false := by
  unfold Builtin.List.listTooLong
  exact decide_eq_false (by omega)
end

section
variable {X : Cx}

def rAppend : V → List V → Hp → VK → Prop := fun x vs H Q => ∃ l xs y, x = .ref l ∧ vs = [y] ∧ H l = some (.lst xs) ∧ xs.length < sizeLine ∧ Q .non (upd H l (.lst (xs ++ [y])))
theorem mt_append : MtM X "list.append" rAppend := by
  intro pins s σ H x vs v us Q I rx rv h
  obtain ⟨l, xs, y, rfl, rfl, hH, hz, q⟩ := h
  cases rx
  obtain ⟨u, rfl, ru⟩ := rv.one
  obtain ⟨z, its, n, r, hl, e⟩ := I.lstM hH
  refine call_meets F.slot_list_append ⟨_, e, rfl⟩ F.entry_list_append (F.args_list_append_2 _ _) (PySem.list_append l its.toArray n u (by rw [List.size_toArray]; omega)) ⟨e, ?_⟩
  refine ⟨.non, _, I.lset (its' := its ++ [u]) hH e (by simp) (r.append (.cons ru .nil)) ?_, rfl, q⟩
  rw [List.length_append, List.length_singleton]
  omega

def rPopAt : V → List V → Hp → VK → Prop := fun x vs H Q => ∃ l xs i k y, x = .ref l ∧ vs = [.int i] ∧ H l = some (.lst xs) ∧ -(2 ^ 63) ≤ i ∧ i < 2 ^ 63 ∧ seqIndex? i xs.length = some k ∧ xs[k]? = some y ∧ Q y (upd H l (.lst (xs.eraseIdx k)))
theorem mt_popAt : MtM X "list.pop" rPopAt := by
  intro pins s σ H x vs v us Q I rx rv h
  obtain ⟨l, xs, i, k, y, rfl, rfl, hH, h1, h2, hk, hy, q⟩ := h
  cases rx
  obtain ⟨u, rfl, ru⟩ := rv.one
  obtain ⟨t, rfl⟩ := ru
  obtain ⟨z, its, n, r, hl, e⟩ := I.lstM hH
  obtain ⟨w, hw, rw'⟩ := r.get hy
  refine call_meets F.slot_list_pop ⟨_, e, rfl⟩ F.entry_list_pop (F.args_list_pop_2 _ _)
    (MeetsSeq.list_pop_at l its.toArray n i t k w (fitsIndex_both h1 h2) (by rw [List.size_toArray, ← hl]; exact hk) (by rw [← Array.getElem?_toList]; exact hw) (by rw [List.size_toArray]; omega)) ⟨e, ?_⟩
  refine ⟨y, _, I.lset (its' := its.eraseIdx k) hH e ?_ (r.eraseIdx k) ?_, rw', q⟩
  · show its.toArray.eraseIdxIfInBounds k = (its.eraseIdx k).toArray
    rw [List.eraseIdxIfInBounds_toArray]
  · have := len_erase xs k
    omega

def rRep : R2 := fun x y H Q => ∃ l k xs, x = .ref l ∧ y = .int k ∧ H l = some (.lst xs) ∧ -(2 ^ 63) ≤ k ∧ k < 2 ^ 63 ∧ xs.length * k.toNat ≤ sizeLine ∧
  ∀ p, H p = none → Q (.ref p) (upd H p (.lst (List.replicate k.toNat xs).flatten))
theorem len_rep {α : Type} (xs : List α) (k : Nat) : (List.replicate k xs).flatten.length = k * xs.length := by
  induction k with
  | zero => simp
  | succ k ih => rw [List.replicate_succ, List.flatten_cons, List.length_append, ih, Nat.succ_mul, Nat.add_comm]
theorem op_rep : OpR X (binaryOp .Mult) rRep := by
  intro pins s σ H x y v u Q I rx ry h
  obtain ⟨l, k, xs, rfl, rfl, hH, h1, h2, hz, q⟩ := h
  cases rx
  obtain ⟨t, rfl⟩ := ry
  obtain ⟨z, its, n, r, hl, e⟩ := I.lstM hH
  have hlen : its.toArray.size * k.toNat ≤ sizeLine := by rw [List.size_toArray, ← hl]; exact hz
  have hcap : ¬ its.toArray.size * k.toNat > (2 ^ 63 - 1) / 8 := by
    have : (sizeLine : Nat) ≤ (2 ^ 63 - 1) / 8 := by decide
    omega
  have hfit : ¬ (!Builtin.List.listFitsIndex k) = true := by
    rw [fitsIndex_both h1 h2]
    exact Bool.false_ne_true
  have hlong : ¬ Builtin.List.listTooLong (its.toArray.size * k.toNat) = true := by
    rw [notLongL hlen]
    exact Bool.false_ne_true
  have hnew : List.foldl (fun x1 x2 => x1 ++ x2) #[] (List.replicate (if its.toArray.isEmpty = true then 0 else k.toNat) its.toArray) = (List.replicate k.toNat its).flatten.toArray := by
    have f0 : ∀ m : Nat, List.foldl (fun x1 x2 => x1 ++ x2) #[] (List.replicate m its.toArray) = (List.replicate m its).flatten.toArray := fun m => by
      have := foldl_rep its m []
      rw [List.nil_append] at this
      exact this
    rw [f0]
    cases its with
    | nil => simp
    | cons a r' => rw [if_neg (by simp)]
  refine wpAny_binaryOp_repeat_ref (T := "list") (U := "int") (by decide) ⟨_, e, rfl⟩ (fun s' => typeIs_int s' k t) noFill_list_mul F.fills_int_mul F.slot_int_rmul repeat_list F.slot_int_index.lookup
    (call_meets F.slot_int_rmul (typeIs_int s k t) F.entry_int_rmul (F.args_int_rmul_2 _ _) (int___rmul___int_list k t l its.toArray n)
      ⟨e, rfl, ⟨_, e, rfl⟩, call_meets F.slot_list_mul ⟨_, e, rfl⟩ F.entry_list_mul (F.args_list_mul_2 _ _) (AutoListH.list___mul___list_int_3 l its.toArray n k t hfit hcap hlong) ⟨e, ?_⟩⟩)
  rw [hnew]
  exact ⟨.ref _, _, I.lnew (t' := s.toks) (r.rep k.toNat) (by rw [len_rep, Nat.mul_comm]; exact hz), rfl, q _ I.fresh⟩

end

section
variable {prog : Program} {w : World} {A : Around} {E : Value → Shared → Prop} {s : Shared}
end

section
variable {X : Cx}
end
end L2

namespace Att
open PySem PySem.W PySem.Calls PyProof.Rows

theorem ints_of_wellAll {P : Params} {h : Heap} : ∀ (ns : List Int) (vs : List Value), WellAll P h vs (ns.map WData.int) → IntsAre vs ns := by
  intro ns
  induction ns with
  | nil =>
    intro vs w
    rw [List.map_nil] at w
    cases w
    exact .nil
  | cons n ns ih =>
    intro vs w
    rw [List.map_cons] at w
    cases w with
    | cons a b =>
      cases a
      exact .cons _ _ (ih _ b)

theorem script_of {l : OpenLaw} {n : Nat} (hn : l.most = some n) {P : Params} {h : Heap} {args : List WData} {vals : List Value}
    (hpre : l.row.toRowW.claim.pre args = true) (hwl : WellAll P h vals args) :
    ∃ a vs ns, vals = [Value.ref a] ∧ args = [WData.list (ns.map WData.int)] ∧ h.get? a = some { cls := .type "list", data := .seq vs.toArray } ∧ IntsAre vs ns ∧ ns.length ≤ n := by
  have hsh : WShape.hasAll [] args [.list .int] = true := (pre_splitW hpre).1
  have hc : l.pre.holds [] { args := args } = true := (pre_splitW hpre).2
  obtain ⟨d, r, rfl, h1, h2⟩ := hasAllW_cons hsh
  obtain rfl := hasAllW_nil h2
  obtain ⟨xs, rfl, h3⟩ := hasW_list h1
  obtain ⟨ns, rfl⟩ := items_int h3
  have hlen : ns.length ≤ n := by
    unfold OpenLaw.pre at hc
    have h4 : (WTm.not (.lt (.lit (.int (n : Int))) (.len (.arg 0)))).holds [] { args := [.list (ns.map .int)] } = true := by
      have h4 := (holds_andW hc).1
      rw [hn] at h4
      exact h4
    have h5 := condW_of h4 (w_not (w_lt w_lit (w_len_list (w_arg rfl))))
    rw [List.length_map] at h5
    refine Nat.le_of_not_lt fun q => ?_
    have q' : (n : Int) < ((ns.length : Nat) : Int) := by omega
    first
      | (rw [decide_eq_true q'] at h5; exact absurd h5 (by decide))
      | (simp at h5; omega)
  cases hwl with
  | cons w1 w2 =>
    cases w2
    cases w1 with
    | list ho hall => exact ⟨_, _, ns, rfl, rfl, ho, ints_of_wellAll ns _ hall, hlen⟩

theorem post_true (l : OpenLaw) (args : List WData) : l.row.toRowW.claim.post args (.bool true) args = true :=
  postW_of (r := l.row.toRowW) (X := (true == true))
    (show WShape.has [] (.bool true) .bool = true by first | rfl | decide | simp [WShape.has, WShape.arms, WShape.armsAll])
    (show (WTm.eq .res (.lit (.bool true))).value [] { args := args, res := some (.bool true), after := args } = some (.bool (true == true)) from w_eq_bool (w_res rfl) w_lit) rfl

theorem attach_call {l : OpenLaw} {n : Nat} {q : Program} {loose : List Str} {XP : (Str → Option Value) → Heap → Prop} {YP : World → Heap → Prop} {d : DefRec}
    (hn : l.most = some n) (hdf : d.params.defaults = [])
    (call : ∀ (w : World) (s₀ s₁ : Shared) (mg mb : Str → Option Value) (fa : Addr) (o : Obj) (pm cd doc : Value) (a : Addr) (vs : List Value) (ns : List Int),
      Ground q loose [] XP w s₀ mg mb s₁.heap → YP w s₁.heap →
      s₁.heap.get? fa = some o → o.data = .func (docDef d.name d.params d.body d.scope pm cd doc) → s₁.heap.CodeRec cd d.name → mg d.name = some (.ref fa) →
      s₁.heap.get? a = some { cls := .type "list", data := .seq vs.toArray } → IntsAre vs ns → ns.length ≤ n → s₁.gens = #[] →
      codeAny (model l.prog w) callerA (.call (.ref fa) ⟨[.ref a], []⟩) (fun r s' => r = .ok (.ret (.bool true)) ∧ OldK s₁.heap s'.heap ∧ s'.os = s₁.os ∧ AllBare s'.gens) s₁) :
    WalkO q loose XP YP l.row.toRowW d [] (fun f vs => PySem.call f vs) := by
  intro w s₀ s₁ mg mb G Y fa o pm cd doc dV kV ho hd hcd hD hmg hg args vals as hpre hlay hrd hwl hlo
  obtain rfl : dV = .none := Dflts.none hD hdf
  obtain rfl : kV = .none := Dflts.noKw hD
  obtain ⟨a, vs, ns, rfl, rfl, hobj, hints, hlen⟩ := script_of hn hpre hwl
  refine enter_call (codeAny_mono (call w s₀ s₁ mg mb fa o pm cd doc a vs ns G Y ho (fd_plain hd) hcd hmg hobj hints hlen hg) fun r s' hq => ?_)
  obtain ⟨rfl, h2, h3, h4⟩ := hq
  exact ⟨.inl ⟨.bool true, .bool true, [], rfl, fun _ => rfl, .bool true, post_true l _, fun _ => ⟨List.Pairwise.nil, fun _ hm => (nomatch hm)⟩⟩, h2, h3, h4⟩

section
variable {prog : Program} {w : World} {A : Around} {E : Value → Shared → Prop} {s : Shared} {K : Frag}

end
end Att

namespace L2
open PySem PySem.Spec PyProof.Rows

theorem vals_ints : ∀ {vs : List Value} {ns : List Int}, IntsAre vs ns → Vals (ns.map V.int) vs
  | _, _, .nil => .nil
  | _, _, .cons n t h => .cons ⟨t, rfl⟩ (vals_ints h)

def Only (H : Hp) : Prop := ∀ b, H b = none ∨ ∃ o xs, H b = some (.frz o (.lst xs))

theorem law_call {P : Program} {w : World} {K : PySem.W.Frag} {mg mb : Str → Option Value} {CX : CXT} {k : Nat} {fa a : Addr} {fd : FuncData} {x : Str} {sp : Sp} {s₁ : Shared} {vs : List Value} {ns : List Int}
    (KX : K.In s₁.heap) (hns : s₁.heap.Ns mainGlobals mg) (hb : s₁.heap.Ns builtinsNs mb) (hbb : ∀ x : Str, x ≠ "__name__" → mb x = bootBuiltins x) (hlim : s₁.heap.NoLimit) (hg : s₁.gens = #[])
    (ha : s₁.heap.get? a = some { cls := .type "list", data := .seq vs.toArray }) (hi : IntsAre vs ns) (hl : ns.length ≤ sizeLine) (hr : Room k callerA)
    (F : ∀ base : Heap, K.In base → base.Ns mainGlobals mg → FnOk P w K mg base CX k fa fd [x] sp) (hbind : ∀ (s : Shared) (u : Value), BindsTo s fd ⟨[u], []⟩ [(x, u)])
    (hsp : ∀ H : Hp, Only H → SqL K H a (ns.map V.int) → sp [.ref a] H (fun v _ => v = .bl true) fun _ _ _ => False)
    (hCX : ∀ H e s', CX [] H s₁ (fun _ _ _ => False) e s' → False) :
    codeAny (model P w) callerA (.call (.ref fa) ⟨[.ref a], []⟩) (fun r s' => r = .ok (.ret (.bool true)) ∧ OldK s₁.heap s'.heap ∧ s'.os = s₁.os ∧ AllBare s'.gens) s₁ := by
  have rv := vals_ints hi
  have lenV := hi.length
  -- from an abstract heap in which nothing but the script may be tracked
  have core : ∀ H : Hp, Only H → SqL K H a (ns.map V.int) → HOk P w H s₁.heap → (∀ b, H b ≠ none → b = a) → (H a ≠ none → K.lookup a = none) →
      codeAny (model P w) callerA (.call (.ref fa) ⟨[.ref a], []⟩) (fun r s' => r = .ok (.ret (.bool true)) ∧ OldK s₁.heap s'.heap ∧ s'.os = s₁.os ∧ AllBare s'.gens) s₁ := by
    intro H hO hS hok hA hK
    have base_of : ∀ {b : Addr} {o : Obj}, s₁.heap.get? b = some o → H b = none → (hidT s₁.heap H).get? b = some o := fun e n => hidT_get e n
    have noA : ∀ {b : Addr} {o : Obj} {es : Array DictEntry} {ep : Nat}, s₁.heap.get? b = some o → o.data = .dict es ep → H b = none := fun {b o es ep} e d => by
      cases q : H b with
      | none => rfl
      | some u =>
        have e' : b = a := hA b (by rw [q]; simp)
        subst e'
        rw [ha] at e; cases e
        have d' : Data.seq vs.toArray _ = Data.dict es ep := d
        cases d'
    have nsK : ∀ {b : Addr} {m : Str → Option Value}, s₁.heap.Ns b m → (hidT s₁.heap H).Ns b m := fun {b m} ⟨o, es, ep, e, d, r⟩ => ⟨o, es, ep, base_of e (noA e d), d, r⟩
    have hKb : K.In (hidT s₁.heap H) := fun b o e => base_of (KX b o e) (by
      cases q : H b with
      | none => rfl
      | some u =>
        have e' : b = a := hA b (by rw [q]; simp)
        subst e'
        rw [hK (by rw [q]; simp)] at e; cases e)
    have hM : Mod K mg (hidT s₁.heap H) := ⟨hKb, nsK hns, ⟨mb, nsK hb, hbb⟩, let ⟨mc, h1, h2⟩ := hlim; ⟨mc, nsK h1, h2⟩⟩
    have e0 : Env0 P w K mg (hidT s₁.heap H) callerA [] s₁ H := ⟨rfl, hM, fun b o e => of_hidT e, Nat.le_of_eq (hidT_size _ _), trivial, fun b hb => absurd (show b ∈ ([] : List Addr) from hb) (by simp), hok, .of_eq hg⟩
    refine codeAny_mono ((F _ hKb (nsK hns)).run callerA [] s₁ H ⟨[.ref a], []⟩ [.ref a] [.ref a] _ _ hr e0 (hbind s₁ (.ref a)) (.cons rfl .nil) (hsp H hO hS)) fun r s' h => ?_
    cases r with
    | error e => exact (hCX H e s' h).elim
    | ok fl =>
      cases fl with
      | next => exact False.elim h
      | brk => exact False.elim h
      | cont => exact False.elim h
      | ret u =>
        obtain ⟨v, H', os, bare, un, hok', r', q⟩ := h
        have q' : v = .bl true := q
        subst q'
        obtain rfl : u = Value.bool true := r'
        refine ⟨rfl, OldK.of_keep fun b o e => ?_, os, bare⟩
        cases q : H b with
        | none => exact un.keep b o e q (by intro z; exact absurd (show b ∈ ([] : List Addr) from z) (by simp)) (by simp)
        | some u =>
          rcases hO b with z | ⟨ob, xs, z⟩
          · rw [q] at z; cases z
          · have z2 := un.frzs b ob _ z
            obtain ⟨e1, _⟩ := hok b _ z
            obtain ⟨e2, _⟩ := hok' b _ z2
            rw [e] at e1; cases e1
            exact e2
  cases hk : K.lookup a with
  | some o =>
    -- the script is one of the module's own objects
    have e := KX a o hk
    rw [ha] at e
    cases e
    refine core (fun _ => none) (fun _ => .inl rfl) (.inr ⟨_, vs.toArray, _, hk, rfl, rfl, rfl, by rw [List.size_toArray, lenV]; exact hl, by simpa using rv⟩) (fun b u z => by have z' : (none : Option HO) = some u := z; cases z') (fun b z => absurd rfl z) fun z => absurd rfl z
  | none =>
    refine core (fun b => if b = a then some (.frz { cls := .type "list", data := .seq vs.toArray } (.lst (ns.map V.int))) else none) (fun b => ?_) (.inl (.inr ⟨{ cls := .type "list", data := .seq vs.toArray }, if_pos rfl⟩)) (fun b u z => ?_) (fun b z => ?_) fun _ => hk
    · by_cases hb : b = a
      · exact .inr ⟨_, _, if_pos hb⟩
      · exact .inl (if_neg hb)
    · by_cases hb : b = a
      · have z' := (if_pos hb).symm.trans z
        cases z'
        subst hb
        exact ⟨ha, by rw [List.length_map]; exact hl, vs, _, rv, ha⟩
      · have z' := (if_neg hb).symm.trans z
        cases z'
    · by_cases hb : b = a
      · exact hb
      · exact absurd (if_neg hb) z
end L2

namespace L2
open PySem PySem.Spec PyProof.Rows

theorem walk_of {l : PySem.W.OpenLaw} {n k : Nat} {q : Program} {loose : List Str} {XP : (Str → Option Value) → Heap → Prop} {YP : World → Heap → Prop} {d : DefRec} {K : Params → PySem.W.Frag} {CX : World → CXT} {sp : World → Sp} {x : Str}
    (hn : l.most = some n) (hn2 : n ≤ sizeLine) (hdf : d.params.defaults = []) (hr : Room k callerA)
    (hY : ∀ (w : World) (h : Heap), YP w h → (K w.params).In h)
    (F : ∀ (w : World) (mg : Str → Option Value) (fa : Addr) (h : Heap), (K w.params).In h → h.Ns mainGlobals mg → mg d.name = some (.ref fa) →
      ∃ fd : FuncData, (∀ (s : Shared) (u : Value), BindsTo s fd ⟨[u], []⟩ [(x, u)]) ∧
        ∀ base : Heap, (K w.params).In base → base.Ns mainGlobals mg → FnOk l.prog w (K w.params) mg base (CX w) k fa fd [x] (sp w))
    (hsp : ∀ (w : World) (H : Hp) (a : Addr) (ns : List Int), ns.length ≤ n → Only H → SqL (K w.params) H a (ns.map V.int) → sp w [.ref a] H (fun v _ => v = .bl true) fun _ _ _ => False)
    (hCX : ∀ (w : World) (H : Hp) (s : Shared) (e : Value) (s' : Shared), CX w [] H s (fun _ _ _ => False) e s' → False) :
    PySem.W.WalkO q loose XP YP l.row.toRowW d [] (fun f vs => PySem.call f vs) := by
  refine Att.attach_call hn hdf fun w s₀ s₁ mg mb fa o pm cd doc a vs ns G Y ho hd hcd hmg hobj hints hlen hg => ?_
  have KX := hY w _ Y
  obtain ⟨fd, hb, hF⟩ := F w mg fa _ KX G.T.g hmg
  exact law_call KX G.T.g G.T.b G.T.builtins G.T.nolimit hg hobj hints (Nat.le_trans hlen hn2) hr hF hb (fun H hO hS => hsp w H a ns hlen hO hS) fun H e s' => hCX w H s₁ e s'
end L2

/- THE LAST THEOREM (shape; LID, My.* are yours):
   My.Adr: a structure of the addresses that your layer names (classes, functions); My.Txt K t: a structure (Prop) of the equations over K;
   My.txt_mk : {K} {implicit addresses ..} (e1 : nsIn K mainGlobals "law" = some (some (.ref f))) (e2 : K.lookup f = some ⟨oc, od, .func (fnOf "law" "law" params body scope dV kV doc pm an cdv ct), sl⟩) (e3 : codeIn K cdv "law" = true) .. : ∃ t, My.Txt K t

set_option maxRecDepth 100000 in
set_option maxHeartbeats 0 in
theorem PySem.Challenge.cw_LID_holds : PySem.Challenge.rw_LID.Holds := by
  w_on; o_law; k_head; (case hw => w_witness2)
  k_fill
  refine L2.walk_of (l := PySem.Challenge.rw_LID) (n := 63) (k := 40) (x := "script") (CX := fun w => ..) (sp := fun _ => My.sp_law) rfl (by decide) rfl ⟨rfl, by decide, by decide⟩ (fun w h Y => PySem.W.kIn_of Y) ?F ?S ?C
  case F =>
    intro w mg fa h KX G hmg
    have T : ∃ t, My.Txt (L2.KOf KX) t := by
      dsimp only [L2.KOf]                          -- K must stand as «<heap const> w.params» for k_is
      refine' My.txt_mk ?e1 ?e2 ?e3 ..
      (case e1 => PySem.W.k_is)                    -- in the order: a name -> its address -> its object -> its parts
      (case e2 => PySem.W.k_is)
      ..
    obtain ⟨t, T⟩ := T
    have e0 := hmg.symm.trans (PySem.W.mg_of KX G T.law)
    cases e0                                       -- fa is the law's own address
    exact ⟨_, fun s u => .of_eq rfl, fun base kb nb => My.law_fn T kb nb⟩     -- if «.of_eq rfl» comes too early: refine' ⟨_, ?b, fun base kb nb => My.law_fn T kb nb⟩; exact fun s u => .of_eq rfl
  case S => exact fun w H a ns hl hO hS => ..
  case C => exact ..
(the tactic k_is has no namespace: write k_is) -/

namespace L2
open PySem PySem.Spec PyProof.Rows

def inClass (s : Stmt) (j : Nat) : Stmt := match s with
  | .ClassDef _ _ _ body _ _ _ _ _ _ _ => body.getD j (.Pass ⟨0, 0, 0, 0⟩)
  | _ => .Pass ⟨0, 0, 0, 0⟩
def defArgs (s : Stmt) : Arguments := match s with
  | .FunctionDef _ a _ _ _ _ _ _ _ _ => a
  | _ => { posonlyargs := [], args := [], vararg := none, kwonlyargs := [], kw_defaults := [], kwarg := none, defaults := [] }
def defBody (s : Stmt) : List Stmt := match s with
  | .FunctionDef _ _ b _ _ _ _ _ _ _ => b
  | _ => []
def defScope (s : Stmt) : Scope := match s with
  | .FunctionDef _ _ _ _ _ _ sc _ _ _ => sc
  | _ => { kind := .function, names := [], isGenerator := false, isCoroutine := false }

abbrev CX0 : CXT := fun _ _ _ _ _ _ => False
abbrev E0 : XK := fun _ _ _ => False
theorem pass0 {X : Cx} : Passes CX0 X E0 := fun _ _ _ _ _ _ _ h => h.elim

structure Fun (K : PySem.W.Frag) (x qual : Str) (st : Stmt) (f : Addr) (fd : FuncData) : Prop where
  ex : ∃ (oc : Value) (od : Option Addr) (kV doc pm : Value) (an : Option Addr) (cdv ct : Value) (osl : Array (Option Value)),
    fd = PySem.W.fnOf x qual (defArgs st) (defBody st) (defScope st) .none kV doc pm an cdv ct ∧ K.lookup f = some ⟨oc, od, .func fd, osl⟩ ∧ PySem.W.codeIn K cdv qual = true
  kp : PySem.W.keepIn K (.ref f) = true
section
variable {P : Program} {w : World} {K : PySem.W.Frag} {mg : Str → Option Value} {base : Heap}
theorem Fun.ok {x qual : Str} {st : Stmt} {f : Addr} {fd : FuncData} {N ps : List Str} {k : Nat} {sp : Sp} (F : Fun K x qual st f fd) (S : FnScope N ps (defScope st)) (len : ∀ vs H Q E, sp vs H Q E → vs.length = ps.length)
    (hbody : ∀ (cdv : Value) (A : Around) (outer : List Env) (s : Shared) (H : Hp) (vs : List V) (Q : VK) (E : XK), Room k (A.deeper (envOfC qual (defScope st) s.heap.objs.size f cdv)) → sp vs H Q E →
      ∃ t, PSs (cxOf CX0 P w K mg base N qual (defScope st) f cdv A outer s H E).nox (defBody st) t ∧ t { nx := fun _ H' => Q .non H', rt := Q } (start N vs) H) : FnOk P w K mg base CX0 (k + 1) f fd ps sp := by
  obtain ⟨oc, od, kV, doc, pm, an, cdv, ct, osl, rfl, lk, hcd⟩ := F.ex
  refine fn_of lk hcd S len fun A outer s H vs Q E hr hsp => ?_
  obtain ⟨t, h, q⟩ := hbody cdv A outer s H vs Q E hr hsp
  exact ⟨t, h.nox, q⟩
theorem Fun.binds {x qual : Str} {st : Stmt} {f : Addr} {fd : FuncData} {ps : List Str} (F : Fun K x qual st f fd)
    (h : ∀ (kV doc pm : Value) (an : Option Addr) (cdv ct : Value) (us : List Value), us.length = ps.length → bindArgs (PySem.W.fnOf x qual (defArgs st) (defBody st) (defScope st) .none kV doc pm an cdv ct) ⟨us, []⟩ = pure (ps.zip us)) : Binds K fd ps [] := by
  obtain ⟨oc, od, kV, doc, pm, an, cdv, ct, osl, rfl, lk, hcd⟩ := F.ex
  exact .all (h kV doc pm an cdv ct)
theorem fun_mk {x qual : Str} {st : Stmt} {f : Addr} {oc : Value} {od an : Option Addr} {osl : Array (Option Value)} {kV doc pm cdv ct : Value} (l : K.lookup f = some ⟨oc, od, .func (PySem.W.fnOf x qual (defArgs st) (defBody st) (defScope st) .none kV doc pm an cdv ct), osl⟩)
    (c : PySem.W.codeIn K cdv qual = true) (k : PySem.W.keepIn K (.ref f) = true) : Fun K x qual st f (PySem.W.fnOf x qual (defArgs st) (defBody st) (defScope st) .none kV doc pm an cdv ct) := ⟨⟨oc, od, kV, doc, pm, an, cdv, ct, osl, rfl, l, c⟩, k⟩
end
theorem hu_of {A : Around} {k : Nat} (hr : Room k A) : A.units + 1 < cLine := Nat.lt_of_le_of_lt (Nat.add_le_add_left (by decide : 1 ≤ 64) _) hr.units
section
variable {X : Cx}
theorem pv (i : Nat) {x : Str} {pos : Pos} (hN : X.N[i]? = some x := by rfl) (hv : Vis X.env.scope x := by first | exact Or.inl rfl | exact Or.inr (Or.inl rfl) | exact Or.inr (Or.inr rfl)) (hd : (x == ("__debug__" : Str)) = false := by decide)
    (hcd : (x == ("__classdict__" : Str)) = false := by decide) : PE X (.Name x pos) (tVar i) := pe_var hN hv hd hcd
end

theorem iteF {A B : Prop} (h : B) : if false = true then A else B := by
  rw [if_neg Bool.false_ne_true]
  exact h
theorem iteT {A B : Prop} (h : A) : if true = true then A else B := by
  rw [if_pos rfl]
  exact h
def Same (H H' : Hp) : Prop := ∀ b o, H b = some o → H' b = some o
theorem Same.refl (H : Hp) : Same H H := fun _ _ h => h
theorem Same.trans {H H1 H2 : Hp} (a : Same H H1) (b : Same H1 H2) : Same H H2 := fun c o h => b c o (a c o h)
theorem Same.free {H H' : Hp} (e : Same H H') {l : Addr} (h : H' l = Option.none) : H l = Option.none := by
  cases q : H l with
  | none => rfl
  | some o =>
    rw [e l o q] at h
    cases h
theorem Same.seq {K : PySem.W.Frag} {H H' : Hp} {a : Addr} {xs : List V} (e : Same H H') (h : SqL K H a xs) : SqL K H' a xs := by
  rcases h with (h | ⟨o, h⟩) | h
  · exact .inl (.inl (e _ _ h))
  · exact .inl (.inr ⟨o, e _ _ h⟩)
  · exact .inr h

end L2

namespace L2
open PySem PySem.Spec PyProof.Rows
section
variable {X : Cx} {pins : List (Addr × Obj)} {σ : St} {H : Hp} {s : Shared} {h' : Heap}
theorem Inv.laidN {a : Addr} {o : HO} {t' : Nat} {ch : List Addr} (I : Inv X pins σ H s) (hch : ∀ b ∈ ch, FpOk X pins H b) (k : ∀ b u, b ∉ ch → s.heap.get? b = some u → h'.get? b = some u)
    (hn : s.heap.get? a = none) (hna : H a = none) (new : ObjOk X.prog X.w (upd H a o) h' a o) : Inv X pins σ (upd H a o) { s with heap := h', toks := t' } := by
  have ne : ∀ b u, s.heap.get? b = some u → b ≠ a := fun b u e z => by subst z; rw [hn] at e; cases e
  have nt : ∀ b u, H b = some u → b ≠ a := fun b u e => ne_of_none e hna
  have nch : ∀ b u, H b = some u → b ∉ ch := fun b u e z => by rw [(hch b z).1] at e; cases e
  refine I.step (g' := s.gens) (d' := s.drawn) (ch := ch) (fun b hb => ?_) (fun b o _ _ hc e _ => k b o hc e) (fun b o _ _ hc e _ => ⟨o.slots, k b o hc e⟩) (fun b u _ e n => by rw [upd_ne (ne b u e)]; exact n)
    (fun b o hc e => ⟨o, k b o hc e⟩) (fun b xs e => by rw [upd_ne (nt b _ e)]; exact e) (fun b o u e => by rw [upd_ne (nt b _ e)]; exact e) (fun b ps e => ⟨#[], by rw [upd_ne (nt b _ e), e]; simp⟩) (fun m hm => ?_) (fun b u e => ?_) I.bare
  · obtain ⟨_, h2, h3, h4, h5, h6⟩ := hch b hb
    exact ⟨h4, h2, h5, h6⟩
  · obtain ⟨o, es, ep, ho, r⟩ := hm
    exact ⟨o, es, ep, k _ o (fun z => (hch _ z).2.1 rfl) ho, r⟩
  · by_cases hb : b = a
    · subst hb; rw [upd_same] at e; cases e; exact new
    · rw [upd_ne hb] at e
      refine (I.hok b u e).stay (fun c v hc q => k c v ?_ q) (fun c q => by rw [upd_ne (nt c _ q)]; exact q) fun c xs q => by rw [upd_ne (nt c _ q)]; exact q
      rcases hc with z | z
      · rw [z]; exact nch b u e
      · exact nch c _ z
theorem Inv.none_of (I : Inv X pins σ H s) {a : Addr} (h : s.heap.get? a = none) : H a = none := by
  cases e : H a with
  | none => rfl
  | some o =>
    exfalso
    have := I.hok a o e
    have there : ∃ ob, s.heap.get? a = some ob := by
      cases o with
      | lst xs => obtain ⟨_, _, _, _, q⟩ := this; exact ⟨_, q⟩
      | tup xs => obtain ⟨_, _, _, ob, q, _⟩ := this; exact ⟨_, q⟩
      | dK kvs => obtain ⟨_, _, _, _, ob, _, _, q, _⟩ := this; exact ⟨_, q⟩
      | dT kvs => obtain ⟨_, _, _, _, ob, _, _, q, _⟩ := this; exact ⟨_, q⟩
      | set S n => obtain ⟨ob, _, _, _, q, _⟩ := this; exact ⟨_, q⟩
      | ins C dx fs => obtain ⟨_, _, _, q, _⟩ := this; exact ⟨_, q⟩
      | own y => exact this
      | xd fs => obtain ⟨_, ⟨_, _, _, q, _⟩, _⟩ := this; exact ⟨_, q⟩
      | rng lo hi => obtain ⟨_, _, _, q⟩ := this; exact ⟨_, q⟩
      | frz ob u => obtain ⟨q, _⟩ := this; exact ⟨_, q⟩
      | tbl ps => exact ⟨_, (show s.heap.get? a = some _ from this)⟩
      | met f y => exact ⟨_, (show s.heap.get? a = some _ from this)⟩
      | ext φ => obtain ⟨_, q, _⟩ := this; exact q
    obtain ⟨ob, q⟩ := there
    rw [h] at q; cases q
theorem vals_of_ints : ∀ {us : List Value} {ns : List Int}, IntsAre us ns → Vals (ns.map V.int) us := by
  intro us ns h
  induction h with
  | nil => exact .nil
  | cons n t _ ih => exact .cons ⟨t, rfl⟩ ih
end

section
variable {X : Cx}
def pU (p : V → Bool) (u : Value) : Bool := match absV u with
  | some v => p v
  | none => false
theorem pU_of {p : V → Bool} {v : V} {u : Value} (r : RelV v u) : pU p u = p v := by unfold pU; rw [r.abs]
theorem filter_vals {p : V → Bool} : ∀ {xs : List V} {us : List Value}, Vals xs us → Vals (xs.filter p) (us.filter (pU p))
  | _, _, .nil => .nil
  | x :: xs, u :: us, .cons r t => by
    have ih := filter_vals (p := p) t
    rw [List.filter_cons, List.filter_cons, pU_of r]
    cases p x with
    | true => rw [if_pos rfl, if_pos rfl]; exact .cons r ih
    | false => rw [if_neg Bool.false_ne_true, if_neg Bool.false_ne_true]; exact ih
theorem map_vals {f : V → V} : ∀ {xs : List V} {us ys : List Value}, Vals xs us → Paired (fun u y => ∀ v, RelV v u → RelV (f v) y) us ys → Vals (xs.map f) ys
  | _, _, _, .nil, .nil => .nil
  | _, _, _, .cons r t, .cons h t' => .cons (h _ r) (map_vals t t')
def tComp (K : PySem.W.Frag) (p : V → Bool) (f : V → V) (ti : TE) : TE := fun σ H Q => ti σ H fun v H1 => ∃ a xs, v = .ref a ∧ SqL K H1 a xs ∧ ∀ l, H1 l = none → Q (.ref l) (upd H1 l (.lst ((xs.filter p).map f)))
theorem pe_comp {x : Str} {px pos : Pos} {elt iter : Expr} {ifs : List Expr} {scope : Scope} {ti : TE} (p : V → Bool) (f : V → V) (hc : X.calm = true) (hi : PE X iter ti)
    (hfree : ∀ y ∈ scope.names, y.2 ≠ .free) (hcell : ∀ y ∈ scope.names, y.2 ≠ .cell) (hkind : scope.kind = .function) (hnames : ∀ y ∈ scope.names, y.2 = .local → scope.names.lookup y.1 = some .local) (hx : scope.names.lookup x = some .local)
    (ht : ∀ (C : Addr) (v : V) (u : Value) (s : Shared) (m : Str → Option Value) (E : Value → Shared → Prop), RelV v u → s.heap.Ns C m → m x = some u →
      wpAny (model X.prog X.w) X.A (forIn ifs true fun c r => if r = true then do let ok ← isTrue c (compEnv scope C X.env) (eval c (compEnv scope C X.env)); pure (ForInStep.yield ok) else pure (ForInStep.yield r)) (fun ok s' => ok = p v ∧ Keeps s s') E s)
    (he : ∀ (C : Addr) (v : V) (u : Value) (s : Shared) (m : Str → Option Value) (E : Value → Shared → Prop), RelV v u → p v = true → s.heap.Ns C m → m x = some u →
      wpAny (model X.prog X.w) X.A (eval elt (compEnv scope C X.env)) (fun y s' => RelV (f v) y ∧ Keeps s s') E s)
    (hs : ∀ x, foldedSetIterable iter X.env x = pure x := by intro _; rfl) : PE X (.ListComp elt [⟨.Name x px, iter, ifs, 0⟩] scope pos) (tComp X.K p f ti) := by
  intro pins s σ H Q I h
  refine wpAny_ListComp_walk (pU p) (fun u y => ∀ v, RelV v u → RelV (f v) y) hfree hcell hkind hnames hx (thn (hi pins s σ H _ I h) fun v s1 ⟨xv, H1, I1, r1, a, xs, e, hq, q⟩ => ?_) hs
  subst e
  cases r1
  obtain ⟨its, rv, pl, hz⟩ := I1.list hq
  refine wpAny_pyIter_list pl.isList ?_
  have hlen := rv.length
  have hfp : FpOk X pins H1 s1.heap.objs.size := I1.fpOk (Nat.le_refl _) I1.fresh
  have I2 : Inv X pins σ H1 { s1 with heap := s1.heap.push { cls := .type "list_iterator", data := .fields #[.ref a, .int 0 0] } } := I1.kept (t' := s1.toks) fun b o e => Heap.get?_push_of_some _ e
  obtain ⟨oa, ha, hac, hadt⟩ := id pl.isList
  have hlt : a < s1.heap.objs.size := Heap.lt_size ha
  refine ⟨s1.heap.objs.size, [s1.heap.objs.size, a], [s1.heap.objs.size], its.toArray.size, _, _, rfl, Walks.list (I1.ok.hd hc) _ a (Nat.ne_of_lt hlt) its.toArray, by rw [List.size_toArray]; omega,
    ⟨⟨_, Heap.get?_push_size _ rfl, rfl, rfl⟩, ⟨oa, Heap.get?_push_of_some _ ha, hac, hadt⟩⟩, fun b hb => ?_, ⟨fun C i u s3 m3 E' hu hn hm hk htk => ?_, fun C i u s3 m3 E' hu hp hn hm hk htk => ?_⟩, fun D h' tk ys vs hD hl hpl hvl hP hF hk => ?_⟩
  · rw [Heap.size_push]
    rcases List.mem_cons.mp hb with z | z
    · rw [z]; exact Nat.lt_succ_self _
    · rw [List.mem_singleton.mp z]; exact Nat.lt_succ_of_lt hlt
  · have hu' : its[i]? = some u := by simpa using hu
    have hil : i < its.length := (List.getElem?_eq_some_iff.mp hu').1
    obtain ⟨w', e1, r'⟩ := rv.get (i := i) (x := xs[i]'(by omega)) (by simp [hlen, hil])
    rw [hu'] at e1; cases e1
    rw [pU_of r']
    exact ht C _ u s3 m3 E' r' hn hm
  · have hu' : its[i]? = some u := by simpa using hu
    have hil : i < its.length := (List.getElem?_eq_some_iff.mp hu').1
    obtain ⟨w', e1, r'⟩ := rv.get (i := i) (x := xs[i]'(by omega)) (by simp [hlen, hil])
    rw [hu'] at e1; cases e1
    rw [pU_of r'] at hp
    refine thn (he C _ u s3 m3 E' r' hp hn hm) fun y s4 ⟨h1, h2⟩ => ⟨fun v rvv => ?_, h2⟩
    rw [rvv.inj r']; exact h1
  · have evs : vs = its := by
      refine List.ext_getElem? fun j => ?_
      cases ej : vs[j]? with
      | none =>
        have h1 := List.getElem?_eq_none_iff.mp ej
        rw [eq_comm, List.getElem?_eq_none_iff]
        rw [List.size_toArray] at hvl; omega
      | some v =>
        have := hP j v ej
        simpa using this.symm
    subst evs
    obtain ⟨n, hD'⟩ := hpl
    have hDn := I2.none_of hD
    have hys : Vals ((xs.filter p).map f) ys.toList := map_vals (filter_vals rv) hF
    refine ⟨.ref D, upd H1 D (.lst ((xs.filter p).map f)), I2.laidN (t' := tk) (ch := [s1.heap.objs.size]) (fun b hb => ?_) (fun b u hb e => hk b u hb e) hD hDn ?_, rfl, q D hDn⟩
    · rw [List.mem_singleton.mp hb]; exact hfp
    · refine ⟨?_, ys.toList, n, hys, by simpa using hD'⟩
      rw [List.length_map]
      exact Nat.le_trans (List.length_filter_le _ _) hz
end
end L2

namespace L2
open PySem PySem.Spec PyProof.Rows
section
variable {X : Cx}
def notNon : V → Bool
  | .non => false
  | _ => true
theorem notNon_of {x : V} {v : Value} (r : RelV x v) : (!(v == Value.none)) = notNon x := by
  rw [r.none_iff]
  cases x <;> simp [notNon]
theorem pe_compN {x : Str} {px pos p1 p2 p3 p4 : Pos} {iter : Expr} {j : Nat} {scope : Scope} {ti : TE} (hc : X.calm = true) (hi : PE X iter ti)
    (hfree : ∀ y ∈ scope.names, y.2 ≠ .free := by decide +kernel) (hcell : ∀ y ∈ scope.names, y.2 ≠ .cell := by decide +kernel) (hkind : scope.kind = .function := by rfl)
    (hnames : ∀ y ∈ scope.names, y.2 = .local → scope.names.lookup y.1 = some .local := by decide +kernel) (hx : scope.names.lookup x = some .local := by rfl)
    (hd : (x == ("__debug__" : Str)) = false := by decide)
    (hs : ∀ x, foldedSetIterable iter X.env x = pure x := by intro _; rfl) :
    PE X (.ListComp (.Name x p1) [⟨.Name x px, iter, [.Compare (.Name x p2) [.IsNot] [.Constant .none j p3] p4], 0⟩] scope pos) (tComp X.K notNon id ti) := by
  have ld : ∀ (C : Addr) (u : Value) (s : Shared) (m : Str → Option Value) (E : Value → Shared → Prop) (Q : Value → Shared → Prop) (p : Pos), s.heap.Ns C m → m x = some u → Q u s → wpAny (model X.prog X.w) X.A (eval (.Name x p) (compEnv scope C X.env)) Q E s :=
    fun C u s m E Q p hn hm hq => wpAny_Name (wpAny_loadName_local (env := compEnv scope C X.env) hkind hx hn hm hq) hd
  refine pe_comp notNon id hc hi hfree hcell hkind hnames hx (fun C v u s m E r hn hm => ?_) (fun C v u s m E r _ hn hm => ?_) hs
  · refine wpAny_bind ?_
    show wpAny _ _ (do let ok ← isTrue _ (compEnv scope C X.env) (eval _ (compEnv scope C X.env)); pure (ForInStep.yield ok)) _ _ s
    refine wpAny_bind (wpAny_isTrue_Compare1 (ld C u s m _ _ _ hn hm (Constant_none (isnot_none_gen ?_))) (nobehind _ (by decide) (by decide)))
    rw [notNon_of r]
    exact wpAny_truthy_bool (wpAny_pure (wpAny_pure ⟨rfl, s.heap, s.toks, rfl, fun _ _ e => e⟩))
  · exact ld C u s m _ _ _ hn hm ⟨r, s.heap, s.toks, rfl, fun _ _ e => e⟩

theorem call_sorted : CallR X (.builtin "sorted") (fun xs H Q => ∃ (p : Addr) (ns : List Int), xs = [.ref p] ∧ SqL X.K H p (ns.map V.int) ∧ ns.length < 64 ∧
    ∀ (l : Addr) (ns' : List Int), H l = none → ns'.Perm ns → ns'.Pairwise (· ≤ ·) → Q (.ref l) (upd H l (.lst (ns'.map V.int)))) := by
  intro pins s σ H xs us Q I r h
  obtain ⟨p, ns, rfl, hq, h64, q⟩ := h
  obtain ⟨u, rfl, rx⟩ := vals1 r
  cases rx
  obtain ⟨its, rv, pl, hz⟩ := I.list hq
  have hl : its.length < 64 := by rw [← rv.length, List.length_map]; exact h64
  refine sorted_ints pl.isList (intsAre_of rv) hl fun out ns' a1 a2 a3 => ?_
  obtain ⟨e, he⟩ := sortedAll_at s.heap its out
  refine ⟨.ref (s.heap.objs.size + 1), _, I.laid (t' := s.toks) (o := .lst (ns'.map V.int)) (fun _ _ => sortedAll_old) (Nat.le_succ _) ?_, rfl, q _ ns' (I.hok.fresh (Nat.le_succ _)) a2 a3⟩
  refine ⟨?_, out.toList, e, vals_of_ints a1, by simpa using he⟩
  rw [List.length_map, a2.length_eq]
  exact Nat.le_of_lt (Nat.lt_trans h64 (by decide))

theorem call_isinst : CallR X (.builtin "isinstance") (fun xs H Q => ∃ x n t b, xs = [x, .ty n] ∧ TyOf X.K H x t ∧ PySem.W.kitOne X.K t (.type n) = some b ∧ Q (.bl b) H) := by
  intro pins s σ H xs us Q I r h
  obtain ⟨x, n, t, b, rfl, ty, e, q⟩ := h
  obtain ⟨u, v, rfl, ru, rv⟩ := r.two
  cases rv
  exact isinst_ok I ru ty e fun tk => ⟨.bl b, H, I.tok tk, rfl, q⟩

def plainV : V → Bool
  | .non => true
  | .int _ => true
  | _ => false
theorem plain_flat {v : V} (h : plainV v = true) : flatV v = true := by cases v <;> first | rfl | exact absurd (show false = true from h) Bool.false_ne_true
theorem eqV_plain {a b : V} (ha : plainV a = true) (hb : plainV b = true) : eqV a b = decide (a = b) := by
  cases a <;> cases b <;> first
    | exact dec_int.symm
    | (simp [eqV]; done)
    | exact absurd (show false = true from ha) Bool.false_ne_true
    | exact absurd (show false = true from hb) Bool.false_ne_true
theorem getD_all {xs : List V} {P : V → Bool} (h : xs.all P = true) {j : Nat} (hj : j < xs.length) : P (xs.getD j .non) = true := by
  rw [List.getD_eq_getElem?_getD, List.getElem?_eq_getElem hj]
  exact List.all_eq_true.mp h _ (List.getElem_mem _)
theorem all_range_eq {xs ys : List V} (hl : xs.length = ys.length) : (List.range xs.length).all (fun j => decide (xs.getD j .non = ys.getD j .non)) = decide (xs = ys) := by
  rw [Bool.eq_iff_iff, List.all_eq_true, decide_eq_true_iff]
  constructor
  · intro h
    refine List.ext_getElem hl fun j h1 h2 => ?_
    have := h j (List.mem_range.mpr h1)
    rw [decide_eq_true_iff, List.getD_eq_getElem?_getD, List.getD_eq_getElem?_getD, List.getElem?_eq_getElem h1, List.getElem?_eq_getElem h2] at this
    exact this
  · rintro rfl j _
    simp
theorem eqAt_pl {A : Around} {s : Shared} {xs ys : List V} {us ws : List Value} (r1 : Vals xs us) (r2 : Vals ys ws) (p1 : xs.all plainV = true) (p2 : ys.all plainV = true) (j : Nat) (h1 : j < us.toArray.size) (h2 : j < ws.toArray.size) :
    SeqAt.EqAt A s us.toArray[j] ws.toArray[j] (decide (xs.getD j .non = ys.getD j .non)) := by
  have l1 := r1.length
  have l2 := r2.length
  have h1' : j < us.length := by simpa using h1
  have h2' : j < ws.length := by simpa using h2
  have e1 : xs[j]? = some (xs.getD j .non) := by rw [List.getD_eq_getElem?_getD, List.getElem?_eq_getElem (by omega)]; rfl
  have e2 : ys[j]? = some (ys.getD j .non) := by rw [List.getD_eq_getElem?_getD, List.getElem?_eq_getElem (by omega)]; rfl
  obtain ⟨u, a1, b1⟩ := r1.get e1
  obtain ⟨w, a2, b2⟩ := r2.get e2
  have q1 := getD_all p1 (j := j) (by omega)
  have q2 := getD_all p2 (j := j) (by omega)
  have := eqAt_V (A := A) (s := s) b1 b2 (plain_flat q1) (plain_flat q2)
  rw [eqV_plain q1 q2] at this
  rw [List.getElem?_eq_getElem h1'] at a1
  rw [List.getElem?_eq_getElem h2'] at a2
  cases a1; cases a2
  exact this
def rEqL (K : PySem.W.Frag) (neg : Bool) : R2 := fun x y H Q => ∃ a b xs ys, x = .ref a ∧ y = .ref b ∧ SqL K H a xs ∧ SqL K H b ys ∧ xs.all plainV = true ∧ ys.all plainV = true ∧ Q (.bl (if neg then !decide (xs = ys) else decide (xs = ys))) H
theorem op_eqL (hu : X.A.units < cLine) : OpR X (compareOp .Eq) (rEqL X.K false) := by
  intro pins s σ H x y v u Q I rx ry h
  obtain ⟨a, b, xs, ys, rfl, rfl, ha, hb, p1, p2, q⟩ := h
  cases rx; cases ry
  obtain ⟨its, r1, pl1, _⟩ := I.list ha
  obtain ⟨its2, r2, pl2, _⟩ := I.list hb
  have l1 := r1.length
  have l2 := r2.length
  by_cases hl : xs.length = ys.length
  · refine SeqAt.eq_listAt (e := fun j => decide (xs.getD j .non = ys.getD j .non)) pl1.isList pl2.isList (by simp; omega) hu (fun j h1 h2 => eqAt_pl r1 r2 p1 p2 j h1 h2) ⟨.bl _, H, I, rfl, ?_⟩
    rw [List.size_toArray, ← l1, all_range_eq hl]
    exact q
  · refine SeqAt.eq_list_lengthsAt pl1.isList pl2.isList (by simp; omega) hu ⟨.bl false, H, I, rfl, ?_⟩
    have : decide (xs = ys) = false := decide_eq_false fun z => hl (by rw [z])
    rw [← this]; exact q
theorem op_neL (hu : X.A.units < cLine) : OpR X (compareOp .NotEq) (rEqL X.K true) := by
  intro pins s σ H x y v u Q I rx ry h
  obtain ⟨a, b, xs, ys, rfl, rfl, ha, hb, p1, p2, q⟩ := h
  cases rx; cases ry
  obtain ⟨its, r1, pl1, _⟩ := I.list ha
  obtain ⟨its2, r2, pl2, _⟩ := I.list hb
  have l1 := r1.length
  have l2 := r2.length
  by_cases hl : xs.length = ys.length
  · refine SeqAt.RcNeAt.lists (e := fun j => decide (xs.getD j .non = ys.getD j .non)) pl1.isList pl2.isList (by simp; omega) hu (fun j h1 h2 => eqAt_pl r1 r2 p1 p2 j h1 h2) X.prog X.w _ _ ⟨.bl _, H, I, rfl, ?_⟩
    rw [List.size_toArray, ← l1, all_range_eq hl]
    exact q
  · refine SeqAt.RcNeAt.lists_lengths pl1.isList pl2.isList (by simp; omega) hu X.prog X.w _ _ ⟨.bl true, H, I, rfl, ?_⟩
    have : decide (xs = ys) = false := decide_eq_false fun z => hl (by rw [z])
    rw [if_pos rfl, this] at q; exact q

theorem eqAt_ints {A : Around} {s : Shared} {ns ms : List Int} {us ws : List Value} (r1 : Vals (ns.map V.int) us) (r2 : Vals (ms.map V.int) ws) (j : Nat) (h1 : j < us.toArray.size) (h2 : j < ws.toArray.size) :
    SeqAt.EqAt A s us.toArray[j] ws.toArray[j] (decide ((ns.map V.int).getD j .non = (ms.map V.int).getD j .non)) :=
  eqAt_pl r1 r2 (by rw [List.all_map]; exact List.all_eq_true.mpr fun _ _ => rfl) (by rw [List.all_map]; exact List.all_eq_true.mpr fun _ _ => rfl) j h1 h2
def TupsAt (H : Hp) (ts : List Addr) (ns : List (List Int)) : Prop := Paired (fun t n => H t = some (.tup (n.map V.int))) ts ns
theorem TupsAt.length {H : Hp} {ts : List Addr} {ns : List (List Int)} (h : TupsAt H ts ns) : ts.length = ns.length := Paired.length h
theorem vals_refs : ∀ {ts : List Addr} {us : List Value}, Vals (ts.map V.ref) us → us = ts.map Value.ref
  | [], _, .nil => rfl
  | _ :: _, _, .cons r t => by
    cases (show _ = Value.ref _ from r)
    rw [vals_refs t]; rfl
end
section
variable {P : Program} {w : World} {K : PySem.W.Frag} {mg : Str → Option Value} {base : Heap}
def FnG (P : Program) (w : World) (K : PySem.W.Frag) (mg : Str → Option Value) (base : Heap) (x : Str) (ps : List Str) (k : Nat) (sp : Sp) : Prop :=
  ∃ f fd, mg x = some (.ref f) ∧ PySem.W.keepIn K (.ref f) = true ∧ Binds K fd ps [] ∧ FnOk P w K mg base CX0 k f fd ps sp
def MtG (P : Program) (w : World) (K : PySem.W.Frag) (mg : Str → Option Value) (base : Heap) (C : Addr) (m : Str) (ps : List Str) (k : Nat) (sp : Sp) : Prop :=
  ∃ f fd, Meth K C m f ∧ Binds K fd ps [] ∧ FnOk P w K mg base CX0 k f fd ps sp
end
section
variable {X : Cx} {k : Nat} {ps : List Str} {sp : Sp} {x m : Str} {p pos apos : Pos} {e o : Expr} {es : List Expr} {ta : TE} {t : TA} {C : Addr}
theorem pe_fn (G : FnG X.prog X.w X.K X.mg X.base x ps k sp) (hr : Room k X.A) (ha : PA X (e :: es) t) (hg : Gl X x := by rfl) (hdb : (x == ("__debug__" : Str)) = false := by decide)
    (he : starEach (e :: es) X.env = (false, eval e X.env) :: starEach es X.env := by rfl) (hpl : (backTo pos (starEach es X.env)).any (·.1) = false := by rfl) :
    PE X (.Call (.Name x p) (e :: es) [] pos) (tCall sp [] E0 t) := by
  obtain ⟨f, fd, h1, h2, h3, h4⟩ := G
  exact pe_call h4 hr hg h1 h2 h3 .nil pass0 ha hdb he hpl
theorem pe_mt {pl : Sem Bool} (c : Cls X.K C) (G : MtG X.prog X.w X.K X.mg X.base C m ps k sp) (hr : Room k X.A) (he : PE X o ta) (ha : PA X (e :: es) t)
    (hst : starEach (e :: es) X.env = (false, eval e X.env) :: starEach es X.env := by rfl) (hpl : (backTo pos (starEach es X.env)).any (·.1) = false := by rfl)
    (ht : eval (.Call (.Attribute o m apos) (e :: es) [] pos) X.env = (do
      let ov ← eval o X.env
      standAt apos.atName
      let (f, first) ← holding [ov] (getMethod ov m pl)
      callWith pos f first (backTo pos (starEach (e :: es) X.env)) (backToKw pos (keywordEach [] X.env))) := by rfl) :
    PE X (.Call (.Attribute o m apos) (e :: es) [] pos) (tMeth C m sp [] E0 ta t) := by
  obtain ⟨f, fd, h1, h3, h4⟩ := G
  exact pe_meth (pl := pl) he c h1 h4 hr h3 .nil pass0 ha hst hpl ht
theorem pe_mt0 {pl : Sem Bool} (c : Cls X.K C) (G : MtG X.prog X.w X.K X.mg X.base C m ps k sp) (hr : Room k X.A) (he : PE X o ta)
    (ht : eval (.Call (.Attribute o m apos) [] [] pos) X.env = (do
      let ov ← eval o X.env
      standAt apos.atName
      let (f, first) ← holding [ov] (getMethod ov m pl)
      callWith pos f first (backTo pos (starEach [] X.env)) (backToKw pos (keywordEach [] X.env))) := by rfl) :
    PE X (.Call (.Attribute o m apos) [] [] pos) (tMeth C m sp [] E0 ta tNil) := by
  obtain ⟨f, fd, h1, h3, h4⟩ := G
  exact pe_meth0 (pl := pl) he c h1 h4 hr h3 .nil pass0 ht
end
theorem iteI {i j : Int} {A B : Prop} (h1 : i = j → A) (h2 : i ≠ j → B) : if decide (V.int i = V.int j) = true then A else B := by
  by_cases e : i = j
  · rw [if_pos (by rw [e]; simp)]; exact h1 e
  · rw [if_neg (by simp [e])]; exact h2 e
theorem iteNI {i j : Int} {A B : Prop} (h1 : i ≠ j → A) (h2 : i = j → B) : if (!decide (V.int i = V.int j)) = true then A else B := by
  by_cases e : i = j
  · rw [if_neg (by rw [e]; simp)]; exact h2 e
  · rw [if_pos (by simp [e])]; exact h1 e
theorem iteD {c A B : Prop} [Decidable c] (h1 : c → A) (h2 : ¬ c → B) : if decide c = true then A else B := by
  by_cases h : c
  · rw [if_pos (decide_eq_true h)]; exact h1 h
  · rw [if_neg (by simp [h])]; exact h2 h
theorem iteND {c A B : Prop} [Decidable c] (h1 : ¬ c → A) (h2 : c → B) : if (!decide c) = true then A else B := by
  by_cases h : c
  · rw [if_neg (by simp [h])]; exact h2 h
  · rw [if_pos (by simp [h])]; exact h1 h
theorem iteB {b : Bool} {A B : Prop} (h1 : b = true → A) (h2 : b = false → B) : if b = true then A else B := by
  cases b with
  | true => rw [if_pos rfl]; exact h1 rfl
  | false => rw [if_neg Bool.false_ne_true]; exact h2 rfl
theorem iteNB {b : Bool} {A B : Prop} (h1 : b = false → A) (h2 : b = true → B) : if (!b) = true then A else B := by
  cases b with
  | true => rw [if_neg (by decide)]; exact h2 rfl
  | false => rw [if_pos (by decide)]; exact h1 rfl
theorem ixN_nat {n j : Nat} (h : j < n) : ixN n (j : Int) = some j := by
  unfold ixN
  rw [if_pos (by omega), if_pos (by omega)]; simp
theorem kII (K : PySem.W.Frag) : PySem.W.kitOne K (.type "int") (.type "int") = some true := by first | rfl | decide +kernel
theorem kIB (K : PySem.W.Frag) : PySem.W.kitOne K (.type "int") (.type "bool") = some false := by first | rfl | decide +kernel
theorem kLL (K : PySem.W.Frag) : PySem.W.kitOne K (.type "list") (.type "list") = some true := by first | rfl | decide +kernel
theorem kTT (K : PySem.W.Frag) : PySem.W.kitOne K (.type "tuple") (.type "tuple") = some true := by first | rfl | decide +kernel
def tMid (t u : TS) : TS := fun D σ H => ∃ R : St → Hp → Prop, t { D with nx := R } σ H ∧ ∀ σ' H', R σ' H' → u D σ' H'
theorem pss_mid {X : Cx} {st : Stmt} {rest : List Stmt} {t u : TS} (h1 : PS X st t) (h2 : PSs X rest u) : PSs X (st :: rest) (tMid t u) := by
  intro pins s σ H D I h
  obtain ⟨R, h, k⟩ := h
  refine wpAny_execs_cons (thn (h1 pins s σ H { D with nx := R } I h) fun f s1 q => ?_)
  cases f with
  | next =>
    obtain ⟨σ', H', I', q⟩ := q
    exact h2 pins s1 σ' H' D I' (k _ _ q)
  | ret v => exact q
  | brk => exact q
  | cont => exact q
end L2

namespace L2
open PySem PySem.Spec PyProof.Rows
section
variable {prog : Program} {w : World} {A : Around} {R : Result → Shared → Prop} {s : Shared}
theorem compLoop_by {elt target iter : Expr} {ifs : List Expr} {scope : Scope} {pos : Pos} {it acc : Value} {env : Env} (W : Nat → Shared → Prop)
    (turn : ∀ n s, W n s → wpAny (model prog w) A (pyNext it) (fun r s₁ => match r with
        | none => R (.ok .next) s₁
        | some v => wpAny (model prog w) A (letOwnedTupleGo target it v) (fun _ s₂ => wpAny (model prog w) A (assign target env v) (fun _ s₃ =>
            wpAny (model prog w) A (forIn ifs true fun c r => if r = true then do let ok ← isTrue c env (eval c env); pure (ForInStep.yield ok) else pure (ForInStep.yield r)) (fun ok s₄ =>
              if ok = true then wpAny (model prog w) A (eval elt env) (fun x s₅ => wpAny (model prog w) A (call (.builtin "list.append") [acc, x]) (fun _ s₆ => ∃ m, m < n ∧ W m s₆) (fun _ _ => False) s₅) (fun _ _ => False) s₄
              else ∃ m, m < n ∧ W m s₄) (fun _ _ => False) s₃) (fun _ _ => False) s₂) (fun _ _ => False) s₁) (fun _ _ => False) s)
    (n : Nat) (h : W n s) : codeAny (model prog w) A (.compLoop (.ListComp elt [⟨target, iter, ifs, 0⟩] scope pos) 0 it acc env) R s := by
  refine codeAny_loop rfl W (fun n s hI => ?_) n h
  show wpAny _ A ((compTurn (.ListComp elt [⟨target, iter, ifs, 0⟩] scope pos) 0 it acc env).onRaise _) _ _ s
  refine wpAny_noted ?_
  rw [compTurn_list]
  have no : ∀ {E : Value → Shared → Prop} (e : Value) (s : Shared), False → E e s := fun _ _ z => z.elim
  refine wpAny_bind (wpAny_standAt (wpAny_bind (wpAny_mono (turn n s hI) (fun r s₁ h₁ => ?_) no)))
  cases r with
  | none => exact wpAny_pure h₁
  | some v =>
    refine wpAny_bind (wpAny_mono h₁ (fun _ s₂ h₂ => wpAny_bind (wpAny_mono h₂ (fun _ s₃ h₃ => wpAny_bind (wpAny_mono h₃ (fun ok s₄ h₄ => ?_) no)) no)) no)
    cases ok with
    | false => exact wpAny_pure ⟨rfl, h₄⟩
    | true => exact wpAny_bind (wpAny_bind (wpAny_mono h₄ (fun x s₅ h₅ => wpAny_bind (wpAny_mono h₅ (fun _ s₆ h₆ => wpAny_pure (wpAny_pure ⟨rfl, h₆⟩)) no)) no))
end

abbrev cxC (X : Cx) (N : List Str) (scope : Scope) (cl : List (Str × Addr)) (fp : List Addr) (C : Addr) (s₀ : Shared) (H₀ : Hp) : Cx :=
  { X with N := N, s₀ := s₀, H₀ := H₀, env := compEnvC scope cl C X.env, outer := X.stack, stack := X.stack, ex := fp, fn := fun _ => false, pn := [], xe := fun _ _ => False }
def PFs (X : Cx) (ifs : List Expr) (t : TT) : Prop :=
  ∀ (pins : List (Addr × Obj)) (s : Shared) (σ : St) (H : Hp) (Q : Bool → Hp → Prop), Inv X pins σ H s → t σ H Q →
    wpAny (model X.prog X.w) X.A (forIn ifs true fun c r => if r = true then do let ok ← isTrue c X.env (eval c X.env); pure (ForInStep.yield ok) else pure (ForInStep.yield r)) (TP X pins σ Q) X.xe s
def tAll : TT := fun _ H Q => Q true H
theorem pf_nil {X : Cx} : PFs X [] tAll := fun _ _ _ H _ I h => wpAny_tests_nil ⟨H, I, h⟩
theorem pf_one {X : Cx} {c : Expr} {t : TT} (h : PT X c t) : PFs X [c] t := fun pins s σ H Q I hq => wpAny_tests_one (h pins s σ H Q I hq)

abbrev BC (α : Type) := List Addr → Addr → Shared → Hp → α
def tCG (wi : TI) (ix : List Nat) (tt : BC TT) (te : BC TE) : TE := fun σ H Q => wi σ H fun J H1 => ∀ D, H1 D = none → ∃ W : Nat → Nat → Hp → Prop, (∃ m, W 0 m (upd H1 D (.lst []))) ∧ ∀ i m H2, W i m H2 →
  (J.stop i H2 ∧ Q (.ref D) H2) ∨ (J.go i H2 ∧ ∃ N : Hp → Prop, (∀ H', N H' → ∃ m', m' < m ∧ W (i + 1) m' H') ∧ ∀ v H3, J.yld i H2 v H3 → ∀ fp C s₀ H₀,
    tt fp C s₀ H₀ (some v :: ix.map fun j => (σ[j]?).join) H3 fun b H4 => if b = true then te fp C s₀ H₀ (some v :: ix.map fun j => (σ[j]?).join) H4 fun y H5 => ∃ ys, H5 D = some (.lst ys) ∧ ys.length < sizeLine ∧ N (upd H5 D (.lst (ys ++ [y]))) else N H4)

structure CompOk (X : Cx) (scope : Scope) (cl : List (Str × Addr)) (x : Str) (fr : List Str) (ix : List Nat) : Prop where
  clos : closureFor scope X.env = pure cl
  nocell : ∀ y ∈ scope.names, y.2 ≠ .cell
  kind : scope.kind = .function
  names : ∀ y ∈ scope.names, y.2 = .local → scope.names.lookup y.1 = some .local
  hx : scope.names.lookup x = some .local
  sub : ∀ y c, cl.lookup y = some c → X.env.cells.lookup y = some c
  has : ∀ y, ((relabel scope X.env).names.lookup y = some .cell ∨ (relabel scope X.env).names.lookup y = some .free) → ∃ c, cl.lookup y = some c
  len : ix.length = fr.length
  at' : ∀ (k j : Nat) (y : Str), fr[k]? = some y → ix[k]? = some j → X.N[j]? = some y ∧ Vis X.env.scope y ∧ X.env.kindOf y ≠ some .local ∧ ((relabel scope X.env).names.lookup y = some .cell ∨ (relabel scope X.env).names.lookup y = some .free)
  nd : (x :: fr).Nodup

section
variable {X : Cx} {scope : Scope} {cl : List (Str × Addr)} {x : Str} {fr : List Str} {ix : List Nat} {pins : List (Addr × Obj)} {σ : St} {H : Hp} {s : Shared}
theorem Inv.into {fp : List Addr} {C : Addr} {h₁ : Heap} {t : Nat} {m : Str → Option Value} (K : CompOk X scope cl x fr ix) (I : Inv X pins σ H s) (hc : X.calm = true) (hC : C = s.heap.objs.size) (hf : ∀ b ∈ fp, FpOk X pins H b) (hfs : ∀ b ∈ fp, b < s.heap.objs.size)
    (hn : h₁.Ns C m) (old : ∀ b o, s.heap.get? b = some o → h₁.get? b = some o) :
    Inv (cxC X (x :: fr) scope cl fp C s H) [] (none :: ix.map fun j => (σ[j]?).join) H { s with heap := h₁, toks := t } := by
  have I1 : Inv X pins σ H { s with heap := h₁, toks := t } := I.kept old
  have hCn : H C = none := I.hok.fresh (by rw [hC]; exact Nat.le_refl _)
  have cellC : ∀ y c, cl.lookup y = some c → c ≠ C := fun y c e z => by
    obtain ⟨v, q⟩ := I.cell y c (K.sub y c e)
    have := q.lt
    rw [z, hC] at this
    exact absurd this (Nat.lt_irrefl _)
  refine ⟨⟨I.ok.mod, K.kind, I.ok.glob, I.ok.blt, by rw [hC]; exact Nat.le_refl _, fun y z c h1 h2 => I.ok.inj y z c (K.sub y c h1) (K.sub z c h2), K.has, fun y c hfn _ => (by cases hfn), fun _ => I.ok.hd hc, I.ok.frames, .inl rfl,
      fun b hb => ⟨fun z => absurd (hfs b hb) (by rw [z, hC]; exact Nat.lt_irrefl _), fun y c e => (hf b hb).2.2.2.2.1 y c (K.sub y c e)⟩, I.bs, Nat.le_trans I.ok.bsz I.sz, fun b o e hb => ?_, fun b hb hs => ?_, I.stack, I.stkFree⟩,
    rfl, I.bare, Un.kept old, ⟨m, hn, fun i y v h1 h2 h3 => ?_⟩, fun y c e => I1.cell y c (K.sub y c e), hCn, fun y c e => I.freeC y c (K.sub y c e), fun p hp => (by cases hp), I1.hok, ?_⟩
  · -- the walked records are none of the base's
    obtain ⟨h0, _, _, h4, _⟩ := hf b hb
    rcases h4 with z | z
    · exact I.ok.noex b o e z
    · exact absurd (Nat.lt_of_lt_of_le (Heap.lt_size (I.ok.bs b o e).1) z) (Nat.lt_irrefl _)
  · obtain ⟨_, h1, h2, _⟩ := hf b hb
    rcases List.mem_cons.mp (I.stkSub b hs) with z | z
    · exact h1 z
    · exact h2 z
  · cases i with
    | zero => simp at h2
    | succ k =>
      have hk : fr[k]? = some y := by simpa using h1
      have hkl : k < ix.length := by rw [K.len]; exact (List.getElem?_eq_some_iff.mp hk).1
      obtain ⟨j, hj⟩ : ∃ j, ix[k]? = some j := ⟨ix[k], by simp [hkl]⟩
      obtain ⟨a1, a2, a3, a4⟩ := K.at' k j y hk hj
      have h2' : (σ[j]?).join = some v := by
        have : (ix.map fun j => (σ[j]?).join)[k]? = some (some v) := by simpa using h2
        rw [List.getElem?_map, hj] at this
        exact Option.some.inj this
      have h2'' : σ[j]? = some (some v) := by
        cases e : σ[j]? with
        | none => rw [e] at h2'; cases h2'
        | some w => rw [e] at h2'; cases w with
          | none => cases h2'
          | some z => cases h2'; rfl
      obtain ⟨mo, _, hl⟩ := I1.loc
      obtain ⟨u, r, l⟩ := hl j y v a1 h2'' a2
      refine ⟨u, r, .inr ⟨a4, ?_⟩⟩
      rcases l with ⟨z, _⟩ | ⟨_, c, e, q⟩
      · exact absurd z a3
      · obtain ⟨c', e'⟩ := K.has y a4
        have := K.sub y c' e'
        rw [e] at this; cases this
        exact ⟨c, e', q⟩
  · show (ix.map fun j => (σ[j]?).join).length + 1 = fr.length + 1
    rw [List.length_map, K.len]
theorem Inv.out {fp : List Addr} {C : Addr} {σ' : St} {H' : Hp} {s' : Shared} (I : Inv X pins σ H s) (hf : ∀ b ∈ fp, FpOk X pins H b) (I' : Inv (cxC X (x :: fr) scope cl fp C s H) [] σ' H' s') : Inv X pins σ H' s' :=
  I.call' I'.os I'.base I'.hok I'.bare fun b hb => by
    obtain ⟨_, h1, _, h3, h4, h5⟩ := hf b hb
    exact ⟨h3, h1, h4, h5⟩
end
end L2

namespace L2
open PySem PySem.Spec PyProof.Rows
section
variable {X : Cx} {scope : Scope} {cl : List (Str × Addr)} {x : Str} {fr : List Str} {ix : List Nat} {pins : List (Addr × Obj)} {σ : St}
structure LetGo (X : Cx) (pins : List (Addr × Obj)) (H : Hp) (s : Shared) (C : Addr) : Prop where
  ns : ∃ m, s.heap.Ns C m
  no : H C = none
  nl : C ≠ X.env.locals
  ab : X.s₀.heap.objs.size ≤ C
  nc : ∀ y c, X.env.cells.lookup y = some c → c ≠ C
  np : ∀ p ∈ X.pn ++ pins, p.1 ≠ C
theorem LetGo.inv {H : Hp} {s : Shared} {C : Addr} {h' : Heap} (L : LetGo X pins H s C) (I : Inv X pins σ H s) (hs : Heap.SameBut C s.heap h') : Inv X pins σ H { s with heap := h' } :=
  I.turned (t' := s.toks) (fun b o hb e => (hs.2 b hb).trans e) L.no L.nl (.inr L.ab) L.nc L.np
theorem comp_walk {elt iter : Expr} {ifs : List Expr} {pos px : Pos} {tt : BC TT} {te : BC TE} (K : CompOk X scope cl x fr ix) (hc : X.calm = true) (ht : ∀ fp C s₀ H₀, PFs (cxC X (x :: fr) scope cl fp C s₀ H₀) ifs (tt fp C s₀ H₀)) (he : ∀ fp C s₀ H₀, PE (cxC X (x :: fr) scope cl fp C s₀ H₀) elt (te fp C s₀ H₀))
    {it : Addr} {fp : List Addr} {tn : Nat → Heap → Prop} {J : It} {H2 : Hp} {s2 : Shared} (I2 : Inv X pins σ H2 s2) (T : Turn X.prog X.w X.K (.Name x px) J fp it tn) (st2 : tn 0 s2.heap) (f2 : ∀ b ∈ fp, FpOk X pins H2 b) {Q : VK}
    (q : ∀ D, H2 D = none → ∃ W : Nat → Nat → Hp → Prop, (∃ m, W 0 m (upd H2 D (.lst []))) ∧ ∀ i m H3, W i m H3 →
      (J.stop i H3 ∧ Q (.ref D) H3) ∨ (J.go i H3 ∧ ∃ N : Hp → Prop, (∀ H', N H' → ∃ m', m' < m ∧ W (i + 1) m' H') ∧ ∀ v H4, J.yld i H3 v H4 → ∀ fp C s₀ H₀,
        tt fp C s₀ H₀ (some v :: ix.map fun j => (σ[j]?).join) H4 fun b H5 => if b = true then te fp C s₀ H₀ (some v :: ix.map fun j => (σ[j]?).join) H5 fun y H6 => ∃ ys, H6 D = some (.lst ys) ∧ ys.length < sizeLine ∧ N (upd H6 D (.lst (ys ++ [y]))) else N H5))
    {RR : Value → Addr → Result → Shared → Prop} {E : Value → Shared → Prop} (hRR : ∀ D C H' s', Inv X pins σ H' s' → LetGo X pins H' s' C → Q (.ref D) H' → RR (.ref D) C (.ok .next) s') :
    wpAny (model X.prog X.w) X.A (newList []) (fun acc s₃ => wpAny (model X.prog X.w) X.A (newFunctionEnv scope X.env.globals cl [] X.env.qual none .none (some X.env)) (fun cenv s₄ =>
      codeAny (model X.prog X.w) X.A (.compStart (.ListComp elt [⟨.Name x px, iter, ifs, 0⟩] scope pos) 0 (.ref it) acc { cenv with scope := relabel scope X.env }) (RR acc cenv.locals) s₄) E s₃) E s2 := by
  refine wpAny_newObj_type (wpAny_newFunctionEnv K.nocell (by intro y hy; simp at hy) (fun h₁ hns₁ hsb₁ => ?_) K.kind)
  dsimp only at hns₁ hsb₁ ⊢
  have hDn : H2 s2.heap.objs.size = none := I2.fresh
  have I3 : Inv X pins σ (upd H2 s2.heap.objs.size (.lst [])) { s2 with heap := s2.heap.push { cls := .type "list", dict := none, data := .seq ([] : List Value).toArray } } := I2.lnew (t' := s2.toks) (its := []) .nil (Nat.zero_le _)
  generalize hH3 : s2.heap.push { cls := .type "list", dict := none, data := .seq ([] : List Value).toArray } = H3 at hns₁ hsb₁ I3 ⊢
  have sz3 : H3.objs.size = s2.heap.objs.size + 1 := by rw [← hH3, Heap.size_push]
  have old3 : ∀ b o, s2.heap.get? b = some o → H3.get? b = some o := fun b o e => hH3 ▸ Heap.get?_push_of_some _ e
  have old : ∀ b o, H3.get? b = some o → h₁.get? b = some o := fun b o e => hsb₁.extBut b o (Nat.ne_of_lt (Heap.lt_size e)) (Heap.get?_push_of_some _ e)
  have fpo : ∀ b ∈ fp, b < s2.heap.objs.size := fun b hb => by
    obtain ⟨o, e, _⟩ := T.obj 0 _ st2 b hb
    exact Heap.lt_size e
  have f3 : ∀ b ∈ fp, FpOk X pins (upd H2 s2.heap.objs.size (.lst [])) b := fun b hb => by
    refine ⟨?_, (f2 b hb).2⟩
    rw [upd_ne (Nat.ne_of_lt (fpo b hb))]
    exact (f2 b hb).1
  have I4 := Inv.into (t := s2.toks + ([] : List (Str × Value)).length) K I3 hc rfl f3 (fun b hb => by show b < H3.objs.size; rw [sz3]; exact Nat.lt_succ_of_lt (fpo b hb)) hns₁ old
  have tn4 : tn 0 h₁ := T.keep 0 _ _ st2 fun b _ o e => old b o (old3 b o e)
  obtain ⟨W, ⟨m0, w0⟩, turn⟩ := q s2.heap.objs.size hDn
  have letgo : ∀ {H' : Hp} {σ' : St} {s' : Shared}, Inv (cxC X (x :: fr) scope cl fp H3.objs.size { s2 with heap := H3 } (upd H2 s2.heap.objs.size (.lst []))) [] σ' H' s' → LetGo X pins H' s' H3.objs.size := fun {H' σ' s'} I' => by
    obtain ⟨m, hn, _⟩ := I'.loc
    refine ⟨⟨m, hn⟩, I'.free, fun z => ?_, Nat.le_trans I2.sz (by rw [sz3]; exact Nat.le_succ _), fun y c e z => ?_, fun p hp z => ?_⟩
    · have := I2.lt
      rw [← z, sz3] at this
      exact absurd (Nat.lt_trans (Nat.lt_succ_self _) this) (Nat.lt_irrefl _)
    · obtain ⟨v, e1⟩ := I2.cell y c e
      have := e1.lt
      rw [z, sz3] at this
      exact absurd (Nat.lt_trans (Nat.lt_succ_self _) this) (Nat.lt_irrefl _)
    · have := Heap.lt_size (I2.pin p hp).1
      rw [z, sz3] at this
      exact absurd (Nat.lt_trans (Nat.lt_succ_self _) this) (Nat.lt_irrefl _)
  have loop : ∀ s', s' = ({ s2 with heap := h₁, toks := s2.toks + ([] : List (Str × Value)).length } : Shared) →
      codeAny (model X.prog X.w) X.A (.compLoop (.ListComp elt [⟨.Name x px, iter, ifs, 0⟩] scope pos) 0 (.ref it) (.ref s2.heap.objs.size) (compEnvC scope cl H3.objs.size X.env)) (RR (.ref s2.heap.objs.size) H3.objs.size) s' := by
    rintro s' rfl
    refine compLoop_by (fun n s' => ∃ i v0 H', Inv (cxC X (x :: fr) scope cl fp H3.objs.size { s2 with heap := H3 } (upd H2 s2.heap.objs.size (.lst []))) [] (v0 :: ix.map fun j => (σ[j]?).join) H' s' ∧ tn i s'.heap ∧ (∀ b ∈ fp, H' b = none) ∧ W i n H') ?_ m0
      ⟨0, none, _, I4, tn4, fun b hb => (f3 b hb).1, w0⟩
    rintro n s5 ⟨i, v0, H5, I5, st5, fr5, w5⟩
    have stat : ∀ {H' : Hp}, (∀ b ∈ fp, H' b = none) → ∀ b ∈ fp, FpOk (cxC X (x :: fr) scope cl fp H3.objs.size { s2 with heap := H3 } (upd H2 s2.heap.objs.size (.lst []))) [] H' b := fun hn b hb =>
      ⟨hn b hb, (I5.ok.exf b hb).1, I5.ok.exfs b hb, .inl hb, (I5.ok.exf b hb).2, fun p hp => by cases hp⟩
    rcases turn i n H5 w5 with ⟨stop, qn⟩ | ⟨go, N, hN, step⟩
    · refine thn (T.done (cxC X (x :: fr) scope cl fp H3.objs.size { s2 with heap := H3 } (upd H2 s2.heap.objs.size (.lst []))) rfl rfl rfl hc i [] s5 _ H5 (fun _ _ => False) I5 (stat fr5) st5 stop) fun r s6 ⟨hr, I6⟩ => ?_
      subst hr
      exact hRR _ _ H5 s6 (I3.out f3 I6) (letgo I6) qn
    · refine thn (T.item (cxC X (x :: fr) scope cl fp H3.objs.size { s2 with heap := H3 } (upd H2 s2.heap.objs.size (.lst []))) rfl rfl rfl hc i [] s5 _ H5 (fun _ _ => False) I5 (stat fr5) st5 go) fun r s6 ⟨u, hr, h6⟩ => ?_
      subst hr
      refine thn h6 fun _ s7 ⟨xv, H7, I7, r7, y7, st7, fr7⟩ => ?_
      have I7' := I7.pinned (stat fr7) (T.obj _ _ st7)
      have hxl : (relabel scope X.env).names.lookup x = some .local := lookup_relabel_local K.hx
      refine thn (pg_name (X := cxC X (x :: fr) scope cl fp H3.objs.size { s2 with heap := H3 } (upd H2 s2.heap.objs.size (.lst []))) (i := 0) K.nd rfl (.inl hxl) (.inr hxl) _ s7 _ H7 xv u
        (fun σ8 H8 => σ8 = some xv :: (ix.map fun j => (σ[j]?).join) ∧ H7 = H8) I7' r7 ⟨rfl, rfl⟩) fun _ s8 ⟨σ8, H8, I8, e1, e2⟩ => ?_
      subst e1 e2
      have again : ∀ {s' : Shared} {H' : Hp}, Inv (cxC X (x :: fr) scope cl fp H3.objs.size { s2 with heap := H3 } (upd H2 s2.heap.objs.size (.lst []))) ([] ++ pinsAt fp s7.heap) (some xv :: ix.map fun j => (σ[j]?).join) H' s' → N H' →
          ∃ m, m < n ∧ ∃ i v0 H', Inv (cxC X (x :: fr) scope cl fp H3.objs.size { s2 with heap := H3 } (upd H2 s2.heap.objs.size (.lst []))) [] (v0 :: ix.map fun j => (σ[j]?).join) H' s' ∧ tn i s'.heap ∧ (∀ b ∈ fp, H' b = none) ∧ W i m H' := fun {s' H'} J' n' => by
        obtain ⟨m', hm, w'⟩ := hN H' n'
        refine ⟨m', hm, i + 1, some xv, H', J'.unpinned, T.keep _ _ _ st7 fun b hb o e => (J'.pin (b, o) (List.mem_append_right _ (List.mem_append_right _ (mem_pinsAt hb e)))).1, fun b hb => ?_, w'⟩
        obtain ⟨o, e, d⟩ := T.obj _ _ st7 b hb
        exact (J'.pin (b, o) (List.mem_append_right _ (List.mem_append_right _ (mem_pinsAt hb e)))).2.1
      refine thn (ht _ _ _ _ _ s8 _ _ _ I8 (step xv _ y7 _ _ _ _)) fun b s9 ⟨H9, I9, q9⟩ => ?_
      cases b with
      | false =>
        rw [if_neg Bool.false_ne_true] at q9 ⊢
        exact again I9 q9
      | true =>
        rw [if_pos rfl] at q9 ⊢
        refine thn (he _ _ _ _ _ s9 _ _ _ I9 q9) fun yv s10 ⟨y, H10, I10, r10, ys, hD, hz, n10⟩ => ?_
        refine thn (mt_append (X := cxC X (x :: fr) scope cl fp H3.objs.size { s2 with heap := H3 } (upd H2 s2.heap.objs.size (.lst []))) _ s10 _ H10 (.ref s2.heap.objs.size) [y] (.ref s2.heap.objs.size) [yv] (fun _ H' => upd H10 s2.heap.objs.size (.lst (ys ++ [y])) = H') I10 rfl (.cons r10 .nil)
          ⟨_, ys, y, rfl, rfl, hD, hz, rfl⟩) fun _ s11 ⟨v, H11, I11, _, e⟩ => ?_
        subst e
        exact again I11 n10
  exact codeAny_compStart_list (loop _ rfl) (T.self X.A 0 _ _ _ tn4 (loop _ rfl))

theorem pe_compG {elt iter : Expr} {ifs : List Expr} {pos px : Pos} {wi : TI} {tt : BC TT} {te : BC TE} (K : CompOk X scope cl x fr ix) (hc : X.calm = true) (hi : PI X (.Name x px) iter wi) (ht : ∀ fp C s₀ H₀, PFs (cxC X (x :: fr) scope cl fp C s₀ H₀) ifs (tt fp C s₀ H₀))
    (he : ∀ fp C s₀ H₀, PE (cxC X (x :: fr) scope cl fp C s₀ H₀) elt (te fp C s₀ H₀)) (hs : ∀ x, foldedSetIterable iter X.env x = pure x := by intro _; rfl) : PE X (.ListComp elt [⟨.Name x px, iter, ifs, 0⟩] scope pos) (tCG wi ix tt te) := by
  intro pins s σ H Q I h
  rw [eval_ListComp]
  refine wpAny_comprehension_free (use := none) rfl hs K.clos K.kind K.names (thn (hi pins s σ H _ I h) fun v s1 h1 => thn h1 fun itv s2 h2 => ?_)
  obtain ⟨it, fp, tn, J, H2, e, I2, T, st2, f2, q⟩ := h2
  subst e
  refine comp_walk (RR := fun acc C => compPost (model X.prog X.w) X.A X.xe none (EP X pins σ Q) acc C) K hc ht he I2 T st2 f2 q fun D C H' s' I' L q' => ?_
  obtain ⟨m, hn⟩ := L.ns
  exact ⟨m, hn, fun h' hs' => ⟨.ref D, H', L.inv I' hs', rfl, q'⟩⟩
theorem ps_setG {elt iter : Expr} {ifs : List Expr} {pos px spos py : Pos} {y : Str} {i : Nat} {wi : TI} {tt : BC TT} {te : BC TE} (K : CompOk X scope cl x fr ix) (hc : X.calm = true) (hN : X.N.Nodup) (hy : X.N[i]? = some y) (hl : Loc X.env.scope y)
    (hi : PI X (.Name x px) iter wi) (ht : ∀ fp C s₀ H₀, PFs (cxC X (x :: fr) scope cl fp C s₀ H₀) ifs (tt fp C s₀ H₀)) (he : ∀ fp C s₀ H₀, PE (cxC X (x :: fr) scope cl fp C s₀ H₀) elt (te fp C s₀ H₀))
    (hsw : swapsWith (.ListComp elt [⟨.Name x px, iter, ifs, 0⟩] scope pos) (some (.Name y py)) spos.line X.env = pure true := by rfl)
    (hf : X.fn y = true ∨ X.env.scope.names.lookup y = some .local := by first | exact .inl rfl | exact .inr rfl | assumption)
    (hs : ∀ x, foldedSetIterable iter X.env x = pure x := by intro _; rfl) : PS X (.Assign [.Name y py] (.ListComp elt [⟨.Name x px, iter, ifs, 0⟩] scope pos) spos) (tAsg (tCG wi ix tt te) (gName i)) := by
  intro pins s σ H D I h
  rw [exec_Assign_Name_used _ _ _ _ hsw]
  refine wpAny_bind (wpAny_standAt (wpAny_bind ?_))
  refine wpAny_bind (wpAny_mono (wpAny_comprehension_free (use := some (assign (.Name y py) X.env)) (Q := fun _ s' => SP X pins D .next s') rfl hs K.clos K.kind K.names
    (thn (hi pins s σ H _ I h) fun v s1 h1 => thn h1 fun itv s2 h2 => ?_)) (fun _ s' hq => wpAny_pure (wpAny_pure hq)) fun _ _ e => e)
  obtain ⟨it, fp, tn, J, H2, e, I2, T, st2, f2, q⟩ := h2
  subst e
  refine comp_walk (Q := fun x H1 => gName i x σ H1 D.nx) (RR := fun acc C => compPost (model X.prog X.w) X.A X.xe (some (assign (.Name y py) X.env)) (fun _ s' => SP X pins D .next s') acc C) K hc ht he I2 T st2 f2 q fun Dl C H' s' I' L q' => ?_
  show wpAny _ _ (assign (.Name y py) X.env (.ref Dl)) _ _ _
  refine wpAny_assign_Name (store_ok2 I' hN hy hl (show RelV (.ref Dl) (.ref Dl) from rfl) (fun s3 I3 ⟨a, sb, ha⟩ => ?_) hf)
  obtain ⟨m, hn⟩ := L.ns
  have nCa : C ≠ a := by
    rcases ha with z | z
    · rw [z]; exact L.nl
    · exact fun w => L.nc y a z w.symm
  have L3 : LetGo X pins H' s3 C := ⟨⟨m, hn.sameBut sb nCa⟩, L.no, L.nl, L.ab, L.nc, L.np⟩
  exact ⟨m, hn.sameBut sb nCa, fun h' hs' => ⟨_, H', L3.inv I3 hs', q'⟩⟩
end
end L2

namespace L2
open PySem PySem.Spec PyProof.Rows
section
variable {X : Cx}
theorem CompOk.closed {scope : Scope} {x : Str} (hn : ∀ y ∈ scope.names, y.2 ≠ .cell ∧ y.2 ≠ .free) (kind : scope.kind = .function) (names : ∀ y ∈ scope.names, y.2 = .local → scope.names.lookup y.1 = some .local) (hx : scope.names.lookup x = some .local) : CompOk X scope [] x [] [] := by
  have e : (relabel scope X.env).names = scope.names := by
    unfold relabel
    refine map_eq_self fun y hy => ?_
    obtain ⟨n, k⟩ := y
    have h2 : k ≠ .free := (hn _ hy).2
    have : (k == NameKind.free) = false := by cases k <;> first | rfl | exact absurd rfl h2
    simp [this]
  refine ⟨closureFor_none fun y hy => (hn y hy).2, fun y hy => (hn y hy).1, kind, names, hx, fun y c h => (by cases h), fun y h => ?_, rfl, fun k j y h => (by cases h), List.nodup_cons.mpr ⟨by simp, List.nodup_nil⟩⟩
  rw [e] at h
  rcases h with h | h
  · exact absurd rfl (hn _ (PySem.mem_of_lookup h)).1
  · exact absurd rfl (hn _ (PySem.mem_of_lookup h)).2
theorem CompOk.one {scope : Scope} {x y : Str} {c : Addr} {j : Nat} (clos : closureFor scope X.env = pure [(y, c)]) (nocell : ∀ z ∈ scope.names, z.2 ≠ .cell) (kind : scope.kind = .function) (names : ∀ z ∈ scope.names, z.2 = .local → scope.names.lookup z.1 = some .local)
    (hx : scope.names.lookup x = some .local) (sub : X.env.cells.lookup y = some c) (has : ((relabel scope X.env).names.all fun p => (!(p.2 == .cell) && !(p.2 == .free)) || p.1 == y) = true) (hN : X.N[j]? = some y) (hv : Vis X.env.scope y) (hk : X.env.kindOf y = some .cell)
    (hl : (relabel scope X.env).names.lookup y = some .cell) (nd : ¬ x = y) : CompOk X scope [(y, c)] x [y] [j] := by
  refine ⟨clos, nocell, kind, names, hx, fun z d h => ?_, fun z h => ?_, rfl, fun k i z h1 h2 => ?_, List.nodup_cons.mpr ⟨by simpa using nd, List.nodup_cons.mpr ⟨by simp, List.nodup_nil⟩⟩⟩
  · have hm := PySem.mem_of_lookup h
    have e := List.mem_singleton.mp hm
    cases e
    exact sub
  · have hm : ∃ k, (z, k) ∈ (relabel scope X.env).names ∧ (k = .cell ∨ k = .free) := by
      rcases h with h | h
      · exact ⟨_, PySem.mem_of_lookup h, .inl rfl⟩
      · exact ⟨_, PySem.mem_of_lookup h, .inr rfl⟩
    obtain ⟨k, hm, hk'⟩ := hm
    have := List.all_eq_true.mp has _ hm
    have e : z = y := by
      rcases hk' with rfl | rfl
      · simpa using this
      · simpa using this
    subst e
    exact ⟨c, by simp [List.lookup]⟩
  · cases k with
    | zero =>
      simp at h1 h2
      subst h1 h2
      exact ⟨hN, hv, (by rw [hk]; intro q; cases q), .inl hl⟩
    | succ k => simp at h1
end
end L2

namespace L2
open PySem PySem.Spec PyProof.Rows
def Ite (K : PySem.W.Frag) (a : Addr) : It :=
  ⟨fun i H => ∃ xs x, SqL K H a xs ∧ xs[i]? = some x, fun i H v H' => ∃ t x, v = .ref t ∧ H t = none ∧ H' = upd H t (.tup [.int (i : Nat), x]) ∧ ∀ xs, SqL K H a xs → xs[i]? = some x, fun i H => ∃ xs, SqL K H a xs ∧ xs.length ≤ i⟩
theorem turn_enum {P : Program} {w : World} {K : PySem.W.Frag} {es : List Expr} {kt : Nat} {tp : Pos} (a e it : Addr) (hei : e ≠ it) :
    Turn P w K (.Tuple es kt tp) (Ite K a) [e, it] e (fun i h => (∃ old, IsEnum h e it (i : Nat) old) ∧ h.IsListIter it a i) where
  mem := by simp
  obj := fun i h st b hb => by
    obtain ⟨⟨old, he⟩, o, e2, c, d⟩ := st
    rcases List.mem_cons.mp hb with z | z
    · subst z; exact ⟨_, he, fun v q => by cases (show Data.fields _ = Data.cell v from q)⟩
    · rw [List.mem_singleton.mp z]; exact ⟨o, e2, fun v q => by rw [d] at q; cases q⟩
  keep := fun i h h' st k => by
    obtain ⟨⟨old, he⟩, hit⟩ := st
    exact ⟨⟨old, k e (by simp) _ he⟩, hit.at fun o q => k it (by simp) o q⟩
  item := by
    intro X hP hw hK hc i pins s σ H E I hf st hg
    subst hP hw hK
    obtain ⟨xs, x, hq, hx⟩ := hg
    obtain ⟨⟨old, he⟩, hit⟩ := st
    obtain ⟨its, rv, p, hz⟩ := I.list hq
    obtain ⟨u, hu, ru⟩ := rv.get hx
    obtain ⟨oa, na, ha, hca, _, hda⟩ := p
    refine wpAny_pyNext_enum_item he hit (show s.heap.IsList a its.toArray from ⟨oa, ha, hca, na, hda⟩) (x := u) (by simpa using hu) hei fun h' ho hit' hT hsz hk => ?_
    have hTn : H s.heap.objs.size = none := I.fresh
    have hTe : s.heap.objs.size ≠ e := Nat.ne_of_gt (Heap.lt_size he)
    refine ⟨_, rfl, wpAny_letOwnedTupleGo_enum ho fun h'' he'' hs'' => ?_⟩
    have hTi : s.heap.objs.size ≠ it := by obtain ⟨_, q, _⟩ := id hit; exact Nat.ne_of_gt (Heap.lt_size q)
    have kk : ∀ b o, b ∉ [e, it] → s.heap.get? b = some o → h''.get? b = some o := fun b o hb q => by
      have n1 : b ≠ e := fun z => hb (by simp [z])
      have n2 : b ≠ it := fun z => hb (by simp [z])
      exact (hs''.2 b n1).trans (hk b o n1 n2 q)
    have I1 : Inv X pins σ (upd H s.heap.objs.size (.tup [.int (i : Nat), x])) { s with heap := h'', toks := s.toks + 1 } :=
      I.laidN (ch := [e, it]) hf kk (Heap.get?_none_of_le (Nat.le_refl _)) hTn ⟨by show 2 ≤ sizeLine; decide, [.int (i : Nat) s.toks, u], .cons ⟨_, rfl⟩ (.cons ru .nil), ⟨_, (hs''.2 _ hTe).trans hT, rfl, _, rfl⟩⟩
    refine ⟨.ref s.heap.objs.size, _, I1, rfl, ⟨_, x, rfl, hTn, rfl, fun ys hy => by rw [I.list_inj hy hq]; exact hx⟩, ⟨⟨u, by simpa using he''⟩, hit'.at fun o q => (hs''.2 it hei.symm).trans q⟩, fun b hb => ?_⟩
    rw [upd_ne (by
      rcases List.mem_cons.mp hb with z | z
      · rw [z]; exact hTe.symm
      · rw [List.mem_singleton.mp z]; exact hTi.symm)]
    exact (hf b hb).1
  done := by
    intro X hP hw hK hc i pins s σ H E I hf st hg
    subst hP hw hK
    obtain ⟨xs, hq, hx⟩ := hg
    obtain ⟨⟨old, he⟩, hit⟩ := st
    obtain ⟨its, rv, p, hz⟩ := I.list hq
    have hl := rv.length
    refine wpAny_pyNext_enum_end (I.ok.hd hc) he hit p.isList (by simp; omega) fun h' eb => ⟨rfl, ?_⟩
    have k : ∀ b o, b ∉ [e, it] → s.heap.get? b = some o → h'.get? b = some o := fun b o hb q => eb b o (fun z => hb (by simp [z])) q
    refine I.step (g' := s.gens) (d' := s.drawn) (t' := s.toks) (ch := [e, it]) (fun b hb => ?_) (fun b o _ _ hc e _ => k b o hc e) (fun b o _ _ hc e _ => ⟨o.slots, k b o hc e⟩) (fun _ _ _ _ n => n)
      (fun b o hc e => ⟨o, k b o hc e⟩) (fun _ _ e => e) (fun _ _ _ e => e) (fun b ps e => ⟨#[], by rw [e]; simp⟩) (fun m hm => ?_) (fun b u q => ?_) I.bare
    · obtain ⟨_, h2, h3, h4, h5, h6⟩ := hf b hb
      exact ⟨h4, h2, h5, h6⟩
    · obtain ⟨o, es, ep, ho, r⟩ := hm
      exact ⟨o, es, ep, k _ o (fun z => (hf _ z).2.1 rfl) ho, r⟩
    · have nch : ∀ b u, H b = some u → b ∉ [e, it] := fun b u q z => by rw [(hf b z).1] at q; cases q
      refine (I.hok b u q).stay (fun c v hc q' => k c v ?_ q') (fun _ q => q) fun _ _ q => q
      rcases hc with z | z
      · rw [z]; exact nch b u q
      · exact nch c _ z
  self := fun _ _ _ _ _ st h => by
    obtain ⟨⟨old, he⟩, _⟩ := st
    exact wpAny_pyIter_enum he h
section
variable {X : Cx}
def iEnum (K : PySem.W.Frag) (ta : TA) : TI := fun σ H R => ta σ H fun vs H1 => ∃ a, vs = [.ref a] ∧ (∃ xs, SqL K H1 a xs) ∧ R (Ite K a) H1
theorem pi_enum {es : List Expr} {kt : Nat} {tp : Pos} {a : Expr} {ta : TA} {p pos : Pos} (hg : Gl X "enumerate") (hm : X.mg "enumerate" = none) (ha : PA X [a] ta) (hs : starEach [a] X.env = [(false, eval a X.env)] := by rfl) : PI X (.Tuple es kt tp) (.Call (.Name "enumerate" p) [a] [] pos) (iEnum X.K ta) := by
  intro pins s σ H R I h
  refine Call_ (ld_blt I hg hm boot_enumerate (PyProof.Rows.callWith_type1 (thn (ha pos pins s σ H _ I h) fun us s1 ⟨vs, H1, I1, r1, q1⟩ => ?_) hs rfl))
  obtain ⟨l, e, ⟨xs, hq⟩, q⟩ := q1
  subst e
  cases r1 with
  | cons r rr =>
    cases rr
    cases r
    obtain ⟨its, rv, pl, hz⟩ := I1.list hq
    refine call_enumerate_list pl.isList fun h' he hit hsz hk => wpAny_pyIter_enum he ?_
    have n1 : H1 s1.heap.objs.size = none := I1.fresh
    have n2 : H1 (s1.heap.objs.size + 1) = none := I1.hok.fresh (Nat.le_succ _)
    refine ⟨s1.heap.objs.size + 1, [s1.heap.objs.size + 1, s1.heap.objs.size], _, _, H1, rfl, I1.kept (t' := s1.toks) hk, turn_enum l _ _ (Nat.succ_ne_self _), ⟨⟨_, he⟩, hit⟩, fun b hb => ?_, q⟩
    rcases List.mem_cons.mp hb with z | z
    · rw [z]; exact I1.fpOk (Nat.le_succ _) n2
    · rw [List.mem_singleton.mp z]; exact I1.fpOk (Nat.le_refl _) n1
end
theorem for_enum {K : PySem.W.Frag} {a : Addr} {xs : List V} {g : TG} {tb : TS} {D : Ends} {σ : St} {H : Hp} (Pv : Nat → St → Hp → Prop) (h0 : Pv 0 σ H) (hl : ∀ i σ H, i ≤ xs.length → Pv i σ H → SqL K H a xs)
    (hs : ∀ i x σ H t, xs[i]? = some x → Pv i σ H → H t = none → g (.ref t) σ (upd H t (.tup [.int (i : Nat), x])) fun σ2 H2 => tb { D with nx := Pv (i + 1), ct := Pv (i + 1), bk := D.nx } σ2 H2) (hd : ∀ σ H, Pv xs.length σ H → D.nx σ H) :
    ∃ W : Nat → Nat → St → Hp → Prop, (∃ m, W 0 m σ H) ∧ ∀ i m σ H, W i m σ H →
      ((Ite K a).stop i H ∧ D.nx σ H) ∨ ((Ite K a).go i H ∧ ∃ N : St → Hp → Prop, (∀ σ' H', N σ' H' → ∃ m', m' < m ∧ W (i + 1) m' σ' H') ∧ ∀ x H', (Ite K a).yld i H x H' → g x σ H' fun σ2 H2 => tb { D with nx := N, ct := N, bk := D.nx } σ2 H2) := by
  refine ⟨fun i m σ H => m = xs.length - i ∧ i ≤ xs.length ∧ Pv i σ H, ⟨xs.length, by simp, Nat.zero_le _, h0⟩, ?_⟩
  rintro i m σ H ⟨rfl, hi, p⟩
  have q := hl i σ H hi p
  by_cases hlt : i < xs.length
  · refine .inr ⟨⟨xs, xs[i], q, by simp [hlt]⟩, Pv (i + 1), fun σ' H' p' => ⟨xs.length - (i + 1), by omega, rfl, hlt, p'⟩, fun x H' y => ?_⟩
    obtain ⟨t, x', rfl, ht, rfl, y⟩ := y
    exact hs i x' σ _ t (y xs q) p ht
  · have e : i = xs.length := by omega
    subst e
    exact .inl ⟨⟨xs, q, Nat.le_refl _⟩, hd σ H p⟩
end L2


namespace Yd

def nx (m p : Nat) : Nat := if p + 1 = m then 0 else p + 1
def dist (m w p : Nat) : Nat := if w ≤ p then p - w else p + m - w
theorem nx_spec (m p : Nat) : (p + 1 = m ∧ nx m p = 0) ∨ (p + 1 ≠ m ∧ nx m p = p + 1) := by
  unfold nx; split <;> omega
theorem dist_spec (m w p : Nat) : (w ≤ p ∧ dist m w p = p - w) ∨ (p < w ∧ dist m w p = p + m - w) := by
  unfold dist; split <;> omega
theorem nx_lt {m p : Nat} (h : p < m) : nx m p < m := by have := nx_spec m p; omega
theorem dist_lt {m w p : Nat} (hw : w < m) (hp : p < m) : dist m w p < m := by have := dist_spec m w p; omega
theorem dist_self (m w : Nat) : dist m w w = 0 := by have := dist_spec m w w; omega
theorem dist_zero {m w p : Nat} (hw : w < m) (hp : p < m) (h : dist m w p = 0) : w = p := by have := dist_spec m w p; omega
theorem dist_inj {m w p q : Nat} (hw : w < m) (hp : p < m) (hq : q < m) (h : dist m w p = dist m w q) : p = q := by
  have := dist_spec m w p; have := dist_spec m w q; omega
theorem tri {m a b c : Nat} (ha : a < m) (hb : b < m) (hc : c < m) : dist m a c = dist m a b + dist m b c ∨ dist m a c + m = dist m a b + dist m b c := by
  unfold dist
  split <;> split <;> split <;> omega
theorem dist_one {m p : Nat} (hp : p < m) (h2 : 2 ≤ m) : dist m p (nx m p) = 1 := by
  unfold dist nx
  split <;> split <;> omega
theorem dist_nx {m w p : Nat} (hw : w < m) (hp : p < m) : (nx m p = w ∧ dist m w (nx m p) = 0 ∧ dist m w p = m - 1) ∨ (nx m p ≠ w ∧ dist m w (nx m p) = dist m w p + 1) := by
  by_cases h1 : m = 1
  · refine .inl ?_
    have e1 : w = 0 := by omega
    have e2 : p = 0 := by omega
    subst h1 e1 e2
    exact ⟨rfl, rfl, rfl⟩
  · have hn := nx_lt hp
    have h3 := dist_one hp (by omega)
    have h4 := dist_lt hw hp
    have h5 := dist_lt hw hn
    rcases tri hw hp hn with h | h
    · refine .inr ⟨fun z => ?_, by omega⟩
      have z2 : dist m w (nx m p) = 0 := by rw [z, dist_self]
      omega
    · refine .inl ⟨(dist_zero hw hn (by omega)).symm, by omega, by omega⟩
theorem dist_to {m p f : Nat} (hp : p < m) (hf : f < m) (h : p ≠ f) : dist m (nx m p) f + 1 = dist m p f := by
  have hn := nx_lt hp
  have h3 := dist_one hp (by omega)
  have h4 := dist_lt hp hf
  have h5 := dist_lt hn hf
  have h6 : dist m p f ≠ 0 := fun z => h (dist_zero hp hf z)
  rcases tri hp hn hf with q | q <;> omega
theorem lin {m f w p : Nat} (hf : f < m) (hw : w < m) (hp : p < m) (h : ¬ dist m w f < dist m w p) (n : p ≠ f) : dist m f p = dist m f w + dist m w p := by
  have h1 := dist_lt hw hf
  have h2 := dist_lt hf hp
  have h4 : dist m f p ≠ 0 := fun z => n (dist_zero hf hp z).symm
  rcases tri hf hw hp with q | q
  · exact q
  · rcases tri hw hf hp with r | r
    · omega
    · have h5 := dist_lt hw hp
      rcases tri hw hf hw with t | t <;> rw [dist_self] at t <;> omega

def ws (m : Nat) (n : Int) : Nat := (n % (m : Int)).toNat
theorem ws_lt {m : Nat} (h : 0 < m) (n : Int) : ws m n < m := by
  unfold ws
  have h1 := Int.emod_lt_of_pos n (show (0 : Int) < m by omega)
  have h2 := Int.emod_nonneg n (show (m : Int) ≠ 0 by omega)
  omega
theorem ws_int {m : Nat} (h : 0 < m) (n : Int) : (ws m n : Int) = n % (m : Int) := by
  unfold ws
  have h2 := Int.emod_nonneg n (show (m : Int) ≠ 0 by omega)
  omega
theorem way_eq {m : Nat} (h : 0 < m) (n : Int) {p : Nat} (hp : p < m) : ((p : Int) - n) % (m : Int) = (dist m (ws m n) p : Int) := by
  have h1 := ws_int h n
  have h2 := ws_lt h n
  have h3 := dist_spec m (ws m n) p
  have h4 : ((p : Int) - n) % (m : Int) = ((p : Int) - (ws m n : Int)) % (m : Int) := by
    rw [h1, Int.sub_emod, Int.sub_emod (p : Int) (n % (m : Int)), Int.emod_emod]
  rw [h4]
  rcases h3 with ⟨a, b⟩ | ⟨a, b⟩
  · rw [b, Int.emod_eq_of_lt (by omega) (by omega)]; omega
  · rw [b]
    have : ((p : Int) - (ws m n : Int)) % (m : Int) = ((p : Int) - (ws m n : Int) + m) % (m : Int) := by rw [Int.add_emod_right]
    rw [this, Int.emod_eq_of_lt (by omega) (by omega)]; omega
theorem nx_int {m p : Nat} (h : p < m) : ((p : Int) + 1) % (m : Int) = (nx m p : Int) := by
  have := nx_spec m p
  rcases this with ⟨a, b⟩ | ⟨a, b⟩
  · rw [b, show (p : Int) + 1 = m by omega, Int.emod_self]; rfl
  · rw [b, Int.emod_eq_of_lt (by omega) (by omega)]; omega

def kp (m : Nat) (rule : Int) (a b : Int) (q : Nat) : Bool :=
  if rule = 0 then true
  else if rule = 2 then
    if dist m (ws m a) q = dist m (ws m b) q then decide (a < b) else decide (dist m (ws m b) q < dist m (ws m a) q)
  else decide (a < b)
theorem kp_tot {m : Nat} {rule a b : Int} {q : Nat} (h : a ≠ b) (k : kp m rule a b q = false) : kp m rule b a q = true := by
  unfold kp at *; grind
theorem kp_asym {m : Nat} {rule a b : Int} {q : Nat} (hr : rule ≠ 0) (k : kp m rule a b q = true) : kp m rule b a q = false := by
  unfold kp at *; grind
theorem kp_trans {m : Nat} {rule a b c : Int} {q : Nat} (k : kp m rule a b q = true) (l : kp m rule b c q = true) : kp m rule a c q = true := by
  unfold kp at *; grind
theorem kp_shift {m : Nat} {rule a b : Int} {q g : Nat} (h : dist m (ws m a) q + dist m (ws m b) g = dist m (ws m b) q + dist m (ws m a) g) (k : kp m rule a b q = true) : kp m rule a b g = true := by
  unfold kp at *; grind

abbrev Lay := List (Option Int)
def g (c : Lay) (p : Nat) : Option Int := (c[p]?).getD none
theorem g_lt {c : Lay} {p : Nat} {n : Int} (h : g c p = some n) : p < c.length := by
  unfold g at h
  rcases Nat.lt_or_ge p c.length with q | q
  · exact q
  · rw [List.getElem?_eq_none q] at h; cases h
theorem g_get {c : Lay} {p : Nat} (h : p < c.length) : c[p]? = some (g c p) := by
  unfold g; rw [List.getElem?_eq_getElem h]; rfl
theorem g_set {c : Lay} {p q : Nat} {v : Option Int} (hp : p < c.length) : g (c.set p v) q = if q = p then v else g c q := by
  unfold g
  by_cases e : q = p
  · subst e; rw [List.getElem?_set_self hp, if_pos rfl]; rfl
  · rw [List.getElem?_set_ne (Ne.symm e), if_neg e]
theorem g_set_self {c : Lay} {p : Nat} {v : Option Int} (hp : p < c.length) : g (c.set p v) p = v := by rw [g_set hp, if_pos rfl]
theorem g_set_ne {c : Lay} {p q : Nat} {v : Option Int} (hp : p < c.length) (h : q ≠ p) : g (c.set p v) q = g c q := by rw [g_set hp, if_neg h]
theorem g_ext {c d : Lay} (hl : c.length = d.length) (h : ∀ p, p < c.length → g c p = g d p) : c = d := by
  apply List.ext_getElem? 
  intro i
  rcases Nat.lt_or_ge i c.length with q | q
  · rw [g_get q, g_get (hl ▸ q), h i q]
  · rw [List.getElem?_eq_none q, List.getElem?_eq_none (hl ▸ q)]

structure Okay (m : Nat) (rule : Int) (c : Lay) (gap : Option Nat) : Prop where
  len : c.length = m
  inj : ∀ p q n, g c p = some n → g c q = some n → p = q
  pas : ∀ p n, g c p = some n → ∀ q, q < m → dist m (ws m n) q < dist m (ws m n) p → (∃ k, g c q = some k ∧ kp m rule k n q = true) ∨ gap = some q
  fre : ∃ p, p < m ∧ g c p = none
abbrev Right (m : Nat) (rule : Int) (c : Lay) : Prop := Okay m rule c none
theorem Okay.pas' {m : Nat} {rule : Int} {c : Lay} (R : Right m rule c) {p : Nat} {n : Int} (h : g c p = some n) {q : Nat} (hq : q < m) (d : dist m (ws m n) q < dist m (ws m n) p) : ∃ k, g c q = some k ∧ kp m rule k n q = true := by
  rcases R.pas p n h q hq d with x | x
  · exact x
  · cases x

def putL (m : Nat) (rule : Int) : Nat → Lay → Int → Nat → List (Int × Nat) × Lay
  | 0, c, _, _ => ([], c)
  | k + 1, c, x, p => match g c p with
    | none => ([(x, p)], c.set p (some x))
    | some s => if kp m rule s x p = true then putL m rule k c x (nx m p)
      else ((x, p) :: (putL m rule k (c.set p (some x)) s (nx m p)).1, (putL m rule k (c.set p (some x)) s (nx m p)).2)

structure Coming (m : Nat) (rule : Int) (c : Lay) (x : Int) (p : Nat) : Prop where
  R : Right m rule c
  new : ∀ q, g c q ≠ some x
  lt : p < m
  way : ∀ q, q < m → dist m (ws m x) q < dist m (ws m x) p → ∃ k, g c q = some k ∧ kp m rule k x q = true
theorem Coming.start {m : Nat} {rule : Int} {c : Lay} {x : Int} (hm : 0 < m) (R : Right m rule c) (new : ∀ q, g c q ≠ some x) : Coming m rule c x (ws m x) :=
  ⟨R, new, ws_lt hm x, fun q _ d => by rw [dist_self] at d; omega⟩
theorem Coming.on {m : Nat} {rule : Int} {c : Lay} {x s : Int} {p : Nat} (hm : 0 < m) (C : Coming m rule c x p) (hs : g c p = some s) (hk : kp m rule s x p = true) : Coming m rule c x (nx m p) := by
  refine ⟨C.R, C.new, nx_lt C.lt, fun q hq d => ?_⟩
  by_cases e : q = p
  · subst e; exact ⟨s, hs, hk⟩
  · refine C.way q hq ?_
    have hw := ws_lt hm x
    have h1 := dist_nx hw C.lt
    have h2 : dist m (ws m x) q ≠ dist m (ws m x) p := fun z => e (dist_inj hw hq C.lt z)
    omega
theorem Coming.swap {m : Nat} {rule : Int} {c : Lay} {x s : Int} {p : Nat} (hm : 0 < m) (C : Coming m rule c x p) (hs : g c p = some s) (hk : kp m rule s x p = false) : Coming m rule (c.set p (some x)) s (nx m p) := by
  have hp : p < c.length := g_lt hs
  have nex : s ≠ x := fun z => C.new p (z ▸ hs)
  have hk' := kp_tot nex hk
  have hw := ws_lt hm s
  refine ⟨⟨by rw [List.length_set]; exact C.R.len, fun a b n ha hb => ?_, fun a n ha q hq d => .inl ?_, ?_⟩, fun q hq => ?_, nx_lt C.lt, fun q hq d => ?_⟩
  · rw [g_set hp] at ha hb
    split at ha <;> split at hb
    · omega
    · rw [← ha] at hb; exact absurd hb (C.new b)
    · rw [← hb] at ha; exact absurd ha (C.new a)
    · exact C.R.inj a b n ha hb
  · rw [g_set hp] at ha
    split at ha
    · cases ha
      rename_i e; subst e
      obtain ⟨k, h1, h2⟩ := C.way q hq d
      have e : q ≠ a := fun z => by subst z; omega
      exact ⟨k, by rw [g_set_ne hp e]; exact h1, h2⟩
    · obtain ⟨k, h1, h2⟩ := C.R.pas' ha hq d
      by_cases e : q = p
      · subst e
        rw [hs] at h1; cases h1
        exact ⟨x, by rw [g_set_self hp], kp_trans hk' h2⟩
      · exact ⟨k, by rw [g_set_ne hp e]; exact h1, h2⟩
  · obtain ⟨f, hf, h0⟩ := C.R.fre
    refine ⟨f, hf, ?_⟩
    rw [g_set_ne hp (fun z => by subst z; rw [h0] at hs; cases hs)]; exact h0
  · rw [g_set hp] at hq
    split at hq
    · cases hq; exact nex rfl
    · rename_i e; exact e (C.R.inj q p s hq hs)
  · by_cases e : q = p
    · subst e; exact ⟨x, g_set_self hp, hk'⟩
    · have h1 := dist_nx hw C.lt
      have h2 : dist m (ws m s) q ≠ dist m (ws m s) p := fun z => e (dist_inj hw hq C.lt z)
      obtain ⟨k, h3, h4⟩ := C.R.pas' hs hq (by omega)
      exact ⟨k, by rw [g_set_ne hp e]; exact h3, h4⟩
theorem Coming.stand {m : Nat} {rule : Int} {c : Lay} {x : Int} {p : Nat} (C : Coming m rule c x p) (h0 : g c p = none) (hf : ∃ f, f < m ∧ f ≠ p ∧ g c f = none) : Right m rule (c.set p (some x)) := by
  have hp : p < c.length := by rw [C.R.len]; exact C.lt
  refine ⟨by rw [List.length_set]; exact C.R.len, fun a b n ha hb => ?_, fun a n ha q hq d => .inl ?_, ?_⟩
  · rw [g_set hp] at ha hb
    split at ha <;> split at hb
    · omega
    · rw [← ha] at hb; exact absurd hb (C.new b)
    · rw [← hb] at ha; exact absurd ha (C.new a)
    · exact C.R.inj a b n ha hb
  · rw [g_set hp] at ha
    split at ha
    · cases ha
      rename_i e; subst e
      obtain ⟨k, h1, h2⟩ := C.way q hq d
      have e : q ≠ a := fun z => by subst z; omega
      exact ⟨k, by rw [g_set_ne hp e]; exact h1, h2⟩
    · obtain ⟨k, h1, h2⟩ := C.R.pas' ha hq d
      have e : q ≠ p := fun z => by subst z; rw [h0] at h1; cases h1
      exact ⟨k, by rw [g_set_ne hp e]; exact h1, h2⟩
  · obtain ⟨f, h1, h2, h3⟩ := hf
    exact ⟨f, h1, by rw [g_set_ne hp h2]; exact h3⟩


def nm (c : Lay) : List Int := c.filterMap id
theorem g_zero (v : Option Int) (c : Lay) : g (v :: c) 0 = v := rfl
theorem nm_cons (v : Option Int) (c : Lay) : nm (v :: c) = v.toList ++ nm c := by cases v <;> rfl
theorem mem_nm {c : Lay} {n : Int} : n ∈ nm c ↔ ∃ p, g c p = some n := by
  induction c with
  | nil => constructor
           · intro h; cases h
           · rintro ⟨p, h⟩; cases h
  | cons v c ih =>
    rw [nm_cons, List.mem_append, ih]
    constructor
    · rintro (h | ⟨p, h⟩)
      · cases v with
        | none => cases h
        | some k => simp at h; subst h; exact ⟨0, rfl⟩
      · exact ⟨p + 1, h⟩
    · rintro ⟨p, h⟩
      cases p with
      | zero => rw [g_zero] at h; subst h; exact .inl (by simp)
      | succ p => exact .inr ⟨p, h⟩
theorem nm_set : ∀ {c : Lay} {p : Nat} (v : Option Int), p < c.length → ((g c p).toList ++ nm (c.set p v)).Perm (v.toList ++ nm c)
  | [], p, v, h => by cases h
  | u :: c, 0, v, _ => by
    show ((u.toList) ++ nm (v :: c)).Perm _
    rw [nm_cons, nm_cons, ← List.append_assoc, ← List.append_assoc]
    exact List.Perm.append_right _ List.perm_append_comm
  | u :: c, p + 1, v, h => by
    have ih := nm_set (c := c) (p := p) v (by simpa using h)
    show ((g c p).toList ++ nm (u :: c.set p v)).Perm _
    rw [nm_cons, nm_cons]
    calc ((g c p).toList ++ (u.toList ++ nm (c.set p v))).Perm ((u.toList ++ ((g c p).toList ++ nm (c.set p v)))) := by
          rw [← List.append_assoc, ← List.append_assoc]; exact List.Perm.append_right _ List.perm_append_comm
      _ |>.Perm (u.toList ++ (v.toList ++ nm c)) := List.Perm.append_left _ ih
      _ |>.Perm (v.toList ++ (u.toList ++ nm c)) := by
          rw [← List.append_assoc, ← List.append_assoc]; exact List.Perm.append_right _ List.perm_append_comm
theorem nm_put {c : Lay} {p : Nat} {x : Int} (h : g c p = none) (hp : p < c.length) : (nm (c.set p (some x))).Perm (x :: nm c) := by
  have := nm_set (some x) hp; rw [h] at this; exact this
theorem nm_swap {c : Lay} {p : Nat} {x s : Int} (h : g c p = some s) : (s :: nm (c.set p (some x))).Perm (x :: nm c) := by
  have := nm_set (some x) (g_lt h); rw [h] at this; exact this
theorem nm_drop {c : Lay} {p : Nat} {s : Int} (h : g c p = some s) : (s :: nm (c.set p none)).Perm (nm c) := by
  have := nm_set none (g_lt h); rw [h] at this; exact this
theorem nm_nodup : ∀ {c : Lay}, (∀ p q n, g c p = some n → g c q = some n → p = q) → (nm c).Nodup
  | [], _ => List.nodup_nil
  | v :: c, h => by
    have ih := nm_nodup (c := c) fun p q n a b => by have := h (p + 1) (q + 1) n a b; omega
    cases v with
    | none => exact ih
    | some k =>
      show (k :: nm c).Nodup
      refine List.nodup_cons.mpr ⟨fun z => ?_, ih⟩
      obtain ⟨p, hp⟩ := mem_nm.mp z
      have := h 0 (p + 1) k rfl hp
      omega
theorem free_nm : ∀ c : Lay, c.count none + (nm c).length = c.length
  | [] => rfl
  | none :: c => by have := free_nm c; rw [nm_cons]; simp; omega
  | some k :: c => by have := free_nm c; rw [nm_cons]; simp; omega
theorem free_of : ∀ {c : Lay}, 0 < c.count none → ∃ p, p < c.length ∧ g c p = none
  | [], h => by simp at h
  | none :: c, _ => ⟨0, by simp, rfl⟩
  | some k :: c, h => by
    obtain ⟨p, a, b⟩ := free_of (c := c) (by simpa using h)
    exact ⟨p + 1, by simpa using a, b⟩
theorem free_two : ∀ {c : Lay}, 1 < c.count none → ∃ p q, p < c.length ∧ q < c.length ∧ p ≠ q ∧ g c p = none ∧ g c q = none
  | [], h => by simp at h
  | none :: c, h => by
    obtain ⟨p, a, b⟩ := free_of (c := c) (by rw [List.count_cons] at h; simp only [beq_self_eq_true, if_true] at h; omega)
    exact ⟨0, p + 1, by simp, by simpa using a, by omega, rfl, b⟩
  | some k :: c, h => by
    obtain ⟨p, q, a, b, d, e, f⟩ := free_two (c := c) (by simpa using h)
    exact ⟨p + 1, q + 1, by simpa using a, by simpa using b, by omega, e, f⟩
theorem free_pos : ∀ {c : Lay} {p : Nat}, p < c.length → g c p = none → 0 < c.count none
  | [], p, h, _ => by cases h
  | none :: c, _, _, _ => by simp
  | some k :: c, 0, _, h => by cases h
  | some k :: c, p + 1, h, e => by
    have := free_pos (c := c) (p := p) (by simpa using h) e
    simpa using this

theorem putL_ok {m : Nat} {rule : Int} (hm : 0 < m) : ∀ (k : Nat) (c : Lay) (x : Int) (p : Nat) (f f' : Nat), Coming m rule c x p → f < m → f' < m → f ≠ f' → g c f = none → g c f' = none → dist m p f < k →
    Right m rule (putL m rule k c x p).2 ∧ (nm (putL m rule k c x p).2).Perm (x :: nm c)
  | 0, c, x, p, f, f', _, _, _, _, _, _, h => by omega
  | k + 1, c, x, p, f, f', C, hf, hf', ne, h0, h0', hd => by
    unfold putL
    cases e : g c p with
    | none =>
      have hp : p < c.length := by rw [C.R.len]; exact C.lt
      refine ⟨C.stand e ?_, nm_put e hp⟩
      by_cases z : f = p
      · exact ⟨f', hf', fun y => ne (z.trans y.symm), h0'⟩
      · exact ⟨f, hf, z, h0⟩
    | some s =>
      have npf : p ≠ f := fun z => by subst z; rw [h0] at e; cases e
      have npf' : p ≠ f' := fun z => by subst z; rw [h0'] at e; cases e
      have hd' := dist_to C.lt hf npf
      have hp := g_lt e
      by_cases q : kp m rule s x p = true
      · simp only [q, if_true]
        exact putL_ok hm k c x (nx m p) f f' (C.on hm e q) hf hf' ne h0 h0' (by omega)
      · simp only [if_neg q]
        have := putL_ok hm k (c.set p (some x)) s (nx m p) f f' (C.swap hm e (by simpa using q)) hf hf' ne (by rw [g_set_ne hp (Ne.symm npf)]; exact h0) (by rw [g_set_ne hp (Ne.symm npf')]; exact h0') (by omega)
        exact ⟨this.1, this.2.trans (nm_swap e)⟩
theorem putL_fuel {m : Nat} {rule : Int} : ∀ (k j : Nat) (c : Lay) (x : Int) (p f : Nat), p < m → f < m → g c f = none → dist m p f < k → dist m p f < j → putL m rule k c x p = putL m rule j c x p
  | 0, _, c, x, p, f, _, _, _, h, _ => by omega
  | _, 0, c, x, p, f, _, _, _, _, h => by omega
  | k + 1, j + 1, c, x, p, f, hp, hf, h0, hk, hj => by
    unfold putL
    cases e : g c p with
    | none => rfl
    | some s =>
      have npf : p ≠ f := fun z => by subst z; rw [h0] at e; cases e
      have hd' := dist_to hp hf npf
      have hpl := g_lt e
      simp only
      rw [putL_fuel k j c x (nx m p) f (nx_lt hp) hf h0 (by omega) (by omega), putL_fuel k j (c.set p (some x)) s (nx m p) f (nx_lt hp) hf (by rw [g_set_ne hpl (Ne.symm npf)]; exact h0) (by omega) (by omega)]

def leads (m : Nat) (rule : Int) (c : Lay) (x : Int) (p : Nat) : Bool := match g c p with
  | none => false
  | some s => if s = x then false else kp m rule s x p
def lookL (m : Nat) (rule : Int) (c : Lay) (x : Int) : Nat → Nat → List Nat
  | 0, p => [p]
  | k + 1, p => if leads m rule c x p = true then p :: lookL m rule c x k (nx m p) else [p]
def lastL (m : Nat) (rule : Int) (c : Lay) (x : Int) : Nat → Nat → Nat
  | 0, p => p
  | k + 1, p => if leads m rule c x p = true then lastL m rule c x k (nx m p) else p
theorem lookL_last {m : Nat} {rule : Int} {c : Lay} {x : Int} : ∀ (k p : Nat), ∃ r, lookL m rule c x k p = r ++ [lastL m rule c x k p]
  | 0, p => ⟨[], rfl⟩
  | k + 1, p => by
    unfold lookL lastL
    split
    · obtain ⟨r, e⟩ := lookL_last k (nx m p)
      exact ⟨p :: r, by rw [e]; rfl⟩
    · exact ⟨[], rfl⟩
theorem lastL_lt {m : Nat} {rule : Int} {c : Lay} {x : Int} : ∀ (k p : Nat), p < m → lastL m rule c x k p < m
  | 0, p, h => h
  | k + 1, p, h => by
    unfold lastL
    split
    · exact lastL_lt k _ (nx_lt h)
    · exact h
theorem lastL_found {m : Nat} {rule : Int} {c : Lay} {x : Int} {p0 : Nat} (hm : 0 < m) (R : Right m rule c) (h0 : g c p0 = some x) : ∀ (k p : Nat), p < m → dist m (ws m x) p ≤ dist m (ws m x) p0 → dist m p p0 < k → lastL m rule c x k p = p0
  | 0, p, _, _, h => by omega
  | k + 1, p, hp, hd, hk => by
    have hp0 : p0 < m := by rw [← R.len]; exact g_lt h0
    unfold lastL
    by_cases e : p = p0
    · subst e
      have : leads m rule c x p = false := by unfold leads; rw [h0]; simp
      rw [this, if_neg Bool.false_ne_true]
    · have hw := ws_lt hm x
      have hne : dist m (ws m x) p ≠ dist m (ws m x) p0 := fun z => e (dist_inj hw hp hp0 z)
      obtain ⟨s, h1, h2⟩ := R.pas' h0 hp (by omega)
      have hsx : s ≠ x := fun z => e (R.inj p p0 x (z ▸ h1) h0)
      have : leads m rule c x p = true := by unfold leads; rw [h1]; simp [hsx, h2]
      rw [this, if_pos rfl]
      have h3 := dist_nx hw hp
      have h4 := dist_to hp hp0 e
      have h5 := dist_lt hw hp0
      exact lastL_found hm R h0 k _ (nx_lt hp) (by omega) (by omega)
def whr (m : Nat) (rule : Int) (c : Lay) (x : Int) : Option Nat := if g c (lastL m rule c x m (ws m x)) = some x then some (lastL m rule c x m (ws m x)) else none
theorem whr_some {m : Nat} {rule : Int} {c : Lay} {x : Int} {p : Nat} (hm : 0 < m) (R : Right m rule c) : whr m rule c x = some p ↔ g c p = some x := by
  unfold whr
  constructor
  · intro h
    split at h
    · cases h; assumption
    · cases h
  · intro h
    have hp : p < m := by rw [← R.len]; exact g_lt h
    rw [lastL_found hm R h m (ws m x) (ws_lt hm x) (by rw [dist_self]; omega) (dist_lt (ws_lt hm x) hp), if_pos h]
theorem whr_none {m : Nat} {rule : Int} {c : Lay} {x : Int} (hm : 0 < m) (R : Right m rule c) : whr m rule c x = none ↔ x ∉ nm c := by
  rw [mem_nm]
  constructor
  · rintro h ⟨p, hp⟩
    rw [(whr_some hm R).mpr hp] at h; cases h
  · intro h
    cases e : whr m rule c x with
    | none => rfl
    | some p => exact absurd ⟨p, (whr_some hm R).mp e⟩ h

def sm : Nat → (Nat → Nat) → Nat
  | 0, _ => 0
  | m + 1, F => sm m F + F m
theorem sm_congr : ∀ {m : Nat} {F G : Nat → Nat}, (∀ i, i < m → F i = G i) → sm m F = sm m G
  | 0, _, _, _ => rfl
  | m + 1, F, G, h => by unfold sm; rw [sm_congr (m := m) fun i hi => h i (by omega), h m (by omega)]
theorem sm_upd : ∀ {m : Nat} {F G : Nat → Nat} {p : Nat}, p < m → (∀ i, i < m → i ≠ p → F i = G i) → sm m F + G p = sm m G + F p
  | 0, _, _, p, h, _ => by omega
  | m + 1, F, G, p, hp, h => by
    unfold sm
    by_cases e : p = m
    · subst e
      rw [sm_congr (m := p) (F := F) (G := G) fun i hi => h i (by omega) (by omega)]; omega
    · have := sm_upd (m := m) (F := F) (G := G) (p := p) (by omega) fun i hi => h i (by omega)
      rw [h m (by omega) (by omega)]; omega
def stp (m : Nat) (c : Lay) (p : Nat) : Nat := match g c p with
  | none => 0
  | some n => dist m (ws m n) p
def steps (m : Nat) (c : Lay) : Nat := sm m (stp m c)

def passes (m : Nat) (n : Int) (gap p : Nat) : Bool := decide (dist m (ws m n) gap < dist m (ws m n) p)
def nearL (m : Nat) (c : Lay) (gap : Nat) : Nat → Nat → Option Nat
  | 0, _ => none
  | k + 1, p => match g c p with
    | none => none
    | some n => if passes m n gap p = true then some p else nearL m c gap k (nx m p)
def near (m : Nat) (c : Lay) (gap : Nat) : Option Nat := nearL m c gap m (nx m gap)
def takeL (m : Nat) : Nat → Lay → Nat → List (Int × Nat) × Lay
  | 0, c, _ => ([], c)
  | k + 1, c, gap => match near m c gap with
    | none => ([], c)
    | some q => match g c q with
      | none => ([], c)
      | some y => ((y, gap) :: (takeL m k ((c.set gap (some y)).set q none) q).1, (takeL m k ((c.set gap (some y)).set q none) q).2)
theorem nearL_some {m : Nat} {c : Lay} {gap : Nat} (hg : gap < m) (h0 : g c gap = none) : ∀ (k p q : Nat), p < m → nearL m c gap k p = some q →
    q < m ∧ (∃ n, g c q = some n ∧ passes m n gap q = true) ∧ dist m p q ≤ dist m p gap ∧ ∀ r, r < m → dist m p r < dist m p q → ∃ n, g c r = some n ∧ passes m n gap r = false
  | 0, p, q, _, h => by cases h
  | k + 1, p, q, hp, h => by
    unfold nearL at h
    cases e : g c p with
    | none => rw [e] at h; cases h
    | some n =>
      rw [e] at h
      simp only at h
      by_cases z : passes m n gap p = true
      · rw [if_pos z] at h; cases h
        refine ⟨hp, ⟨n, e, z⟩, by rw [dist_self]; omega, fun r _ d => ?_⟩
        rw [dist_self] at d; omega
      · rw [if_neg z] at h
        obtain ⟨h1, h2, h3, h4⟩ := nearL_some hg h0 k (nx m p) q (nx_lt hp) h
        have npg : p ≠ gap := fun y => by subst y; rw [h0] at e; cases e
        have d1 := dist_to hp hg npg
        have npq : p ≠ q := by
          rintro rfl
          obtain ⟨n', e', z'⟩ := h2
          rw [e] at e'; cases e'
          exact z z'
        have d2 := dist_to hp h1 npq
        refine ⟨h1, h2, by omega, fun r hr d => ?_⟩
        by_cases y : r = p
        · subst y; exact ⟨n, e, by simpa using z⟩
        · have d3 := dist_to hp hr (Ne.symm y)
          exact h4 r hr (by omega)
theorem nearL_none {m : Nat} {c : Lay} {gap : Nat} (hg : gap < m) (h0 : g c gap = none) : ∀ (k p : Nat), p < m → dist m p gap < k → nearL m c gap k p = none →
    ∃ f, f < m ∧ g c f = none ∧ dist m p f ≤ dist m p gap ∧ ∀ r, r < m → dist m p r < dist m p f → ∃ n, g c r = some n ∧ passes m n gap r = false
  | 0, p, _, h, _ => by omega
  | k + 1, p, hp, hk, h => by
    unfold nearL at h
    cases e : g c p with
    | none => exact ⟨p, hp, e, by rw [dist_self]; omega, fun r _ d => by rw [dist_self] at d; omega⟩
    | some n =>
      rw [e] at h
      simp only at h
      by_cases z : passes m n gap p = true
      · rw [if_pos z] at h; cases h
      · rw [if_neg z] at h
        have npg : p ≠ gap := fun y => by subst y; rw [h0] at e; cases e
        have d1 := dist_to hp hg npg
        obtain ⟨f, h1, h2, h3, h4⟩ := nearL_none hg h0 k (nx m p) (nx_lt hp) (by omega) h
        have npf : p ≠ f := fun y => by subst y; rw [h2] at e; cases e
        have d2 := dist_to hp h1 npf
        refine ⟨f, h1, h2, by omega, fun r hr d => ?_⟩
        by_cases y : r = p
        · subst y; exact ⟨n, e, by simpa using z⟩
        · have d3 := dist_to hp hr (Ne.symm y)
          exact h4 r hr (by omega)

theorem near_some {m : Nat} {c : Lay} {gap q : Nat} (hg : gap < m) (h0 : g c gap = none) (h : near m c gap = some q) :
    q < m ∧ q ≠ gap ∧ (∃ n, g c q = some n ∧ dist m (ws m n) gap < dist m (ws m n) q) ∧ ∀ r, r < m → r ≠ gap → dist m gap r < dist m gap q → ∃ n, g c r = some n ∧ ¬ dist m (ws m n) gap < dist m (ws m n) r := by
  obtain ⟨h1, ⟨n, h2, h2'⟩, h3, h4⟩ := nearL_some hg h0 m (nx m gap) q (nx_lt hg) h
  have nqg : q ≠ gap := fun y => by subst y; rw [h0] at h2; cases h2
  refine ⟨h1, nqg, ⟨n, h2, by simpa [passes] using h2'⟩, fun r hr hrg d => ?_⟩
  have d1 := dist_to hg h1 (Ne.symm nqg)
  have d2 := dist_to hg hr (Ne.symm hrg)
  obtain ⟨k, e1, e2⟩ := h4 r hr (by omega)
  exact ⟨k, e1, by simpa [passes] using e2⟩
theorem near_none {m : Nat} {c : Lay} {gap : Nat} (hg : gap < m) (h0 : g c gap = none) (h : near m c gap = none) :
    ∃ f, f < m ∧ g c f = none ∧ ∀ r, r < m → dist m (nx m gap) r < dist m (nx m gap) f → ∃ n, g c r = some n ∧ ¬ dist m (ws m n) gap < dist m (ws m n) r := by
  obtain ⟨f, h1, h2, h3, h4⟩ := nearL_none hg h0 m (nx m gap) (nx_lt hg) (dist_lt (nx_lt hg) hg) h
  refine ⟨f, h1, h2, fun r hr d => ?_⟩
  obtain ⟨k, e1, e2⟩ := h4 r hr d
  exact ⟨k, e1, by simpa [passes] using e2⟩

theorem Okay.gap {m : Nat} {rule : Int} {c : Lay} {p : Nat} {n : Int} (R : Right m rule c) (h : g c p = some n) : Okay m rule (c.set p none) (some p) := by
  have hp := g_lt h
  refine ⟨by rw [List.length_set]; exact R.len, fun a b k ha hb => ?_, fun a k ha q hq d => ?_, ⟨p, by rw [← R.len]; exact hp, g_set_self hp⟩⟩
  · rw [g_set hp] at ha hb
    split at ha
    · cases ha
    · split at hb
      · cases hb
      · exact R.inj a b k ha hb
  · rw [g_set hp] at ha
    split at ha
    · cases ha
    · by_cases e : q = p
      · exact .inr (by rw [e])
      · obtain ⟨j, h1, h2⟩ := R.pas' ha hq d
        exact .inl ⟨j, by rw [g_set_ne hp e]; exact h1, h2⟩
theorem Okay.move {m : Nat} {rule : Int} {c : Lay} {gap q : Nat} {y : Int} (hm : 0 < m) (R : Okay m rule c (some gap)) (hg : gap < m) (h0 : g c gap = none) (hn : near m c gap = some q) (hy : g c q = some y) :
    Okay m rule ((c.set gap (some y)).set q none) (some q) := by
  obtain ⟨hq, nqg, ⟨y', hy', hpy⟩, hnear⟩ := near_some hg h0 hn
  rw [hy] at hy'; cases hy'
  have hgl : gap < c.length := by rw [R.len]; exact hg
  have hql : q < (c.set gap (some y)).length := by rw [List.length_set, R.len]; exact hq
  have G : ∀ r, g ((c.set gap (some y)).set q none) r = if r = q then none else if r = gap then some y else g c r := fun r => by rw [g_set hql, g_set hgl]
  have hw := ws_lt hm y
  refine ⟨by rw [List.length_set, List.length_set]; exact R.len, fun a b k ha hb => ?_, fun a k ha r hr d => ?_, ⟨q, hq, by rw [G, if_pos rfl]⟩⟩
  · rw [G] at ha hb
    split at ha
    · cases ha
    · split at hb
      · cases hb
      · split at ha <;> split at hb
        · omega
        · cases ha; rename_i h1 _ _; exact absurd (R.inj b q _ hb hy) h1
        · cases hb; rename_i h1 _ _ _; exact absurd (R.inj a q _ ha hy) h1
        · exact R.inj a b k ha hb
  · rw [G] at ha
    split at ha
    · cases ha
    · rename_i naq
      by_cases erq : r = q
      · exact .inr (by rw [erq])
      · left
        rw [G, if_neg erq]
        split at ha
        · -- y itself, at the gap
          rename_i eag; subst eag; cases ha
          have nra : r ≠ a := fun z => by subst z; omega
          rw [if_neg nra]
          rcases R.pas q y hy r hr (by omega) with x | x
          · exact x
          · cases x; exact absurd rfl nra
        · rename_i nag
          by_cases erg : r = gap
          · -- a cart that passed the gap: y keeps it
            subst erg
            rw [if_pos rfl]
            refine ⟨y, rfl, ?_⟩
            have hwk := ws_lt hm k
            have hal : a < m := by rw [← R.len]; exact g_lt ha
            -- a stands farther behind the gap than q
            have far : dist m r q < dist m r a := by
              rcases Nat.lt_or_ge (dist m r q) (dist m r a) with z | z
              · exact z
              · exfalso
                have z' : dist m r a ≠ dist m r q := fun w => naq (dist_inj hg hal hq w)
                obtain ⟨n', e1, e2⟩ := hnear a hal nag (by omega)
                rw [ha] at e1; cases e1
                exact e2 d
            -- from the gap on: k's wish, y's wish ahead; then q, then a
            have hla := dist_lt hg hal
            have dk : dist m (ws m k) a = dist m (ws m k) r + dist m r a := by
              rcases tri hwk hg hal with t | t
              · exact t
              · exfalso; omega
            have dkq : dist m (ws m k) q = dist m (ws m k) r + dist m r q := by
              have := dist_lt hwk hal
              rcases tri hwk hg hq with t | t
              · exact t
              · exfalso; have := dist_lt hwk hq; omega
            have dyq : dist m (ws m y) q = dist m (ws m y) r + dist m r q := by
              have := dist_lt hg hq
              rcases tri hw hg hq with t | t
              · exact t
              · exfalso; omega
            have dq : dist m (ws m k) q < dist m (ws m k) a := by omega
            rcases R.pas a k ha q hq dq with ⟨j, x1, x2⟩ | x
            · rw [hy] at x1; cases x1
              refine kp_shift (q := q) ?_ x2
              omega
            · cases x; exact absurd rfl nqg
          · rw [if_neg erg]
            rcases R.pas a k ha r hr d with x | x
            · exact x
            · cases x; exact absurd rfl erg
theorem Okay.done {m : Nat} {rule : Int} {c : Lay} {gap : Nat} (hm : 0 < m) (R : Okay m rule c (some gap)) (hg : gap < m) (h0 : g c gap = none) (hn : near m c gap = none) : Right m rule c := by
  obtain ⟨f, hf, f0, hnear⟩ := near_none hg h0 hn
  refine ⟨R.len, R.inj, fun a k ha r hr d => .inl ?_, R.fre⟩
  rcases R.pas a k ha r hr d with x | x
  · exact x
  · cases x
    exfalso
    have hal : a < m := by rw [← R.len]; exact g_lt ha
    have hw := ws_lt hm k
    have nag : a ≠ gap := fun z => by subst z; rw [h0] at ha; cases ha
    have naf : a ≠ f := fun z => by subst z; rw [f0] at ha; cases ha
    rcases Nat.lt_or_ge (dist m (nx m gap) a) (dist m (nx m gap) f) with z | z
    · obtain ⟨n', e1, e2⟩ := hnear a hal z
      rw [ha] at e1; cases e1
      exact e2 d
    · -- f lies between the gap and a: a passes it
      have nfg : f ≠ gap := fun z' => by
        subst z'
        have e1 := dist_to hg hal (Ne.symm nag)
        have e2 : dist m (nx m f) f + 1 = m := by
          have h2 : 2 ≤ m := by omega
          have h3 := dist_one hg h2
          rcases tri hg (nx_lt hg) hg with t | t <;> rw [dist_self] at t <;> omega
        have := dist_lt hg hal
        omega
      have df : dist m (ws m k) f < dist m (ws m k) a := by
        have e1 := dist_to hg hal (Ne.symm nag)
        have e2 := dist_to hg hf (Ne.symm nfg)
        have l1 := dist_lt hg hal
        have l2 := dist_lt hw hal
        have l3 := dist_lt hw hf
        have n3 : dist m gap a ≠ dist m gap f := fun t => naf (dist_inj hg hal hf t)
        rcases tri hw hg hal with t | t
        · rcases tri hw hg hf with u | u <;> omega
        · exfalso; omega
      rcases R.pas a k ha f hf df with ⟨j, x1, _⟩ | x
      · rw [f0] at x1; cases x1
      · cases x; exact nfg rfl
theorem steps_move {m : Nat} {c : Lay} {gap q : Nat} {y : Int} (hl : c.length = m) (hg : gap < m) (h0 : g c gap = none) (hq : q < m) (hqg : q ≠ gap) (hy : g c q = some y) (hp : dist m (ws m y) gap < dist m (ws m y) q) :
    steps m ((c.set gap (some y)).set q none) < steps m c := by
  have hgl : gap < c.length := by rw [hl]; exact hg
  have hql : q < (c.set gap (some y)).length := by rw [List.length_set, hl]; exact hq
  have e1 := sm_upd (m := m) (F := stp m c) (G := stp m (c.set gap (some y))) (p := gap) hg fun i _ hi => by unfold stp; rw [g_set_ne hgl hi]
  have e2 := sm_upd (m := m) (F := stp m (c.set gap (some y))) (G := stp m ((c.set gap (some y)).set q none)) (p := q) hq fun i _ hi => by unfold stp; rw [g_set_ne hql hi]
  have a1 : stp m c gap = 0 := by unfold stp; rw [h0]
  have a2 : stp m (c.set gap (some y)) gap = dist m (ws m y) gap := by unfold stp; rw [g_set_self hgl]
  have a3 : stp m (c.set gap (some y)) q = dist m (ws m y) q := by unfold stp; rw [g_set_ne hgl hqg, hy]
  have a4 : stp m ((c.set gap (some y)).set q none) q = 0 := by unfold stp; rw [g_set_self hql]
  unfold steps
  omega
theorem takeL_ok {m : Nat} {rule : Int} (hm : 0 < m) : ∀ (k : Nat) (c : Lay) (gap : Nat), Okay m rule c (some gap) → gap < m → g c gap = none → steps m c < k →
    Right m rule (takeL m k c gap).2 ∧ (nm (takeL m k c gap).2).Perm (nm c)
  | 0, _, _, _, _, _, h => by omega
  | k + 1, c, gap, R, hg, h0, hk => by
    unfold takeL
    cases e : near m c gap with
    | none => exact ⟨R.done hm hg h0 e, List.Perm.refl _⟩
    | some q =>
      obtain ⟨hq, nqg, ⟨y, hy, hpy⟩, _⟩ := near_some hg h0 e
      simp only [hy]
      have hgl : gap < c.length := by rw [R.len]; exact hg
      have hql : q < (c.set gap (some y)).length := by rw [List.length_set, R.len]; exact hq
      have st := steps_move R.len hg h0 hq nqg hy hpy
      have := takeL_ok hm k ((c.set gap (some y)).set q none) q (R.move hm hg h0 e hy) hq (g_set_self hql) (by omega)
      refine ⟨this.1, this.2.trans ?_⟩
      have hy' : g (c.set gap (some y)) q = some y := by rw [g_set_ne hgl nqg]; exact hy
      have p1 := nm_drop hy'
      have p2 := nm_put (x := y) h0 hgl
      exact List.Perm.cons_inv (p1.trans p2)
theorem nodup_sub_len {α : Type} [DecidableEq α] : ∀ {l₁ l₂ : List α}, l₁.Nodup → (∀ a, a ∈ l₁ → a ∈ l₂) → l₁.length ≤ l₂.length
  | [], _, _, _ => Nat.zero_le _
  | a :: l, l₂, h, hs => by
    obtain ⟨h1, h2⟩ := List.nodup_cons.mp h
    have ha : a ∈ l₂ := hs a (List.mem_cons_self ..)
    have := nodup_sub_len (l₁ := l) (l₂ := l₂.erase a) h2 fun b hb => by
      have nb : b ≠ a := by rintro rfl; exact h1 hb
      exact (List.mem_erase_of_ne nb).mpr (hs b (List.mem_cons_of_mem _ hb))
    rw [List.length_erase_of_mem ha] at this
    have := List.length_pos_of_mem ha
    simp only [List.length_cons]; omega
theorem nodup_map {α β : Type} {F : α → β} : ∀ {l : List α}, (∀ a, a ∈ l → ∀ b, b ∈ l → F a = F b → a = b) → l.Nodup → (l.map F).Nodup
  | [], _, _ => List.nodup_nil
  | a :: l, h, hn => by
    obtain ⟨h1, h2⟩ := List.nodup_cons.mp hn
    refine List.nodup_cons.mpr ⟨fun z => ?_, nodup_map (fun x hx y hy => h x (List.mem_cons_of_mem _ hx) y (List.mem_cons_of_mem _ hy)) h2⟩
    obtain ⟨b, hb, e⟩ := List.mem_map.mp z
    have := h b (List.mem_cons_of_mem _ hb) a (List.mem_cons_self ..) e
    exact h1 (this ▸ hb)
def off (m i j : Nat) : Nat := if i + j < m then i + j else i + j - m
theorem run_start {m : Nat} {rule : Int} {c : Lay} (R : Right m rule c) {f : Nat} (hf : f < m) : ∃ e, e < m ∧ g c e = none ∧ ∀ r, r < m → dist m e r ≤ dist m e f → r ≠ e → ∃ n, g c r = some n := by
  -- the free stall from which f is nearest
  obtain ⟨e0, h1, h2⟩ := R.fre
  have key : ∀ d e, e < m → g c e = none → dist m e f = d → ∃ e, e < m ∧ g c e = none ∧ ∀ r, r < m → dist m e r ≤ dist m e f → r ≠ e → ∃ n, g c r = some n := by
    intro d
    induction d using Nat.strongRecOn with
    | ind d ih =>
      intro e he h0 hd
      by_cases z : ∃ r, r < m ∧ dist m e r ≤ dist m e f ∧ r ≠ e ∧ g c r = none
      · obtain ⟨r, z1, z2, z3, z4⟩ := z
        refine ih (dist m r f) ?_ r z1 z4 rfl
        have h1 := dist_lt z1 hf
        have h2 := dist_lt he hf
        have h3 : dist m e r ≠ 0 := fun t => z3 (dist_zero he z1 t).symm
        rcases tri he z1 hf with t | t <;> omega
      · refine ⟨e, he, h0, fun r hr d1 d2 => ?_⟩
        cases q : g c r with
        | none => exact absurd ⟨r, hr, d1, d2, q⟩ z
        | some n => exact ⟨n, rfl⟩
  exact key _ e0 h1 h2 rfl
theorem free_same {m : Nat} {rule rule' : Int} {c c' : Lay} (hm : 0 < m) (R : Right m rule c) (R' : Right m rule' c') (hs : ∀ n, n ∈ nm c' → n ∈ nm c) {f : Nat} (hf : f < m) (h0 : g c f = none) : g c' f = none := by
  cases e' : g c' f with
  | none => rfl
  | some n0 =>
    exfalso
    obtain ⟨e, he, e0, hrun⟩ := run_start R' hf
    have nef : f ≠ e := fun z => by subst z; rw [e'] at e0; cases e0
    -- L carts stand behind e up to f in c'
    let L := dist m e f
    have hL : L = dist m e f := rfl
    have hLm : L < m := dist_lt he hf
    have hoff : ∀ j, j < L → off m e (j + 1) < m ∧ dist m e (off m e (j + 1)) = j + 1 := fun j hj => by
      have hj' : j + 1 < m := by omega
      unfold off dist
      split
      · rw [if_pos (by omega)]; omega
      · rw [if_neg (by omega)]; omega
    have hex : ∀ j, j < L → ∃ n, g c' (off m e (j + 1)) = some n := fun j hj => by
      obtain ⟨a, b⟩ := hoff j hj
      refine hrun _ a (by omega) (fun z => ?_)
      rw [z, dist_self] at b; omega
    -- each of them wishes for one of these stalls, and stands in c ahead of f
    have hin : ∀ j, j < L → ∃ t, t + 1 < L ∧ ∃ n, g c' (off m e (j + 1)) = some n ∧ g c (off m e (t + 1)) = some n := fun j hj => by
      obtain ⟨a, b⟩ := hoff j hj
      obtain ⟨n, hn⟩ := hex j hj
      have hw := ws_lt hm n
      -- its wish lies behind e
      have w1 : ¬ dist m (ws m n) e < dist m (ws m n) (off m e (j + 1)) := fun z => by
        obtain ⟨k, k1, _⟩ := R'.pas' hn he z
        rw [e0] at k1; cases k1
      obtain ⟨p, hp⟩ := mem_nm.mp (hs n (mem_nm.mpr ⟨_, hn⟩))
      have hpm : p < m := by rw [← R.len]; exact g_lt hp
      have npf : p ≠ f := fun z => by subst z; rw [h0] at hp; cases hp
      have w2 : ¬ dist m (ws m n) f < dist m (ws m n) p := fun z => by
        obtain ⟨k, k1, _⟩ := R.pas' hp hf z
        rw [h0] at k1; cases k1
      have npe : off m e (j + 1) ≠ e := fun z => by rw [z, dist_self] at b; omega
      have l1 := lin he hw a w1 npe
      have q0 : dist m (ws m n) p < dist m (ws m n) f := by
        have : dist m (ws m n) p ≠ dist m (ws m n) f := fun t => npf (dist_inj hw hpm hf t)
        omega
      have hLf := dist_lt he hf
      have hw0 : dist m e (ws m n) ≠ 0 := fun t => by
        have e1 := dist_zero he hw t
        rw [← e1, dist_self] at w1
        omega
      have q1 : 0 < dist m e p ∧ dist m e p < L := by
        have t1 : dist m e f = dist m e (ws m n) + dist m (ws m n) f := by
          rcases tri he hw hf with t | t
          · exact t
          · exfalso
            have := dist_lt hw hf
            omega
        have t2 : dist m e p = dist m e (ws m n) + dist m (ws m n) p := by
          rcases tri he hw hpm with t | t
          · exact t
          · exfalso
            have := dist_lt he hpm
            omega
        omega
      refine ⟨dist m e p - 1, by omega, n, hn, ?_⟩
      have s8 := hoff (dist m e p - 1) (by omega)
      have : off m e (dist m e p - 1 + 1) = p := dist_inj he s8.1 hpm (by omega)
      rw [this]; exact hp
    -- more carts than stalls
    have hch : ∃ F : Nat → Nat, ∀ j, j < L → F j + 1 < L ∧ ∃ n, g c' (off m e (j + 1)) = some n ∧ g c (off m e (F j + 1)) = some n := by
      refine ⟨fun j => if h : j < L then (hin j h).choose else 0, fun j hj => ?_⟩
      simp only [dif_pos hj]
      exact (hin j hj).choose_spec
    obtain ⟨F, hF⟩ := hch
    have nd : ((List.range L).map F).Nodup := by
      refine nodup_map ?_ List.nodup_range
      intro a ha b hb hab
      rw [List.mem_range] at ha hb
      obtain ⟨_, n, a1, a2⟩ := hF a ha
      obtain ⟨_, n', b1, b2⟩ := hF b hb
      rw [hab, b2] at a2
      cases a2
      have := R'.inj _ _ _ a1 b1
      have x := (hoff a ha).2; have y := (hoff b hb).2
      rw [this] at x; omega
    have hsub : ∀ t, t ∈ (List.range L).map F → t ∈ List.range (L - 1) := fun t ht => by
      obtain ⟨j, hj, rfl⟩ := List.mem_map.mp ht
      have := (hF j (List.mem_range.mp hj)).1
      exact List.mem_range.mpr (by omega)
    have := nodup_sub_len nd hsub
    rw [List.length_map, List.length_range, List.length_range] at this
    have : 0 < L := Nat.pos_of_ne_zero fun t => nef (dist_zero he hf t).symm
    omega

theorem nm_same_of_perm {c c' : Lay} (h : (nm c).Perm (nm c')) : ∀ n, n ∈ nm c' → n ∈ nm c := fun _ hn => h.mem_iff.mpr hn
theorem right_unique {m : Nat} {rule : Int} {c c' : Lay} (hm : 0 < m) (hr : rule ≠ 0) (R : Right m rule c) (R' : Right m rule c') (hs : ∀ n, n ∈ nm c ↔ n ∈ nm c') : c = c' := by
  obtain ⟨f, hf, h0⟩ := R.fre
  have h0' := free_same hm R R' (fun n h => (hs n).mpr h) hf h0
  -- stall by stall behind f
  have key : ∀ d p, p < m → dist m f p = d → g c p = g c' p := by
    intro d
    induction d using Nat.strongRecOn with
    | ind d ih =>
      intro p hp hd
      -- a cart that stands at p in one of them stands at p or behind it in the other
      have later : ∀ {c1 c2 : Lay}, Right m rule c1 → Right m rule c2 → g c1 f = none → g c2 f = none → (∀ n, n ∈ nm c1 → n ∈ nm c2) → (∀ q, q < m → dist m f q < d → g c1 q = g c2 q) → ∀ n, g c1 p = some n → g c2 p ≠ some n →
          ∃ k, g c2 p = some k ∧ kp m rule k n p = true := by
        intro c1 c2 R1 R2 f1 f2 sub same n hn hne
        obtain ⟨p2, hp2⟩ := mem_nm.mp (sub n (mem_nm.mpr ⟨_, hn⟩))
        have hp2m : p2 < m := by rw [← R2.len]; exact g_lt hp2
        have hw := ws_lt hm n
        have npp : p2 ≠ p := fun z => hne (z ▸ hp2)
        have beh : d ≤ dist m f p2 := by
          rcases Nat.lt_or_ge (dist m f p2) d with z | z
          · have := same p2 hp2m z
            rw [hp2] at this
            exact absurd (R1.inj _ _ _ this hn) npp
          · exact z
        have npf : p ≠ f := fun z => by subst z; rw [f1] at hn; cases hn
        have npf2 : p2 ≠ f := fun z => by subst z; rw [f2] at hp2; cases hp2
        have w1 : ¬ dist m (ws m n) f < dist m (ws m n) p := fun z => by
          obtain ⟨k, k1, _⟩ := R1.pas' hn hf z
          rw [f1] at k1; cases k1
        have w2 : ¬ dist m (ws m n) f < dist m (ws m n) p2 := fun z => by
          obtain ⟨k, k1, _⟩ := R2.pas' hp2 hf z
          rw [f2] at k1; cases k1
        refine R2.pas' hp2 hp ?_
        have l1 := lin hf hw hp w1 npf
        have l2 := lin hf hw hp2m w2 npf2
        have l3 : dist m f p2 ≠ dist m f p := fun t => npp (dist_inj hf hp2m hp t)
        omega
      have same : ∀ q, q < m → dist m f q < d → g c q = g c' q := fun q hq hlt => ih _ hlt q hq rfl
      cases e : g c p with
      | none =>
        cases e' : g c' p with
        | none => rfl
        | some n =>
          obtain ⟨k, k1, _⟩ := later R' R h0' h0 (fun n h => (hs n).mpr h) (fun q a b => (same q a b).symm) n e' (by rw [e]; intro z; cases z)
          rw [e] at k1; cases k1
      | some n =>
        by_cases z : g c' p = some n
        · rw [z]
        · exfalso
          obtain ⟨k, k1, k2⟩ := later R R' h0 h0' (fun n h => (hs n).mp h) same n e z
          have nk : g c p ≠ some k := fun y => z (by rw [e] at y; cases y; exact k1)
          obtain ⟨j, j1, j2⟩ := later R' R h0' h0 (fun n h => (hs n).mpr h) (fun q a b => (same q a b).symm) k k1 nk
          rw [e] at j1; cases j1
          rw [kp_asym hr k2] at j2; cases j2
  refine g_ext (by rw [R.len, R'.len]) fun p hp => key _ p (by rw [← R.len]; exact hp) rfl

end Yd

namespace Y
open PySem L2 Yd
def cV : Option Int → V
  | none => .non
  | some n => .int n
def layV (c : Lay) : List V := c.map cV
theorem layV_len (c : Lay) : (layV c).length = c.length := List.length_map ..
theorem layV_get {c : Lay} {p : Nat} (h : p < c.length) : (layV c)[p]? = some (cV (g c p)) := by
  unfold layV; rw [List.getElem?_map, g_get h]; rfl
theorem layV_set (c : Lay) (p : Nat) (v : Option Int) : layV (c.set p v) = (layV c).set p (cV v) := by
  unfold layV; rw [List.map_set]
theorem layV_at {c : Lay} {p : Nat} (h : p < c.length) : atI (layV c) (p : Int) = some (cV (g c p)) := atI_nat (layV_get h)
theorem layV_ix {c : Lay} {p : Nat} (h : p < c.length) : ixN (layV c).length (p : Int) = some p := by rw [layV_len]; exact ixN_nat h
theorem layV_nm (c : Lay) : ((layV c).filter notNon).map id = (nm c).map V.int := by
  rw [List.map_id]
  induction c with
  | nil => rfl
  | cons v c ih =>
    rw [nm_cons]
    show ((cV v :: layV c).filter notNon) = _
    rw [List.filter_cons]
    cases v with
    | none => exact ih
    | some n => show (V.int n :: (layV c).filter notNon) = _; rw [ih]; rfl
theorem layV_empty (m : Nat) : (List.replicate m [V.non]).flatten = layV (List.replicate m none) := by
  induction m with
  | zero => rfl
  | succ m ih => rw [List.replicate_succ, List.flatten_cons, ih, List.replicate_succ]; rfl
theorem empty_right {m : Nat} (hm : 0 < m) (rule : Int) : Right m rule (List.replicate m none) := by
  have e : ∀ p, g (List.replicate m none) p = none := fun p => by
    unfold g
    rw [List.getElem?_replicate]
    split <;> rfl
  refine ⟨List.length_replicate .., fun p q n h => ?_, fun p n h => ?_, ⟨0, hm, e 0⟩⟩
  · rw [e] at h; cases h
  · rw [e] at h; cases h
theorem empty_nm (m : Nat) : nm (List.replicate m none) = [] := by
  induction m with
  | zero => rfl
  | succ m ih => rw [List.replicate_succ, nm_cons, ih]; rfl

theorem sm_le : ∀ {m B : Nat} {F : Nat → Nat}, (∀ i, i < m → F i ≤ B) → sm m F ≤ m * B
  | 0, _, _, _ => Nat.zero_le _
  | m + 1, B, F, h => by
    have := sm_le (m := m) (B := B) (F := F) fun i hi => h i (by omega)
    have h2 := h m (by omega)
    unfold sm
    rw [Nat.succ_mul]
    omega
theorem steps_le {m : Nat} {c : Lay} (hm : 0 < m) (h : m ≤ 200) : steps m c ≤ 40000 := by
  have : steps m c ≤ m * 200 := sm_le fun i hi => by
    unfold stp
    split
    · omega
    · rename_i n _
      have := dist_lt (ws_lt hm n) hi
      omega
  omega

theorem s_mr : ¬ (("many" : Str) = "rule") := by decide +kernel
theorem s_mc : ¬ (("many" : Str) = "cells") := by decide +kernel
theorem s_rc : ¬ (("rule" : Str) = "cells") := by decide +kernel
def flds (m : Nat) (rule : Int) (ca : Addr) : List (Str × V) := putF "cells" (.ref ca) (putF "rule" (.int rule) (putF "many" (.int m) []))
theorem flds_many (m : Nat) (rule : Int) (ca : Addr) : (flds m rule ca).lookup ("many" : Str) = some (.int m) := by
  unfold flds
  rw [lookup_putF, if_neg s_mc, lookup_putF, if_neg s_mr, lookup_putF, if_pos rfl]
theorem flds_rule (m : Nat) (rule : Int) (ca : Addr) : (flds m rule ca).lookup ("rule" : Str) = some (.int rule) := by
  unfold flds
  rw [lookup_putF, if_neg s_rc, lookup_putF, if_pos rfl]
theorem flds_cells (m : Nat) (rule : Int) (ca : Addr) : (flds m rule ca).lookup ("cells" : Str) = some (.ref ca) := by
  unfold flds
  rw [lookup_putF, if_pos rfl]
theorem flds_no (m : Nat) (rule : Int) (ca : Addr) {x : Str} (h1 : ¬ x = "cells") (h2 : ¬ x = "rule") (h3 : ¬ x = "many") : (flds m rule ca).lookup x = none := by
  unfold flds
  rw [lookup_putF, if_neg h1, lookup_putF, if_neg h2, lookup_putF, if_neg h3]
  rfl
structure YardAt (C : Addr) (H : Hp) (y ca : Addr) (m : Nat) (rule : Int) (c : Lay) : Prop where
  ob : ∃ dx, H y = some (.ins C dx (flds m rule ca))
  ls : H ca = some (.lst (layV c))
  len : c.length = m
  few : m ≤ 200
theorem YardAt.ne {C : Addr} {H : Hp} {y ca : Addr} {m : Nat} {rule : Int} {c : Lay} (Y : YardAt C H y ca m rule c) : y ≠ ca := by
  obtain ⟨dx, h⟩ := Y.ob
  exact ne_of h Y.ls (by intro z; cases z)
theorem YardAt.same {C : Addr} {H H' : Hp} {y ca : Addr} {m : Nat} {rule : Int} {c : Lay} (Y : YardAt C H y ca m rule c) (s : Same H H') : YardAt C H' y ca m rule c := by
  obtain ⟨dx, h⟩ := Y.ob
  exact ⟨⟨dx, s _ _ h⟩, s _ _ Y.ls, Y.len, Y.few⟩
def SameX (a : Addr) (H H' : Hp) : Prop := ∀ b o, H b = some o → b ≠ a → H' b = some o
theorem SameX.refl (a : Addr) (H : Hp) : SameX a H H := fun _ _ h _ => h
theorem sx_of {a : Addr} {H H' : Hp} (x : Same H H') : SameX a H H' := fun b o h _ => x b o h
theorem same_upd {H : Hp} {a : Addr} {o : HO} (h : H a = none) : Same H (upd H a o) := fun b u e => by rw [upd_ne (ne_of_none e h)]; exact e
theorem samex_upd {H : Hp} {a : Addr} {o : HO} : SameX a H (upd H a o) := fun b u e n => by rw [upd_ne n]; exact e
structure Told (H : Hp) (l : Addr) (xs : List (Int × Nat)) : Prop where
  ex : ∃ ts : List Addr, H l = some (.lst (ts.map V.ref)) ∧ TupsAt H ts (xs.map fun q => [q.1, (q.2 : Int)])
theorem tups_same {H H' : Hp} (s : ∀ b xs, H b = some (.tup xs) → H' b = some (.tup xs)) :
    ∀ {ts : List Addr} {ns : List (List Int)}, TupsAt H ts ns → TupsAt H' ts ns
  | _, _, .nil => .nil
  | _, _, .cons r t => .cons (s _ _ r) (tups_same s t)
theorem tups_snoc {H : Hp} : ∀ {ts : List Addr} {ns : List (List Int)} {t : Addr} {n : List Int}, TupsAt H ts ns → H t = some (.tup (n.map V.int)) → TupsAt H (ts ++ [t]) (ns ++ [n])
  | _, _, _, _, .nil, h => .cons h .nil
  | _, _, _, _, .cons r t, h => .cons r (tups_snoc t h)
theorem Told.samex {H H' : Hp} {l a : Addr} {xs : List (Int × Nat)} {ys : List V} (T : Told H l xs) (ha : H a = some (.lst ys)) (hl : l ≠ a) (s : SameX a H H') : Told H' l xs := by
  obtain ⟨ts, h1, h2⟩ := T.ex
  exact ⟨⟨ts, s _ _ h1 hl, tups_same (fun b ys e => s b _ e (ne_of e ha (by intro z; cases z))) h2⟩⟩
theorem Told.snoc {H : Hp} {l t : Addr} {ts : List Addr} {xs : List (Int × Nat)} {n : Int} {p : Nat} (h1 : H l = some (.lst (ts.map V.ref))) (h2 : TupsAt H ts (xs.map fun q => [q.1, (q.2 : Int)]))
    (ht : H t = some (.tup [.int n, .int p])) : Told (upd H l (.lst (ts.map V.ref ++ [.ref t]))) l (xs ++ [(n, p)]) := by
  refine ⟨⟨ts ++ [t], by rw [upd_same, List.map_append]; rfl, ?_⟩⟩
  rw [List.map_append]
  have nl : ∀ b ys, H b = some (.tup ys) → b ≠ l := fun b ys e => ne_of e h1 (by intro z; cases z)
  refine tups_snoc (tups_same (fun b ys e => by rw [upd_ne (nl b ys e)]; exact e) h2) ?_
  rw [upd_ne (nl t _ ht)]; exact ht
end Y
namespace Y
open PySem L2 Yd
theorem kp_far {m : Nat} {r a b : Int} {q : Nat} (hq : q < m) (h2 : r = 2) (ne : ((q : Int) - a) % (m : Int) - ((q : Int) - b) % (m : Int) ≠ 0) :
    kp m r a b q = decide (0 < ((q : Int) - a) % (m : Int) - ((q : Int) - b) % (m : Int)) := by
  have e1 := way_eq (show 0 < m by omega) a hq
  have e2 := way_eq (show 0 < m by omega) b hq
  rw [e1, e2] at ne ⊢
  unfold kp
  rw [if_neg (by omega), if_pos h2, if_neg (by omega)]
  rw [Bool.eq_iff_iff, decide_eq_true_iff, decide_eq_true_iff]
  omega
theorem kp_far0 {m : Nat} {r a b : Int} {q : Nat} (hq : q < m) (h2 : r = 2) (ne : ((q : Int) - a) % (m : Int) - ((q : Int) - b) % (m : Int) = 0) : kp m r a b q = decide (a < b) := by
  have e1 := way_eq (show 0 < m by omega) a hq
  have e2 := way_eq (show 0 < m by omega) b hq
  rw [e1, e2] at ne
  unfold kp
  rw [if_neg (by omega), if_pos h2, if_pos (by omega)]
theorem kp_name {m : Nat} {r a b : Int} {q : Nat} (h0 : r ≠ 0) (h2 : r ≠ 2) : kp m r a b q = decide (a < b) := by
  unfold kp
  rw [if_neg h0, if_neg h2]
theorem kp_zero {m : Nat} {r a b : Int} {q : Nat} (h0 : r = 0) : kp m r a b q = true := by
  unfold kp
  rw [if_pos h0]
def oV : Option Nat → V
  | none => .non
  | some p => .int (p : Int)
def nV (ps : List Nat) : List V := ps.map fun (p : Nat) => V.int (p : Int)

theorem put_ok {m : Nat} {rule : Int} {c : Lay} {n : Int} (hm : 0 < m) (R : Right m rule c) (hn : n ∉ nm c) (hroom : (nm c).length + 1 < m) :
    Right m rule (putL m rule m c n (ws m n)).2 ∧ (nm (putL m rule m c n (ws m n)).2).Perm (n :: nm c) := by
  have hf := free_nm c
  rw [R.len] at hf
  obtain ⟨p, q, hp, hq, ne, h1, h2⟩ := free_two (c := c) (by omega)
  rw [R.len] at hp hq
  exact putL_ok hm m c n (ws m n) p q (.start hm R fun q h => hn (mem_nm.mpr ⟨q, h⟩)) hp hq ne h1 h2 (dist_lt (ws_lt hm n) hp)
def spWay : Sp := fun vs H Q _ => ∃ n a m : Int, vs = [.int n, .int a, .int m] ∧ 0 < m ∧ Q (.int ((a - n) % m)) H
def spKeeps : Sp := fun vs H Q _ => ∃ (r a b : Int) (q m : Nat), vs = [.int r, .int a, .int b, .int q, .int m] ∧ q < m ∧ Q (.bl (kp m r a b q)) H
def spPasses : Sp := fun vs H Q _ => ∃ (n : Int) (gap q m : Nat), vs = [.int n, .int gap, .int q, .int m] ∧ gap < m ∧ q < m ∧ Q (.bl (passes m n gap q)) H
def spInit (C : Addr) : Sp := fun vs H Q _ => ∃ (y dx : Addr) (m : Nat) (rule : Int), vs = [.ref y, .int m, .int rule] ∧ 2 ≤ m ∧ m ≤ 200 ∧ H y = some (.ins C dx []) ∧
  ∀ (ca : Addr) (H' : Hp), H ca = none → YardAt C H' y ca m rule (List.replicate m none) → (∀ b o, H b = some o → b ≠ y → H' b = some o) → Q .non H'
def spWish (C : Addr) : Sp := fun vs H Q _ => ∃ (y ca : Addr) (m : Nat) (rule : Int) (c : Lay) (n : Int), vs = [.ref y, .int n] ∧ YardAt C H y ca m rule c ∧ 0 < m ∧ Q (.int (ws m n : Nat)) H
def spBehind (C : Addr) : Sp := fun vs H Q _ => ∃ (y ca : Addr) (m : Nat) (rule : Int) (c : Lay) (p : Nat), vs = [.ref y, .int p] ∧ YardAt C H y ca m rule c ∧ p < m ∧ Q (.int (nx m p : Nat)) H
def spStand (C : Addr) : Sp := fun vs H Q _ => ∃ (y ca : Addr) (m : Nat) (rule : Int) (c : Lay) (n : Int) (p : Nat), vs = [.ref y, .int n, .int p] ∧ YardAt C H y ca m rule c ∧ p < m ∧
  ∀ (t : Addr) (H' : Hp), H t = none → YardAt C H' y ca m rule (c.set p (some n)) → SameX ca H H' → H' t = some (.tup [.int n, .int p]) → Q (.ref t) H'
def spLeads (C : Addr) : Sp := fun vs H Q _ => ∃ (y ca : Addr) (m : Nat) (rule : Int) (c : Lay) (n : Int) (p : Nat), vs = [.ref y, .int n, .int p] ∧ YardAt C H y ca m rule c ∧ p < m ∧ Q (.bl (leads m rule c n p)) H
def spLooked (C : Addr) : Sp := fun vs H Q _ => ∃ (y ca : Addr) (m : Nat) (rule : Int) (c : Lay) (n : Int) (f : Nat), vs = [.ref y, .int n] ∧ YardAt C H y ca m rule c ∧ f < m ∧ g c f = none ∧
  ∀ (l : Addr) (H' : Hp), H l = none → Same H H' → H' l = some (.lst (nV (lookL m rule c n m (ws m n)))) → Q (.ref l) H'
def spWhere (C : Addr) : Sp := fun vs H Q _ => ∃ (y ca : Addr) (m : Nat) (rule : Int) (c : Lay) (n : Int) (f : Nat), vs = [.ref y, .int n] ∧ YardAt C H y ca m rule c ∧ f < m ∧ g c f = none ∧
  ∀ (H' : Hp), Same H H' → Q (oV (whr m rule c n)) H'
def spStalls (C : Addr) : Sp := fun vs H Q _ => ∃ (y ca : Addr) (m : Nat) (rule : Int) (c : Lay), vs = [.ref y] ∧ YardAt C H y ca m rule c ∧ ∀ (l : Addr), H l = none → Q (.ref l) (upd H l (.lst (layV c)))
def spNear (C : Addr) : Sp := fun vs H Q _ => ∃ (y ca : Addr) (m : Nat) (rule : Int) (c : Lay) (gap : Nat), vs = [.ref y, .int gap] ∧ YardAt C H y ca m rule c ∧ gap < m ∧ g c gap = none ∧ Q (oV (near m c gap)) H
def takenL (m : Nat) (c : Lay) (p : Nat) : List (Int × Nat) × Lay := takeL m (steps m (c.set p none) + 1) (c.set p none) p
theorem taken_ok {m : Nat} {rule : Int} {c : Lay} {n : Int} {p : Nat} (hm : 0 < m) (R : Right m rule c) (hp : g c p = some n) : Right m rule (takenL m c p).2 ∧ (n :: nm (takenL m c p).2).Perm (nm c) := by
  have hpl := g_lt hp
  have h := takeL_ok hm (steps m (c.set p none) + 1) (c.set p none) p (R.gap hp) (by rw [← R.len]; exact hpl) (g_set_self hpl) (Nat.lt_succ_self _)
  exact ⟨h.1, (h.2.cons n).trans (nm_drop hp)⟩
def spTake (C : Addr) : Sp := fun vs H Q _ => ∃ (y ca : Addr) (m : Nat) (rule : Int) (c : Lay) (n : Int) (p : Nat), vs = [.ref y, .int n] ∧ YardAt C H y ca m rule c ∧ 0 < m ∧ m ≤ 200 ∧ Right m rule c ∧ g c p = some n ∧
  ∀ (l : Addr) (H' : Hp), H l = none → Told H' l (takenL m c p).1 → YardAt C H' y ca m rule (takenL m c p).2 → SameX ca H H' → Q (.ref l) H'
structure Txt (K : PySem.W.Frag) (mg : Str → Option Value) (C : Addr) : Prop where
  cl : Cls K C
  nM : NoAttr K C "many"
  nR : NoAttr K C "rule"
  nC : NoAttr K C "cells"
  first : ∃ t, mg "FIRST" = some (.int 0 t)
  far : ∃ t, mg "FAR" = some (.int 2 t)
  lo : ∃ t, mg "LEAST_STALLS" = some (.int 2 t)
  hi : ∃ t, mg "MOST_STALLS" = some (.int 200 t)
  len : mg "len" = none
  sorted : mg "sorted" = none
  list : mg "list" = none
end Y

namespace Y
open PySem L2 Yd
structure LTxt (K : PySem.W.Frag) (mg : Str → Option Value) : Prop where
  len : mg "len" = none
  isi : mg "isinstance" = none
  int : mg "int" = none
  bool : mg "bool" = none
  list : mg "list" = none
  tuple : mg "tuple" = none
  kII : PySem.W.kitOne K (.type "int") (.type "int") = some true
  kIB : PySem.W.kitOne K (.type "int") (.type "bool") = some false
  kLL : PySem.W.kitOne K (.type "list") (.type "list") = some true
  kTT : PySem.W.kitOne K (.type "tuple") (.type "tuple") = some true
def spCell (K : PySem.W.Frag) : Sp := fun vs H Q _ => ∃ (a : Addr) (ns : List Int) (k : Nat), vs = [.ref a, .int k] ∧ SqL K H a (ns.map V.int) ∧ Q (.int (ns.getD k 0)) H
end Y

namespace Y
open PySem L2 Yd
end Y

namespace L2
open PySem PySem.Spec PyProof.Rows
section
variable {X : Cx}
theorem seqIndexL {i : Int} {n : Nat} (h0 : 0 ≤ i) (h1 : i < n) : seqIndex? i n = some i.toNat := seqIndex_of h0 h1
theorem eqAt_bl {A : Around} {s : Shared} {xs ys : List Bool} {us ws : List Value} (r1 : Vals (xs.map V.bl) us) (r2 : Vals (ys.map V.bl) ws) (j : Nat) (h1 : j < us.toArray.size) (h2 : j < ws.toArray.size) :
    SeqAt.EqAt A s us.toArray[j] ws.toArray[j] (decide ((xs.map V.bl).getD j .non = (ys.map V.bl).getD j .non)) := by
  have l1 := r1.length
  have l2 := r2.length
  rw [List.length_map] at l1 l2
  have h1' : j < us.length := by simpa using h1
  have h2' : j < ws.length := by simpa using h2
  have e1 : (xs.map V.bl)[j]? = some (.bl (xs[j]'(by omega))) := by rw [List.getElem?_map, List.getElem?_eq_getElem (by omega)]; rfl
  have e2 : (ys.map V.bl)[j]? = some (.bl (ys[j]'(by omega))) := by rw [List.getElem?_map, List.getElem?_eq_getElem (by omega)]; rfl
  obtain ⟨u, a1, b1⟩ := r1.get e1
  obtain ⟨w, a2, b2⟩ := r2.get e2
  have := eqAt_V (A := A) (s := s) b1 b2 rfl rfl
  rw [List.getElem?_eq_getElem h1'] at a1
  rw [List.getElem?_eq_getElem h2'] at a2
  cases a1; cases a2
  rw [List.getD_eq_getElem?_getD, List.getD_eq_getElem?_getD, e1, e2]
  show SeqAt.EqAt A s _ _ (decide (V.bl _ = V.bl _))
  rw [dec_bl]
  exact this
def rNeB (K : PySem.W.Frag) : R2 := fun x y H Q => ∃ (a b : Addr) (xs ys : List Bool), x = .ref a ∧ y = .ref b ∧ SqL K H a (xs.map V.bl) ∧ SqL K H b (ys.map V.bl) ∧ Q (.bl (!decide (xs = ys))) H
theorem map_bl_inj {xs ys : List Bool} : xs.map V.bl = ys.map V.bl ↔ xs = ys := by
  constructor
  · intro h
    exact List.map_inj_right (fun a b q => by cases q; rfl) |>.mp h
  · rintro rfl; rfl
theorem op_neB (hu : X.A.units < cLine) : OpR X (compareOp .NotEq) (rNeB X.K) := by
  intro pins s σ H x y v u Q I rx ry h
  obtain ⟨a, b, xs, ys, rfl, rfl, ha, hb, q⟩ := h
  cases rx; cases ry
  obtain ⟨its, r1, pl1, _⟩ := I.list ha
  obtain ⟨its2, r2, pl2, _⟩ := I.list hb
  have l1 := r1.length
  have l2 := r2.length
  rw [List.length_map] at l1 l2
  have ed : decide (xs.map V.bl = ys.map V.bl) = decide (xs = ys) := by rw [Bool.eq_iff_iff, decide_eq_true_iff, decide_eq_true_iff]; exact map_bl_inj
  by_cases hl : xs.length = ys.length
  · refine SeqAt.RcNeAt.lists (e := fun j => decide ((xs.map V.bl).getD j .non = (ys.map V.bl).getD j .non)) pl1.isList pl2.isList (by simp; omega) hu (fun j h1 h2 => eqAt_bl r1 r2 j h1 h2) X.prog X.w _ _ ⟨.bl _, H, I, rfl, ?_⟩
    rw [List.size_toArray, ← l1, ← List.length_map (f := V.bl), all_range_eq (by simpa using hl), ed]
    exact q
  · refine SeqAt.RcNeAt.lists_lengths pl1.isList pl2.isList (by simp; omega) hu X.prog X.w _ _ ⟨.bl true, H, I, rfl, ?_⟩
    have : decide (xs = ys) = false := decide_eq_false fun z => hl (by rw [z])
    rw [this] at q; exact q
end
end L2
namespace Y
open PySem L2 Yd
theorem ints_in (ns : List Int) (n : Int) : inV (.int n) (ns.map V.int) = decide (n ∈ ns) := by
  rw [Bool.eq_iff_iff, decide_eq_true_iff]
  induction ns with
  | nil => simp [inV]
  | cons k ns ih =>
    rw [List.mem_cons, ← ih]
    show (eqV (.int k) (.int n) || inV (.int n) (ns.map V.int)) = true ↔ _
    rw [Bool.or_eq_true]
    show (k == n) = true ∨ _ ↔ _
    rw [beq_iff_eq]
    constructor
    · rintro (h | h)
      · exact .inl h.symm
      · exact .inr h
    · rintro (h | h)
      · exact .inl h.symm
      · exact .inr h
theorem ints_flat (ns : List Int) : (ns.map V.int).all flatV = true := by rw [List.all_map]; exact List.all_eq_true.mpr fun _ _ => rfl
theorem ints_plain (ns : List Int) : (ns.map V.int).all plainV = true := by rw [List.all_map]; exact List.all_eq_true.mpr fun _ _ => rfl
theorem get_int {ms : List Int} {i : Nat} {x : V} (h : (ms.map V.int)[i]? = some x) : ∃ z, x = V.int z ∧ ms[i]? = some z := by
  rw [List.getElem?_map] at h
  cases e : ms[i]? with
  | none => rw [e] at h; cases h
  | some z => rw [e] at h; exact ⟨z, (Option.some.inj h).symm, rfl⟩
theorem cut_int (ns : List Int) (lo hi : Nat) : ∃ ms : List Int, cutV (ns.map V.int) (some (lo : Int)) (some (hi : Int)) = ms.map V.int ∧ ms.length ≤ hi - lo := by
  unfold cutV
  rw [← List.map_drop, ← List.map_take]
  refine ⟨_, rfl, ?_⟩
  rw [List.length_take]
  have e1 : HT.sIx (ns.map V.int).length 0 (some (lo : Int)) = min lo (ns.map V.int).length := by
    show (if (lo : Int) < 0 then ((lo : Int) + ((ns.map V.int).length : Int)).toNat else min (lo : Int).toNat (ns.map V.int).length) = min lo (ns.map V.int).length
    rw [if_neg (by omega)]; simp
  have e2 : HT.sIx (ns.map V.int).length (ns.map V.int).length (some (hi : Int)) = min hi (ns.map V.int).length := by
    show (if (hi : Int) < 0 then ((hi : Int) + ((ns.map V.int).length : Int)).toNat else min (hi : Int).toNat (ns.map V.int).length) = min hi (ns.map V.int).length
    rw [if_neg (by omega)]; simp
  rw [e1, e2]
  omega
theorem erase_map (f : Int → V) : ∀ (l : List Int) (k : Nat), (l.map f).eraseIdx k = (l.eraseIdx k).map f
  | [], _ => rfl
  | _ :: _, 0 => rfl
  | a :: l, k + 1 => by
    show f a :: (l.map f).eraseIdx k = _
    rw [erase_map f l k]; rfl
theorem erase_perm : ∀ {l : List Int} {k : Nat} {z : Int}, l[k]? = some z → (z :: l.eraseIdx k).Perm l
  | [], k, z, h => by simp at h
  | a :: l, 0, z, h => by simp at h; subst h; exact List.Perm.refl _
  | a :: l, k + 1, z, h => by
    have ih := erase_perm (l := l) (k := k) (z := z) (by simpa using h)
    show (z :: a :: l.eraseIdx k).Perm (a :: l)
    exact (List.Perm.swap a z _).trans (ih.cons a)
def spMixed (K : PySem.W.Frag) : Sp := fun vs H Q _ => ∃ (z : Int) (a : Addr) (ns : List Int), vs = [.int z, .ref a] ∧ SqL K H a (ns.map V.int) ∧ ns.length ≤ 100 ∧
  ∀ (l : Addr) (ms : List Int) (H' : Hp), H l = none → Same H H' → ms.Perm ns → H' l = some (.lst (ms.map V.int)) → Q (.ref l) H'
end Y

namespace Y
open PySem L2 Yd
end Y

namespace Y
open PySem L2 Yd
def putAll (m : Nat) (rule : Int) (ns : List Int) : Lay := ns.foldl (fun c n => (putL m rule m c n (ws m n)).2) (List.replicate m none)
theorem putAll_nil (m : Nat) (rule : Int) : putAll m rule [] = List.replicate m none := rfl
theorem putAll_succ {m : Nat} {rule : Int} {ns : List Int} {i : Nat} {n : Int} (h : ns[i]? = some n) : putAll m rule (ns.take (i + 1)) = (putL m rule m (putAll m rule (ns.take i)) n (ws m n)).2 := by
  unfold putAll
  rw [List.take_add_one, h, List.foldl_append]
  rfl
theorem nodup_get {ns : List Int} (nd : ns.Nodup) {i : Nat} {n : Int} (h : ns[i]? = some n) : n ∉ ns.take i := fun z => by
  obtain ⟨j, hj, e⟩ := List.mem_iff_getElem.mp z
  rw [List.length_take] at hj
  rw [List.getElem_take] at e
  obtain ⟨hi, e'⟩ := List.getElem?_eq_some_iff.mp h
  have := (List.getElem_inj nd).mp (e.trans e'.symm)
  omega
theorem take_succ_perm {ns : List Int} {i : Nat} {n : Int} (h : ns[i]? = some n) : (n :: ns.take i).Perm (ns.take (i + 1)) := by
  rw [List.take_add_one, h]
  exact (List.perm_append_singleton n (ns.take i)).symm
theorem putAll_take {m : Nat} {rule : Int} {ns : List Int} (hm : 0 < m) (nd : ns.Nodup) (hlt : ns.length < m) : ∀ i, i ≤ ns.length → Right m rule (putAll m rule (ns.take i)) ∧ (nm (putAll m rule (ns.take i))).Perm (ns.take i)
  | 0, _ => ⟨by rw [List.take_zero]; exact empty_right hm rule, by rw [List.take_zero, putAll_nil, empty_nm]⟩
  | i + 1, hi => by
    obtain ⟨R, hp⟩ := putAll_take (rule := rule) hm nd hlt i (by omega)
    have hz : ns[i]? = some ns[i] := List.getElem?_eq_getElem (by omega)
    have hpl := hp.length_eq
    rw [List.length_take] at hpl
    obtain ⟨R6, P6⟩ := put_ok hm R (fun z => nodup_get nd hz (hp.mem_iff.mp z)) (by omega)
    rw [putAll_succ hz]
    exact ⟨R6, (P6.trans (hp.cons _)).trans (take_succ_perm hz)⟩
theorem putAll_ok {m : Nat} {rule : Int} {ns : List Int} (hm : 0 < m) (nd : ns.Nodup) (hlt : ns.length < m) : Right m rule (putAll m rule ns) ∧ (nm (putAll m rule ns)).Perm ns := by
  have := putAll_take (rule := rule) hm nd hlt ns.length (Nat.le_refl _)
  rw [List.take_of_length_le (Nat.le_refl _)] at this
  exact this
end Y

namespace L2
open PySem PySem.Spec PyProof.Rows
section
variable {X : Cx}
def isI (n : Int) : Value → Bool
  | .int a _ => a == n
  | _ => false
end
end L2

namespace L2
open PySem PySem.Spec PyProof.Rows
section
variable {X : Cx}
end
end L2

namespace Yd
end Yd

namespace Yd
end Yd

namespace L2
open PySem PySem.Spec PyProof.Rows
section
variable {X : Cx}
theorem CompOk.taken {scope : Scope} {x : Str} {cl : List (Str × Addr)} {ix : List Nat} (clos : closureFor scope X.env = pure cl) (nocell : ∀ z ∈ scope.names, z.2 ≠ .cell) (kind : scope.kind = .function) (names : ∀ z ∈ scope.names, z.2 = .local → scope.names.lookup z.1 = some .local)
    (hx : scope.names.lookup x = some .local) (sub : ∀ p ∈ cl, X.env.cells.lookup p.1 = some p.2) (has : ((relabel scope X.env).names.all fun p => (!(p.2 == .cell) && !(p.2 == .free)) || cl.any fun q => q.1 == p.1) = true) (len : ix.length = cl.length)
    (at' : ∀ (k j : Nat) (y : Str), (cl.map (·.1))[k]? = some y → ix[k]? = some j → X.N[j]? = some y ∧ Vis X.env.scope y ∧ X.env.kindOf y = some .cell ∧ (relabel scope X.env).names.lookup y = some .cell)
    (nd : (x :: cl.map (·.1)).Nodup) : CompOk X scope cl x (cl.map (·.1)) ix := by
  refine ⟨clos, nocell, kind, names, hx, fun z d h => sub (z, d) (PySem.mem_of_lookup h), fun z h => ?_, by rw [len, List.length_map], fun k j y h1 h2 => ?_, nd⟩
  · have hm : ∃ k, (z, k) ∈ (relabel scope X.env).names ∧ (k = .cell ∨ k = .free) := by
      rcases h with h | h
      · exact ⟨_, PySem.mem_of_lookup h, .inl rfl⟩
      · exact ⟨_, PySem.mem_of_lookup h, .inr rfl⟩
    obtain ⟨k, hm, hk'⟩ := hm
    have ha := List.all_eq_true.mp has _ hm
    have hany : (cl.any fun q => q.1 == z) = true := by
      rcases hk' with rfl | rfl
      · simpa using ha
      · simpa using ha
    obtain ⟨q, hq, e⟩ := List.any_eq_true.mp hany
    have e' : q.1 = z := by simpa using e
    cases hl : cl.lookup z with
    | some c => exact ⟨c, rfl⟩
    | none =>
      have := List.lookup_eq_none_iff.mp hl q hq
      simp [e'] at this
  · obtain ⟨a, b, c, d⟩ := at' k j y h1 h2
    exact ⟨a, b, (by rw [c]; intro q; cases q), .inl d⟩
end
end L2

namespace L2
open PySem PySem.Spec PyProof.Rows
structure Ground (P : Program) (w : World) (fs : List Addr) (H : Hp) (s : Shared) (H' : Hp) (B h : Heap) : Prop where
  un : Un fs [] H H' s.heap h
  hok : HOk P w H' h
  trk : ∀ b u, H' b = some u → ∀ o, h.get? b = some o → B.get? b = some o
  old : ∀ b o, s.heap.get? b = some o → b ∉ fs → ∀ o', h.get? b = some o' → B.get? b = some o'
  nf : ∀ b, b ∈ fs → ∃ o, h.get? b = some o ∧ ∀ vs, o.data ≠ .fields vs
section
variable {P : Program} {w : World} {fs : List Addr} {H H' : Hp} {s : Shared} {B h h' : Heap}
theorem ObjOk.there {a : Addr} {o : HO} (x : ObjOk P w H h a o) : ∃ u, h.get? a = some u := by
  cases o with
  | lst _ => obtain ⟨_, _, _, _, e⟩ := x; exact ⟨_, e⟩
  | tup _ => obtain ⟨_, _, _, o, e, _⟩ := x; exact ⟨o, e⟩
  | dK _ => obtain ⟨_, _, _, _, o, _, _, e, _⟩ := x; exact ⟨o, e⟩
  | dT _ => obtain ⟨_, _, _, _, o, _, _, e, _⟩ := x; exact ⟨o, e⟩
  | set _ _ => obtain ⟨o, _, _, _, e, _⟩ := x; exact ⟨o, e⟩
  | ins _ _ _ => obtain ⟨_, _, _, e, _⟩ := x; exact ⟨_, e⟩
  | own _ => exact x
  | xd _ => obtain ⟨_, ⟨o, _, _, e, _⟩, _⟩ := x; exact ⟨o, e⟩
  | rng _ _ => obtain ⟨_, _, _, e⟩ := x; exact ⟨_, e⟩
  | frz _ _ => exact ⟨_, x.1⟩
  | tbl _ => exact ⟨_, x⟩
  | met _ _ => exact ⟨_, x⟩
  | ext _ => exact x.2.1
theorem Ground.move (G : Ground P w fs H s H' B h) (st : B.StaysIn h') (up : h.UpToSlots h') : Ground P w fs H s H' B h' := by
  have frm : ∀ b o, h.get? b = some o → b ∈ fs → ∃ sl, h'.get? b = some { o with slots := sl } := fun b o e hb => by
    obtain ⟨o1, e1, n1⟩ := G.nf b hb
    rw [e] at e1; cases e1
    exact up b o e n1
  have oth : ∀ b o, s.heap.get? b = some o → b ∉ fs → ∀ o', h.get? b = some o' → h'.get? b = some o' := fun b o e hb o' e' => st b o' (G.old b o e hb o' e')
  have tr : ∀ b u, H' b = some u → ∀ o, h.get? b = some o → h'.get? b = some o := fun b u e o q => st b o (G.trk b u e o q)
  have ex : ∀ b u, H' b = some u → ∃ o, h.get? b = some o := fun b u e => by
    exact (G.hok b u e).there
  refine ⟨⟨fun b o q n hb hx => ?_, fun b o q n hb hx => ?_, G.un.free, fun b o q hx => ?_, G.un.tups, G.un.frzs, G.un.tbls⟩, fun a o e => ?_, fun b u e o q => ?_, fun b o e hb o' e' => ?_, fun b hb => ?_⟩
  · exact oth b o q hb o (G.un.keep b o q n hb hx)
  · obtain ⟨sl, e⟩ := G.un.slot b o q n hb hx
    obtain ⟨sl', e'⟩ := frm b _ e hb
    exact ⟨sl', e'⟩
  · obtain ⟨o', e⟩ := G.un.there b o q hx
    by_cases hb : b ∈ fs
    · obtain ⟨sl, e'⟩ := frm b _ e hb
      exact ⟨_, e'⟩
    · exact ⟨o', oth b o q hb o' e⟩
  · refine (G.hok a o e).stay (fun b u hb q => ?_) (fun b q => q) (fun b xs q => q)
    rcases hb with rfl | hb
    · exact tr b _ e u q
    · exact tr b _ hb u q
  · obtain ⟨o1, e1⟩ := ex b u e
    have e2 := tr b u e o1 e1
    rw [q] at e2; cases e2
    exact G.trk b u e o e1
  · obtain ⟨o1, e1⟩ := G.un.there b o e (by simp)
    have e2 := oth b o e hb o1 e1
    rw [e'] at e2; cases e2
    exact G.old b o e hb o' e1
  · obtain ⟨o1, e1, n1⟩ := G.nf b hb
    obtain ⟨sl, e2⟩ := up b o1 e1 n1
    exact ⟨_, e2, n1⟩
end
def CX1 (P : Program) (w : World) : CXT := fun outer H s E e s' => ∃ (ea t : Addr) (cls : Value) (H' : Hp) (B : Heap), e = .ref ea ∧ s'.os = s.os ∧ AllBare s'.gens ∧
  Heap.FlyingW B outer ea cls (.ref t) s'.heap ∧ Ground P w (frs outer) H s H' B s'.heap ∧ E cls none H'
section
variable {P : Program} {w : World} {K : PySem.W.Frag} {mg : Str → Option Value} {base : Heap} {N : List Str} {qual : Str} {scope : Scope} {f : Addr} {cd : Value} {A : Around} {outer : List Env} {s : Shared} {H : Hp} {E : XK}
theorem frs_cons {b : Addr} : b ∈ frs (envOfC qual scope s.heap.objs.size f cd :: outer) ↔ b = s.heap.objs.size ∨ b ∈ frs outer := by
  show b ∈ List.filterMap (·.frame) (envOfC qual scope s.heap.objs.size f cd :: outer) ↔ _
  rw [List.filterMap_cons]
  show b ∈ s.heap.objs.size :: frs outer ↔ _
  rw [List.mem_cons]
theorem raises {pins : List (Addr × Obj)} {σ : St} {H1 : Hp} {s1 : Shared} {h' : Heap} {e : Addr} {cls : Value} {vs : List Value} (I : Inv (cxOf (CX1 P w) P w K mg base N qual scope f cd A outer s H E) pins σ H1 s1)
    (hx : Heap.MadeExcOf s1.heap h' e cls vs) (q : E cls none H1) : (cxOf (CX1 P w) P w K mg base N qual scope f cd A outer s H E).xe (.ref e) { s1 with heap := h' } := by
  have G1 : Ground P w (frs outer) H s H1 (PySem.W.hideAll s1.heap (frs (envOfC qual scope s.heap.objs.size f cd :: outer))) s1.heap := by
    refine ⟨I.base, I.hok, fun b u eb o qb => PySem.W.hideAll_get _ qb fun hm => ?_, fun b o eb hb o' qb => PySem.W.hideAll_get _ qb fun hm => ?_, fun b hb => ?_⟩
    · rw [I.stkFree b hm] at eb; cases eb
    · rcases frs_cons.mp hm with z | z
      · exact absurd (z ▸ Heap.lt_size eb) (Nat.lt_irrefl _)
      · exact hb z
    · exact (I.stack.mem (frs_cons.mpr (.inr hb))).2
  refine wpAny_leaves_madeW (base := PySem.W.hideAll s1.heap (frs (envOfC qual scope s.heap.objs.size f cd :: outer))) (h := s1.heap) I.ok.frames rfl (fun b o z => PySem.W.of_hideAll _ z)
    (PySem.W.funFrames_hide I.stack fun env he b hb => List.mem_filterMap.mpr ⟨env, he, hb⟩) hx fun h2 t fl tup tn up => ?_
  exact ⟨e, t, cls, H1, _, rfl, I.os, I.bare, fl, G1.move fl.1 ((Heap.UpToSlots.of_keeps hx.keeps).trans up), q⟩
theorem passX : Passes (CX1 P w) (cxOf (CX1 P w) P w K mg base N qual scope f cd A outer s H E) E := by
  intro pins σ H2 s2 e s' I h
  obtain ⟨ea, t, cls, H', B, rfl, os, bare, fl, G, q⟩ := h
  have nL : ∀ b o, s.heap.get? b = some o → b ∉ frs outer → b ∉ frs (envOfC qual scope s.heap.objs.size f cd :: outer) := fun b o eb hb hm => by
    rcases frs_cons.mp hm with z | z
    · exact absurd (z ▸ Heap.lt_size eb) (Nat.lt_irrefl _)
    · exact hb z
  have IB : Un (frs outer) [] H H2 s.heap s2.heap := I.base
  have G' : Ground P w (frs outer) H s H' B s'.heap := by
    refine ⟨⟨fun b o qb n hb hx => ?_, fun b o qb n hb hx => ?_, fun b o qb n hx => ?_, fun b o qb hx => ?_, fun b xs z => G.un.tups b xs (IB.tups b xs z), fun b o u z => G.un.frzs b o u (IB.frzs b o u z), fun b ps z => ?_⟩, G.hok, G.trk, fun b o eb hb o' qb => ?_, fun b hb => ?_⟩
    · exact G.un.keep b o (IB.keep b o qb n hb hx) (IB.free b o qb n hx) (nL b o qb hb) hx
    · obtain ⟨sl, e1⟩ := IB.slot b o qb n hb hx
      obtain ⟨sl', e2⟩ := G.un.slot b _ e1 (IB.free b o qb n hx) (frs_cons.mpr (.inr hb)) hx
      exact ⟨sl', e2⟩
    · obtain ⟨o', e1⟩ := IB.there b o qb hx
      exact G.un.free b o' e1 (IB.free b o qb n hx) hx
    · obtain ⟨o', e1⟩ := IB.there b o qb hx
      exact G.un.there b o' e1 hx
    · obtain ⟨m1, z1⟩ := IB.tbls b ps z
      obtain ⟨m2, z2⟩ := G.un.tbls b _ z1
      exact ⟨m1 ++ m2, by rw [z2, Array.append_assoc]⟩
    · obtain ⟨o2, e1⟩ := IB.there b o eb (by simp)
      exact G.old b o2 e1 (nL b o eb hb) o' qb
    · exact G.nf b (frs_cons.mpr (.inr hb))
  refine wpAny_leaves_onW I.ok.frames rfl fl fun h2 fl2 up => ?_
  exact ⟨ea, t, cls, H', B, rfl, os.trans I.os, bare, fl2, G'.move fl2.1 up, q⟩
end
end L2

namespace L2
open PySem PySem.Spec PyProof.Rows
theorem own_at {K : PySem.W.Frag} {h : Heap} {mg : Str → Option Value} {x : Str} {C : Addr} {bmB : List Value} {newId : String} (kin : K.In h) (hm : mg x = some (.ref C)) (q : PySem.W.excIn K C bmB newId = true) : OwnCls x C bmB newId mg h := by
  constructor
  · exact hm
  unfold PySem.W.excIn at q
  split at q
  · next dd cd sl ho =>
    split at q
    · next C' bm k0 k1 k2 k3 n k5 hmr hsl =>
      simp only [beq_iff_eq, Bool.and_eq_true, Bool.not_eq_true'] at q
      obtain ⟨⟨⟨⟨⟨z1, z2⟩, z3⟩, z4⟩, z5⟩, z6⟩ := q
      subst z1 z2
      obtain ⟨nm, bs, mro, nsp, qn, hdc, sn, sub, ab, col, del⟩ := cd
      simp only at hmr z3 z5 z6
      subst hmr z3
      have es : sl = #[k0, k1, k2, k3, some (.builtin n), k5] := Array.ext' hsl
      subst es
      refine ⟨bm, nsp, nm, qn, bs, hdc, sn, sub, ab, col, dd, k0, k1, k2, k3, k5, h.nsMap nsp, kin _ _ ho, ?_, ?_, PySem.W.tail_of_in kin z4⟩
      · exact .of_isNs (PySem.W.isNs_of_in kin z5)
      · exact PySem.W.nsMap_none_of_in kin z5 z6
    · cases q
  · cases q
section
variable {P : Program} {w : World} {K : PySem.W.Frag} {mg : Str → Option Value} {base : Heap}
theorem Fun.okX {x qual : Str} {st : Stmt} {f : Addr} {fd : FuncData} {N ps : List Str} {k : Nat} {sp : Sp} (F : Fun K x qual st f fd) (S : FnScope N ps (defScope st)) (len : ∀ vs H Q E, sp vs H Q E → vs.length = ps.length)
    (body : ∀ (cdv : Value) (A : Around) (outer : List Env) (s : Shared) (H : Hp) (vs : List V) (Q : VK) (E : XK), Room k (A.deeper (envOfC qual (defScope st) s.heap.objs.size f cdv)) → sp vs H Q E →
      ∃ t, PSs (cxOf (CX1 P w) P w K mg base N qual (defScope st) f cdv A outer s H E) (defBody st) t ∧ t { nx := fun _ H' => Q .non H', rt := Q } (start N vs) H) : FnOk P w K mg base (CX1 P w) (k + 1) f fd ps sp := by
  obtain ⟨oc, od, kV, doc, pm, an, cdv, ct, osl, rfl, lk, hcd⟩ := F.ex
  exact fn_of lk hcd S len fun A outer s H vs Q E hr hsp => body cdv A outer s H vs Q E hr hsp
end
section
variable {X : Cx}
def Raises (X : Cx) (E : XK) : Prop := ∀ (pins : List (Addr × Obj)) (σ : St) (H1 : Hp) (s1 : Shared) (h' : Heap) (e : Addr) (cls : Value) (vs : List Value), Inv X pins σ H1 s1 → Heap.MadeExcOf s1.heap h' e cls vs → E cls none H1 → X.xe (.ref e) { s1 with heap := h' }
def tRaise (C : Addr) (E : XK) (ta : TA) : TS := fun _ σ H => ta σ H fun vs H1 => vs.length ≤ 100 ∧ E (.ref C) none H1
theorem ps_raise {x : Str} {C : Addr} {bmB : List Value} {newId B initId : String} {np cpos pos : Pos} {e₀ : Expr} {ta : TA} {E : XK} (hX : Raises X E) (hc : X.calm = true) (hg : Gl X x) (O : OwnCls x C bmB newId X.mg X.base) (FB : ExcBaseFacts B newId initId bmB) (ha : PA X [e₀] ta)
    (he : starEach [e₀] X.env = [(false, eval e₀ X.env)] := by rfl) (hd : (x == ("__debug__" : Str)) = false := by decide) : PS X (.Raise (some (.Call (.Name x np) [e₀] [] cpos)) none pos) (tRaise C E ta) := by
  intro pins s σ H D I h
  obtain ⟨tl, N, nm, q, bs, hdct, sn, sub, ab, col, dd, k0, k1, k2, k3, k5, mN, hC, hN, hni, T⟩ := O.obj
  refine wpAny_Raise_call_subT (C := C) (nm := nm) (q := q) (N := N) (bs := bs) (bm := tl) (hdct := hdct) (sn := sn) (sub := sub) (ab := ab) (col := col) (dd := dd) (k0 := k0) (k1 := k1) (k2 := k2) (k3 := k3) (k5 := k5) FB (mN := mN)
    (T.hasType FB.hasBase) (I.ok.hd hc) (by rw [he]; rfl) hni (ld_glob I hg O.bound ⟨rfl, ?_⟩ hd)
  have := ha cpos pins s σ H _ I h
  rw [he] at this ⊢
  refine Calls.evalArgs_plain (thn this fun us s1 ⟨vs, H1, I1, r1, q1, q2⟩ => ⟨rfl, ?_, I1.bk _ _ hC, hN.keeps I1.bk, T.keeps I1.bk, fun h' e hm => hX pins σ H1 s1 h' e _ us I1 hm q2⟩)
  have hl := r1.length
  have : sizeLine ≥ 1000 := by decide
  show us.length ≤ sizeLine
  omega
end
theorem raisesX {P : Program} {w : World} {K : PySem.W.Frag} {mg : Str → Option Value} {base : Heap} {N : List Str} {qual : Str} {scope : Scope} {f : Addr} {cd : Value} {A : Around} {outer : List Env} {s : Shared} {H : Hp} {E : XK} : Raises (cxOf (CX1 P w) P w K mg base N qual scope f cd A outer s H E) E :=
  fun _ _ _ _ _ _ _ _ I hx q => raises I hx q
section
variable {X : Cx} {pins : List (Addr × Obj)} {σ : St} {H H' : Hp} {s s' : Shared}
end
end L2

namespace L2
open PySem PySem.Spec PyProof.Rows
section
variable {X : Cx} {pins : List (Addr × Obj)} {σ : St} {H H' : Hp} {s s' : Shared}
end
end L2

namespace L2
open PySem PySem.Spec PyProof.Rows PySem.W PySem.Builtin.ObjectAttr PySem.Builtin.Getset_descriptor
structure ExcCls (K : PySem.W.Frag) (C : Addr) : Prop where
  cl : hasDictIn K C = true
  ga : findIn K (.ref C) "__getattribute__" = some (some (.builtin "BaseException.__getattribute__"))
  gt : findIn K (.ref C) "__getattr__" = some none
  kl : findIn K (.ref C) "__class__" = some (some (.builtin "object.__class__"))
  gg : specialIn K (.builtin "object.__class__") "__get__" = some (some (.builtin "getset_descriptor.__get__"))
  tk : takesIn K (.builtin "object.__class__") = some true
  ob : mroIn K C (.type "object") = some true
  ex : subIn K (.ref C) (.type "BaseException") = some true
section
variable {K : PySem.W.Frag} {C e : Addr} {prog : Program} {w : World} {A : Around} {E : Value → Shared → Prop} {s : Shared}
end
end L2

namespace L2
open PySem PySem.Spec PyProof.Rows
section
variable {X : Cx}
end
def MtX (P : Program) (w : World) (K : PySem.W.Frag) (mg : Str → Option Value) (base : Heap) (C : Addr) (m : Str) (ps : List Str) (k : Nat) (sp : Sp) : Prop :=
  ∃ f fd, Meth K C m f ∧ Binds K fd ps [] ∧ FnOk P w K mg base (CX1 P w) k f fd ps sp
section
variable {X : Cx} {k : Nat} {ps : List Str} {sp : Sp} {x m : Str} {p pos apos : Pos} {e o : Expr} {es : List Expr} {ta : TE} {t : TA} {C : Addr} {E : XK}
theorem pe_mtX {pl : Sem Bool} (c : Cls X.K C) (G : MtX X.prog X.w X.K X.mg X.base C m ps k sp) (hr : Room k X.A) (hx : Passes (CX1 X.prog X.w) X E) (he : PE X o ta) (ha : PA X (e :: es) t)
    (hst : starEach (e :: es) X.env = (false, eval e X.env) :: starEach es X.env := by rfl) (hpl : (backTo pos (starEach es X.env)).any (·.1) = false := by rfl)
    (ht : eval (.Call (.Attribute o m apos) (e :: es) [] pos) X.env = (do
      let ov ← eval o X.env
      standAt apos.atName
      let (f, first) ← holding [ov] (getMethod ov m pl)
      callWith pos f first (backTo pos (starEach (e :: es) X.env)) (backToKw pos (keywordEach [] X.env))) := by rfl) :
    PE X (.Call (.Attribute o m apos) (e :: es) [] pos) (tMeth C m sp [] E ta t) := by
  obtain ⟨f, fd, h1, h3, h4⟩ := G
  exact pe_meth (pl := pl) he c h1 h4 hr h3 .nil hx ha hst hpl ht
end
abbrev excBm : List Value := [.type "ValueError", .type "Exception", .type "BaseException", .type "object"]
structure ExcT (K : PySem.W.Frag) (mg : Str → Option Value) (base : Heap) (x : Str) (C CY : Addr) : Prop where
  own : OwnCls x C excBm "ValueError.__new__" mg base
  cls : ExcCls K C
  exm : PySem.W.exmOne K (.ref C) (.ref CY) = some true
  val : PySem.W.kitOne K (.ref C) (.type "ValueError") = some true
end L2

namespace Y
open PySem L2 Yd
end Y

namespace L2
open PySem PySem.Spec PyProof.Rows
section
variable {X : Cx}
end
def FnX (P : Program) (w : World) (K : PySem.W.Frag) (mg : Str → Option Value) (base : Heap) (x : Str) (ps : List Str) (k : Nat) (sp : Sp) : Prop :=
  ∃ f fd, mg x = some (.ref f) ∧ PySem.W.keepIn K (.ref f) = true ∧ Binds K fd ps [] ∧ FnOk P w K mg base (CX1 P w) k f fd ps sp
section
variable {X : Cx} {k : Nat} {ps : List Str} {sp : Sp} {x : Str} {p pos : Pos} {e : Expr} {es : List Expr} {t : TA} {E : XK}
theorem pe_fnX (G : FnX X.prog X.w X.K X.mg X.base x ps k sp) (hr : Room k X.A) (hx : Passes (CX1 X.prog X.w) X E) (ha : PA X (e :: es) t) (hg : Gl X x := by rfl) (hdb : (x == ("__debug__" : Str)) = false := by decide)
    (he : starEach (e :: es) X.env = (false, eval e X.env) :: starEach es X.env := by rfl) (hpl : (backTo pos (starEach es X.env)).any (·.1) = false := by rfl) :
    PE X (.Call (.Name x p) (e :: es) [] pos) (tCall sp [] E t) := by
  obtain ⟨f, fd, h1, h2, h3, h4⟩ := G
  exact pe_call h4 hr hg h1 h2 h3 .nil hx ha hdb he hpl
end
end L2

namespace L2
open PySem PySem.Spec PyProof.Rows
abbrev TJ := Str → St → Hp → VK → Prop
def PJ (X : Cx) (vs : List Expr) (t : TJ) : Prop := ∀ (pins : List (Addr × Obj)) (s : Shared) (σ : St) (H : Hp) (acc : Str) (Q : VK), Inv X pins σ H s → t acc σ H Q →
  wpAny (model X.prog X.w) X.A (joinParts acc (evalEach vs X.env)) (EP X pins σ Q) X.xe s
section
variable {X : Cx} {v v2 : Expr} {rest : List Expr} {tv : TE} {t : TJ} {pos : Pos}
def jNil : TJ := fun acc _ H Q => acc.length ≤ sizeLine ∧ Q (.str acc) H
def jCons (tv : TE) (t : TJ) : TJ := fun acc σ H Q => tv σ H fun x H1 => ∃ y, x = .str y ∧ (acc ++ y).length ≤ sizeLine ∧ t (acc ++ y) σ H1 Q
theorem pj_nil : PJ X [] jNil := fun _ s _ H acc _ I h => PyProof.Rows.joinParts_nil ⟨.str acc, H, I.tok _, ⟨_, rfl⟩, h.2⟩ h.1
theorem pj_cons (hv : PE X v tv) (hr : PJ X rest t) : PJ X (v :: rest) (jCons tv t) := by
  intro pins s σ H acc Q I h
  show wpAny _ _ (joinParts acc (eval v X.env :: evalEach rest X.env)) _ _ _
  refine PyProof.Rows.joinParts_cons (thn (hv pins s σ H _ I h) fun u s1 ⟨x, H1, I1, r1, y, e, hz, q⟩ => ?_)
  subst e
  obtain ⟨t', rfl⟩ := r1
  exact ⟨hz, hr pins s1 σ H1 (acc ++ y) Q I1 q⟩
def tFmt (te : TE) : TE := fun σ H Q => te σ H fun x H1 => ∃ i : Int, x = .int i ∧ i.natAbs.log2 < 1920 ∧ Q (.str (Str.ofString (toString i))) H1
theorem pe_fmt (he : PE X v tv) : PE X (.FormattedValue v (-1) none pos) (tFmt tv) := by
  intro pins s σ H Q I h
  refine PyProof.Rows.FormattedValue_plain (thn (he pins s σ H _ I h) fun u s1 ⟨x, H1, I1, r1, i, e, hz, q⟩ => ?_)
  subst e
  obtain ⟨t', rfl⟩ := r1
  exact PyProof.Rows.formatField_int_small hz ⟨.str _, H1, I1.tok _, ⟨_, rfl⟩, q⟩
theorem pe_fstr (h : PJ X (v :: v2 :: rest) t) : PE X (.JoinedStr (v :: v2 :: rest) pos) (t Str.empty) := by
  intro pins s σ H Q I hq
  exact PyProof.Rows.JoinedStr_many (h pins s σ H Str.empty Q I hq)
end
end L2
namespace Y
open PySem L2 Yd
def spInitX (CN : Addr) : Sp := fun vs H _ E => ∃ (y : Addr) (z rule : Int), vs = [.ref y, .int z, .int rule] ∧ (z < 2 ∨ 200 < z) ∧ ∀ H', Same H H' → E (.ref CN) none H'
end Y

namespace L2
open PySem PySem.Spec PyProof.Rows
theorem FnOk.or {P : Program} {w : World} {K : PySem.W.Frag} {mg : Str → Option Value} {base : Heap} {CX : CXT} {k : Nat} {f : Addr} {fd : FuncData} {ps : List Str} {sp sp' : Sp} (F : FnOk P w K mg base CX k f fd ps sp) (F' : FnOk P w K mg base CX k f fd ps sp') :
    FnOk P w K mg base CX k f fd ps (fun vs H Q E => sp vs H Q E ∨ sp' vs H Q E) :=
  ⟨fun vs H Q E h => h.elim (F.len vs H Q E) (F'.len vs H Q E), fun A outer s H args us vs Q E hr he hb hv h => h.elim (F.run A outer s H args us vs Q E hr he hb hv) (F'.run A outer s H args us vs Q E hr he hb hv)⟩
end L2
namespace L2
open PySem PySem.Spec PyProof.Rows
section
variable {P : Program} {w : World} {K : PySem.W.Frag} {mg : Str → Option Value} {base : Heap} {CX : CXT} {k : Nat} {f : Addr} {fd : FuncData} {ps : List Str} {sp sp' : Sp}
theorem FnOk.up (F : FnOk P w K mg base CX0 k f fd ps sp) : FnOk P w K mg base (CX1 P w) k f fd ps sp :=
  ⟨F.len, fun A outer s H args us vs Q E hr he hb hv h => codeAny_mono (F.run A outer s H args us vs Q E hr he hb hv h) fun rr s' hq => by
    cases rr with
    | error e => exact hq.elim
    | ok fl => cases fl <;> exact hq⟩
theorem FnOk.sub (F : FnOk P w K mg base CX k f fd ps sp) (h : ∀ vs H Q E, sp' vs H Q E → sp vs H Q E) : FnOk P w K mg base CX k f fd ps sp' :=
  ⟨fun vs H Q E z => F.len vs H Q E (h vs H Q E z), fun A outer s H args us vs Q E hr he hb hv z => F.run A outer s H args us vs Q E hr he hb hv (h vs H Q E z)⟩
end
end L2

namespace Y
open PySem L2 Yd
def adds (c d : Lay) : List Int := (nm d).filter fun v => !decide (v ∈ nm c)
def putOn (m : Nat) (rule : Int) (c : Lay) (ns : List Int) : Lay := ns.foldl (fun c n => (putL m rule m c n (ws m n)).2) c
theorem putOn_app (m : Nat) (rule : Int) (c : Lay) (ns ms : List Int) : putOn m rule c (ns ++ ms) = putOn m rule (putOn m rule c ns) ms := List.foldl_append ..
theorem putOn_one (m : Nat) (rule : Int) (c : Lay) (n : Int) : putOn m rule c [n] = (putL m rule m c n (ws m n)).2 := rfl
theorem nm_app (c d : Lay) : nm (c ++ d) = nm c ++ nm d := List.filterMap_append ..
theorem nm_take {d : Lay} {i : Nat} (h : i < d.length) : nm (d.take (i + 1)) = nm (d.take i) ++ (g d i).toList := by
  have e : d[i]? = some (g d i) := g_get h
  rw [List.take_add_one, e, nm_app]
  cases g d i with
  | none => rfl
  | some n => rfl
theorem adds_take {c d : Lay} {i : Nat} (h : i < d.length) : adds c (d.take (i + 1)) = adds c (d.take i) ++ (g d i).toList.filter fun v => !decide (v ∈ nm c) := by
  unfold adds
  rw [nm_take h, List.filter_append]
theorem adds_le (c d : Lay) (i : Nat) : (adds c (d.take i)).length ≤ (adds c d).length := by
  have e : adds c d = adds c (d.take i) ++ adds c (d.drop i) := by
    unfold adds
    rw [← List.filter_append, ← nm_app, List.take_append_drop]
  rw [e, List.length_append]
  omega
theorem nm_take_new {d : Lay} (nd : (nm d).Nodup) {i : Nat} {n : Int} (e : g d i = some n) : n ∉ nm (d.take i) := fun z => by
  have hl := g_lt e
  have h : (nm d) = nm (d.take (i + 1)) ++ nm (d.drop (i + 1)) := by rw [← nm_app, List.take_append_drop]
  rw [h, nm_take hl, e] at nd
  exact (List.nodup_append.mp (List.nodup_append.mp nd).1).2.2 n z n (by simp) rfl
def spPutOr (B : Nat) (C CF : Addr) : Sp := fun vs H Q E => ∃ (y ca : Addr) (m : Nat) (rule : Int) (c : Lay) (n : Int), vs = [.ref y, .int n] ∧ YardAt C H y ca m rule c ∧ 0 < m ∧ Right m rule c ∧ n ∉ nm c ∧ (nm c).length < B ∧
  (((nm c).length + 1 < m ∧ ∀ (l : Addr) (H' : Hp), H l = none → Told H' l (putL m rule m c n (ws m n)).1 → YardAt C H' y ca m rule (putL m rule m c n (ws m n)).2 → SameX ca H H' → Q (.ref l) H') ∨
   ((nm c).length + 1 = m ∧ ∀ H', Same H H' → E (.ref CF) none H'))
def spMissing (B : Nat) (C CF : Addr) : Sp := fun vs H Q E => ∃ (y ca a : Addr) (m : Nat) (rule : Int) (c d : Lay), vs = [.ref y, .ref a] ∧ YardAt C H y ca m rule c ∧ 0 < m ∧ Right m rule c ∧ H a = some (.lst (layV d)) ∧ a ≠ ca ∧ (nm d).Nodup ∧ (nm c).length + (adds c d).length < B ∧
  (((nm c).length + (adds c d).length < m ∧ ∀ H', SameX ca H H' → YardAt C H' y ca m rule (putOn m rule c (adds c d)) → Q .non H') ∨
   (m ≤ (nm c).length + (adds c d).length ∧ ∀ H', SameX ca H H' → E (.ref CF) none H'))
end Y
namespace Y
open PySem L2 Yd
end Y

namespace L2
open PySem PySem.Spec PyProof.Rows
def Itz (K : PySem.W.Frag) (a c : Addr) : It :=
  ⟨fun i H => ∃ xs ys x y, SqL K H a xs ∧ SqL K H c ys ∧ xs[i]? = some x ∧ ys[i]? = some y, fun i H v H' => ∃ t x y, v = .ref t ∧ H t = none ∧ H' = upd H t (.tup [x, y]) ∧ (∀ xs, SqL K H a xs → xs[i]? = some x) ∧ ∀ ys, SqL K H c ys → ys[i]? = some y,
    fun i H => ∃ xs ys, SqL K H a xs ∧ SqL K H c ys ∧ (xs.length ≤ i ∨ ys.length ≤ i)⟩
structure ZipAt (h : Heap) (z TI TO i1 i2 a c : Addr) (i : Nat) : Prop where
  zp : IsZip h z TI TO .none
  ti : IsPair h TI (.ref i1) (.ref i2)
  to : ∃ u v, IsPair h TO u v
  j1 : h.IsListIter i1 a i
  j2 : h.IsListIter i2 c i
theorem turn_zip {P : Program} {w : World} {K : PySem.W.Frag} {es : List Expr} {kt : Nat} {tp : Pos} (z TI TO i1 i2 a c : Addr) (D : ZipApart z TI TO i1 i2 a c) :
    Turn P w K (.Tuple es kt tp) (Itz K a c) [z, TO, i1, i2, TI] z (fun i h => ZipAt h z TI TO i1 i2 a c i) where
  mem := by simp
  obj := fun i h st b hb => by
    obtain ⟨u, v, hto⟩ := st.to
    obtain ⟨o1, e1, _, d1⟩ := st.j1
    obtain ⟨o2, e2, _, d2⟩ := st.j2
    simp only [List.mem_cons, List.not_mem_nil, or_false] at hb
    rcases hb with z | z | z | z | z
    · subst z; exact ⟨_, st.zp, fun v q => by cases (show Data.fields _ = Data.cell v from q)⟩
    · subst z; exact ⟨_, hto, fun v q => by cases (show Data.seq _ _ = Data.cell v from q)⟩
    · subst z; exact ⟨o1, e1, fun v q => by rw [d1] at q; cases q⟩
    · subst z; exact ⟨o2, e2, fun v q => by rw [d2] at q; cases q⟩
    · subst z; exact ⟨_, st.ti, fun v q => by cases (show Data.seq _ _ = Data.cell v from q)⟩
  keep := fun i h h' st k => by
    obtain ⟨u, v, hto⟩ := st.to
    exact ⟨k z (by simp) _ st.zp, k TI (by simp) _ st.ti, ⟨u, v, k TO (by simp) _ hto⟩, st.j1.at fun o q => k i1 (by simp) o q, st.j2.at fun o q => k i2 (by simp) o q⟩
  item := by
    intro X hP hw hK hc i pins s σ H E I hf st hg
    subst hP hw hK
    obtain ⟨xs, ys, x, y, hq, hr, hx, hy⟩ := hg
    obtain ⟨u0, v0, hto⟩ := st.to
    obtain ⟨its, rv, p, hz⟩ := I.list hq
    obtain ⟨its2, rv2, p2, hz2⟩ := I.list hr
    obtain ⟨u, hu, ru⟩ := rv.get hx
    obtain ⟨u2, hu2, ru2⟩ := rv2.get hy
    refine wpAny_pyNext_zip_item D st.zp st.ti hto st.j1 st.j2 p.isList p2.isList (x := u) (y := u2) (by simpa using hu) (by simpa using hu2) fun h' ho hTO j1 j2 hT hsz hk => ?_
    have hTn : H s.heap.objs.size = none := I.fresh
    have hTz : s.heap.objs.size ≠ z := Nat.ne_of_gt (Heap.lt_size st.zp)
    refine ⟨_, rfl, wpAny_letOwnedTupleGo_zip ho fun h'' hz'' hs'' => ?_⟩
    have hTo : s.heap.objs.size ≠ TO := Nat.ne_of_gt (Heap.lt_size hto)
    have hTi : s.heap.objs.size ≠ TI := Nat.ne_of_gt (Heap.lt_size st.ti)
    have hT1 : s.heap.objs.size ≠ i1 := by obtain ⟨_, q, _⟩ := st.j1; exact Nat.ne_of_gt (Heap.lt_size q)
    have hT2 : s.heap.objs.size ≠ i2 := by obtain ⟨_, q, _⟩ := st.j2; exact Nat.ne_of_gt (Heap.lt_size q)
    have kk : ∀ b o, b ∉ [z, TO, i1, i2, TI] → s.heap.get? b = some o → h''.get? b = some o := fun b o hb q => by
      simp only [List.mem_cons, List.not_mem_nil, or_false, not_or] at hb
      exact (hs''.2 b hb.1).trans (hk b o hb.1 hb.2.1 hb.2.2.1 hb.2.2.2.1 q)
    have I1 : Inv X pins σ (upd H s.heap.objs.size (.tup [x, y])) { s with heap := h'', toks := s.toks } :=
      I.laidN (ch := [z, TO, i1, i2, TI]) hf kk (Heap.get?_none_of_le (Nat.le_refl _)) hTn ⟨by show 2 ≤ sizeLine; decide, [u, u2], .cons ru (.cons ru2 .nil), ⟨_, (hs''.2 _ hTz).trans hT, rfl, _, rfl⟩⟩
    have hti' : IsPair h'' TI (.ref i1) (.ref i2) := (hs''.2 _ D.TIz).trans (hk TI _ D.TIz D.TITO D.TIi1 D.TIi2 st.ti)
    refine ⟨.ref s.heap.objs.size, _, I1, rfl, ⟨_, x, y, rfl, hTn, rfl, fun zs hy => by rw [I.list_inj hy hq]; exact hx, fun zs hz => by rw [I.list_inj hz hr]; exact hy⟩,
      ⟨hz'', hti', ⟨u, u2, (hs''.2 _ D.TOz).trans hTO⟩, j1.at fun o q => (hs''.2 i1 D.i1z).trans q, j2.at fun o q => (hs''.2 i2 D.i2z).trans q⟩, fun b hb => ?_⟩
    rw [upd_ne (by
      simp only [List.mem_cons, List.not_mem_nil, or_false] at hb
      rcases hb with z | z | z | z | z
      · rw [z]; exact hTz.symm
      · rw [z]; exact hTo.symm
      · rw [z]; exact hT1.symm
      · rw [z]; exact hT2.symm
      · rw [z]; exact hTi.symm)]
    exact (hf b hb).1
  done := by
    intro X hP hw hK hc i pins s σ H E I hf st hg
    subst hP hw hK
    obtain ⟨xs, ys, hq, hr, hx⟩ := hg
    obtain ⟨u0, v0, hto⟩ := st.to
    obtain ⟨its, rv, p, hz⟩ := I.list hq
    obtain ⟨its2, rv2, p2, hz2⟩ := I.list hr
    have hl := rv.length
    have hl2 := rv2.length
    refine wpAny_pyNext_zip_end (I.ok.hd hc) D st.zp st.ti hto st.j1 st.j2 p.isList p2.isList (by rcases hx with hx | hx; exact .inl (by simp; omega); exact .inr (by simp; omega)) fun h' eb => ⟨rfl, ?_⟩
    have k : ∀ b o, b ∉ [z, TO, i1, i2, TI] → s.heap.get? b = some o → h'.get? b = some o := fun b o hb q => by
      simp only [List.mem_cons, List.not_mem_nil, or_false, not_or] at hb
      exact eb b o hb.1 hb.2.1 hb.2.2.1 hb.2.2.2.1 q
    refine I.step (g' := s.gens) (d' := s.drawn) (t' := s.toks) (ch := [z, TO, i1, i2, TI]) (fun b hb => ?_) (fun b o _ _ hc e _ => k b o hc e) (fun b o _ _ hc e _ => ⟨o.slots, k b o hc e⟩) (fun _ _ _ _ n => n)
      (fun b o hc e => ⟨o, k b o hc e⟩) (fun _ _ e => e) (fun _ _ _ e => e) (fun b ps e => ⟨#[], by rw [e]; simp⟩) (fun m hm => ?_) (fun b u q => ?_) I.bare
    · obtain ⟨_, h2, h3, h4, h5, h6⟩ := hf b hb
      exact ⟨h4, h2, h5, h6⟩
    · obtain ⟨o, es, ep, ho, r⟩ := hm
      exact ⟨o, es, ep, k _ o (fun z => (hf _ z).2.1 rfl) ho, r⟩
    · have nch : ∀ b u, H b = some u → b ∉ [z, TO, i1, i2, TI] := fun b u q z => by rw [(hf b z).1] at q; cases q
      refine (I.hok b u q).stay (fun c v hc q' => k c v ?_ q') (fun _ q => q) fun _ _ q => q
      rcases hc with z | z
      · rw [z]; exact nch b u q
      · exact nch c _ z
  self := fun _ _ _ _ _ st h => wpAny_pyIter_zip st.zp h
section
variable {X : Cx}
end
end L2

namespace L2
open PySem PySem.Spec PyProof.Rows

section
variable {κ : Type} [DecidableEq κ]
def valV (kvs : List (κ × V)) (k : κ) : Option V := (kvs.find? fun kv => decide (kv.1 = k)).map (·.2)
def putK (kvs : List (κ × V)) (k : κ) (v : V) : List (κ × V) :=
  if (kvs.any fun kv => decide (kv.1 = k)) = true then kvs.map (fun kv => if kv.1 = k then (kv.1, v) else kv) else kvs ++ [(k, v)]
def dropK (kvs : List (κ × V)) (k : κ) : List (κ × V) := kvs.filter fun kv => decide (kv.1 ≠ k)

theorem valV_pos {p : κ × V} {r : List (κ × V)} {k : κ} (e : p.1 = k) : valV (p :: r) k = some p.2 := by simp [valV, List.find?_cons, e]
theorem valV_neg {p : κ × V} {r : List (κ × V)} {k : κ} (e : ¬ p.1 = k) : valV (p :: r) k = valV r k := by simp [valV, List.find?_cons, e]
theorem valV_any (k : κ) : ∀ kvs : List (κ × V), (kvs.any fun kv => decide (kv.1 = k)) = (valV kvs k).isSome
  | [] => rfl
  | p :: r => by
    rw [List.any_cons]
    by_cases e : p.1 = k
    · simp only [valV_pos e, decide_eq_true e, Bool.true_or, Option.isSome_some]
    · rw [valV_neg e, decide_eq_false e, Bool.false_or]; exact valV_any k r
theorem valV_map (k j : κ) (y : V) : ∀ kvs : List (κ × V), valV (kvs.map fun kv => if kv.1 = k then (kv.1, y) else kv) j = (valV kvs j).map fun x => if j = k then y else x
  | [] => rfl
  | p :: r => by
    have ih := valV_map k j y r
    rw [List.map_cons]
    by_cases h : p.1 = k
    · rw [if_pos h]
      by_cases e : p.1 = j
      · rw [valV_pos (p := (p.1, y)) e, valV_pos e, Option.map_some, if_pos (e.symm.trans h)]
      · rw [valV_neg (p := (p.1, y)) e, valV_neg e, ih]
    · rw [if_neg h]
      by_cases e : p.1 = j
      · rw [valV_pos (p := p) e, valV_pos e, Option.map_some, if_neg (fun z => h (e.trans z))]
      · rw [valV_neg (p := p) e, valV_neg e, ih]
theorem valV_snoc (k j : κ) (y : V) : ∀ kvs : List (κ × V), valV kvs k = none → valV (kvs ++ [(k, y)]) j = if j = k then some y else valV kvs j
  | [], _ => by
    by_cases e : k = j
    · rw [if_pos e.symm]; exact valV_pos (p := (k, y)) e
    · rw [if_neg (fun z => e z.symm)]; exact valV_neg (p := (k, y)) e
  | p :: r, hn => by
    rw [List.cons_append]
    have hk : ¬ p.1 = k := fun z => by rw [valV_pos z] at hn; cases hn
    rw [valV_neg hk] at hn
    have ih := valV_snoc k j y r hn
    by_cases e : p.1 = j
    · rw [valV_pos e, valV_pos e, if_neg (fun z => hk (e.trans z))]
    · rw [valV_neg e, valV_neg e, ih]
theorem valV_put (kvs : List (κ × V)) (k j : κ) (y : V) : valV (putK kvs k y) j = if j = k then some y else valV kvs j := by
  unfold putK
  by_cases a : (kvs.any fun kv => decide (kv.1 = k)) = true
  · rw [if_pos a, valV_map]
    rw [valV_any] at a
    by_cases e : j = k
    · obtain ⟨x, hx⟩ := Option.isSome_iff_exists.mp a
      rw [if_pos e, e, hx, Option.map_some, if_pos rfl]
    · rw [if_neg e]
      cases valV kvs j with
      | none => rfl
      | some x => rw [Option.map_some, if_neg e]
  · rw [if_neg a]
    refine valV_snoc k j y kvs ?_
    rw [valV_any] at a
    cases q : valV kvs k with
    | none => rfl
    | some x => rw [q] at a; exact (a rfl).elim
theorem length_putK (kvs : List (κ × V)) (k : κ) (v : V) : (putK kvs k v).length ≤ kvs.length + 1 := by
  unfold putK
  split
  · rw [List.length_map]; omega
  · rw [List.length_append, List.length_cons, List.length_nil]; omega
theorem putK_new {kvs : List (κ × V)} {k : κ} (v : V) (h : valV kvs k = none) : putK kvs k v = kvs ++ [(k, v)] := by
  unfold putK
  rw [valV_any, h]
  exact if_neg (by decide)

theorem RelO.isSome_eq {o : Option V} {u : Option Value} (r : RelO o u) : o.isSome = u.isSome := by
  cases o with
  | none => cases u with
    | none => rfl
    | some _ => exact (show False from r).elim
  | some _ => cases u with
    | none => exact (show False from r).elim
    | some _ => rfl
theorem RelO.getD {o : Option V} {u : Option Value} {d : V} {d' : Value} (r : RelO o u) (rd : RelV d d') : RelV (o.getD d) (u.getD d') := by
  cases o with
  | none => cases u with
    | none => exact rd
    | some _ => exact (show False from r).elim
  | some _ => cases u with
    | none => exact (show False from r).elim
    | some _ => exact r

theorem KV.val {kvs : List (κ × V)} {vs : List (κ × Value)} (r : KV kvs vs) (k : κ) : RelO (valV kvs k) (valueAt vs k) := by
  unfold KV at r
  induction r with
  | nil => exact True.intro
  | @cons p q ps qs h t ih =>
    obtain ⟨h1, h2⟩ := h
    by_cases e : p.1 = k
    · have e' : q.1 = k := h1.symm.trans e
      have b : valueAt (q :: qs) k = some q.2 := by simp [valueAt, List.find?_cons, e']
      rw [valV_pos e, b]; exact h2
    · have e' : ¬ q.1 = k := fun z => e (h1.trans z)
      have b : valueAt (q :: qs) k = valueAt qs k := by simp [valueAt, List.find?_cons, e']
      rw [valV_neg e, b]; exact ih
theorem KV.any {kvs : List (κ × V)} {vs : List (κ × Value)} (r : KV kvs vs) (k : κ) : (kvs.any fun kv => decide (kv.1 = k)) = vs.any fun kv => decide (kv.1 = k) := by
  unfold KV at r
  induction r with
  | nil => rfl
  | cons h t ih => rw [List.any_cons, List.any_cons, ih, h.1]
theorem KV.repl {kvs : List (κ × V)} {vs : List (κ × Value)} (r : KV kvs vs) (k : κ) {y : V} {u : Value} (ry : RelV y u) :
    KV (kvs.map fun kv => if kv.1 = k then (kv.1, y) else kv) (vs.map fun kv => if kv.1 = k then (kv.1, u) else kv) := by
  unfold KV at r ⊢
  induction r with
  | nil => exact .nil
  | @cons p q ps qs h t ih =>
    rw [List.map_cons, List.map_cons]
    refine .cons ?_ ih
    obtain ⟨h1, h2⟩ := h
    by_cases e : p.1 = k
    · rw [if_pos e, if_pos (h1.symm.trans e)]; exact ⟨h1, ry⟩
    · rw [if_neg e, if_neg (fun z => e (h1.trans z))]; exact ⟨h1, h2⟩
theorem KV.put {kvs : List (κ × V)} {vs : List (κ × Value)} (r : KV kvs vs) (k : κ) {y : V} {u : Value} (ry : RelV y u) : KV (putK kvs k y) (stored vs k u) := by
  unfold putK stored
  rw [r.any k]
  by_cases e : (vs.any fun kv => decide (kv.1 = k)) = true
  · rw [if_pos e, if_pos e]; exact r.repl k ry
  · rw [if_neg e, if_neg e]; exact Paired.snoc r ⟨rfl, ry⟩
theorem KV.drop {kvs : List (κ × V)} {vs : List (κ × Value)} (r : KV kvs vs) (k : κ) : KV (dropK kvs k) (without vs k) := by
  unfold KV at r ⊢
  unfold dropK without
  induction r with
  | nil => exact .nil
  | @cons p q ps qs h t ih =>
    obtain ⟨h1, h2⟩ := h
    rw [List.filter_cons, List.filter_cons]
    by_cases e : p.1 = k
    · have a : ¬ decide (p.1 ≠ k) = true := by simp [e]
      have b : ¬ decide (q.1 ≠ k) = true := by simp [h1.symm.trans e]
      rw [if_neg a, if_neg b]; exact ih
    · have e' : ¬ q.1 = k := fun z => e (h1.trans z)
      have a : decide (p.1 ≠ k) = true := by simp [e]
      have b : decide (q.1 ≠ k) = true := by simp [e']
      rw [if_pos a, if_pos b]; exact .cons ⟨h1, h2⟩ ih
theorem KV.keys {kvs : List (κ × V)} {vs : List (κ × Value)} (r : KV kvs vs) : kvs.map (·.1) = vs.map (·.1) := by
  unfold KV at r
  induction r with
  | nil => rfl
  | cons h t ih => rw [List.map_cons, List.map_cons, ih, h.1]
theorem KV.length {kvs : List (κ × V)} {vs : List (κ × Value)} (r : KV kvs vs) : kvs.length = vs.length := Paired.length r
theorem dropK_le (kvs : List (κ × V)) (k : κ) : (dropK kvs k).length ≤ kvs.length := List.length_filter_le _ _
end


theorem kV_is {P : Program} {w : World} {k : Key} {u : Value} (r : RelV (kV k) u) : (mixKind P w).is k u = true := by
  cases k with
  | inl i => obtain ⟨t, e⟩ := (show ∃ t, u = Value.int i t from r); subst e; exact mixKind_int P w i t
  | inr x => obtain ⟨t, e⟩ := (show ∃ t, u = Value.str x t from r); subst e; exact mixKind_str P w x t
theorem items_are {P : Program} {w : World} : ∀ {ks : List Key} {us : List Value}, Vals (ks.map kV) us → ItemsAre (mixKind P w) ks us
  | [], _, r => by rw [List.map_nil] at r; cases r; exact .nil
  | k :: ks, _, r => by
    rw [List.map_cons] at r
    cases r with
    | cons h t => exact .cons (kV_is h) (items_are t)

abbrev KT (H : Hp) : List (List Key × V) → List (List Key × Addr × Value) → Prop := Paired fun p q => p.1 = q.1 ∧ H q.2.1 = some (.tup (p.1.map kV)) ∧ RelV p.2 q.2.2
theorem KT.val {H : Hp} {kvs : List (List Key × V)} {xs : List (List Key × Addr × Value)} (r : KT H kvs xs) (k : List Key) : RelO (valV kvs k) ((atKey xs k).map (·.2)) := by
  induction r with
  | nil => exact True.intro
  | @cons p q ps qs h t ih =>
    obtain ⟨h1, _, h2⟩ := h
    by_cases e : p.1 = k
    · have e' : q.1 = k := h1.symm.trans e
      have b : atKey (q :: qs) k = some q.2 := by simp [atKey, List.find?_cons, e']
      rw [valV_pos e, b]; exact h2
    · have e' : ¬ q.1 = k := fun z => e (h1.trans z)
      have b : atKey (q :: qs) k = atKey qs k := by simp [atKey, List.find?_cons, e']
      rw [valV_neg e, b]; exact ih
theorem KT.repl {H : Hp} {kvs : List (List Key × V)} {xs : List (List Key × Addr × Value)} (r : KT H kvs xs) (k : List Key) {y : V} {u : Value} (ry : RelV y u) :
    KT H (kvs.map fun kv => if kv.1 = k then (kv.1, y) else kv) (xs.map (putAt k u)) := by
  induction r with
  | nil => exact .nil
  | @cons p q ps qs h t ih =>
    rw [List.map_cons, List.map_cons]
    refine .cons ?_ ih
    obtain ⟨h1, h2, h3⟩ := h
    unfold putAt
    by_cases e : p.1 = k
    · rw [if_pos e, if_pos (h1.symm.trans e)]; exact ⟨h1, h2, ry⟩
    · rw [if_neg e, if_neg (fun z => e (h1.trans z))]; exact ⟨h1, h2, h3⟩
theorem KT.put {H : Hp} {kvs : List (List Key × V)} {xs : List (List Key × Addr × Value)} (r : KT H kvs xs) (k : List Key) {b : Addr} {y : V} {u : Value} (hb : H b = some (.tup (k.map kV))) (ry : RelV y u) :
    KT H (putK kvs k y) (storedH xs k b u) := by
  have e : (kvs.any fun kv => decide (kv.1 = k)) = (atKey xs k).isSome := by
    rw [valV_any, (r.val k).isSome_eq, Option.isSome_map]
  unfold putK storedH
  rw [e]
  by_cases q : (atKey xs k).isSome = true
  · rw [if_pos q, if_pos q]; exact r.repl k ry
  · rw [if_neg q, if_neg q]; exact Paired.snoc r ⟨rfl, hb, ry⟩
theorem KT.keeps {H H' : Hp} {kvs : List (List Key × V)} {xs : List (List Key × Addr × Value)} (r : KT H kvs xs) (ht : ∀ b ys, H b = some (.tup ys) → H' b = some (.tup ys)) : KT H' kvs xs :=
  Paired.mapP r fun _ _ z => ⟨z.1, ht _ _ z.2.1, z.2.2⟩

section
variable {P : Program} {w : World} {H : Hp} {h : Heap} {a : Addr}
theorem rd_of {u : HO} (ok : HOk P w H h) (e : Rd H a u) : ObjOk P w H h a u := e.ok ok
theorem dk_rd {kvs : List (Key × V)} (ok : HOk P w H h) (e : Rd H a (.dK kvs)) : kvs.length ≤ sizeLine ∧ (a == sysModules) = false ∧ ∃ vs, KV kvs vs ∧ h.DictOf (mixKind P w) a vs :=
  show ObjOk P w H h a (.dK kvs) from rd_of ok e
theorem dk_of {kvs : List (Key × V)} (ok : HOk P w H h) (e : H a = some (.dK kvs)) : kvs.length ≤ sizeLine ∧ (a == sysModules) = false ∧ ∃ vs, KV kvs vs ∧ h.DictOf (mixKind P w) a vs := dk_rd ok (.inl e)
theorem key_of {ks : List Key} (ok : HOk P w H h) (e : H a = some (.tup (ks.map kV))) : (tupleKind (mixKind P w)).is h ks a := by
  obtain ⟨_, its, r, o, h1, h2, n, h3⟩ := (show ObjOk P w H h a (.tup (ks.map kV)) from ok a _ e)
  exact ⟨o, its.toArray, n, h1, h2, h3, by simpa using items_are r⟩
theorem dt_rd {kvs : List (List Key × V)} (ok : HOk P w H h) (e : Rd H a (.dT kvs)) : kvs.length ≤ sizeLine ∧ (a == sysModules) = false ∧
    ∃ xs, KT H kvs xs ∧ h.DictOfH (tupleKind (mixKind P w)) a xs := by
  obtain ⟨z, y, xs, r, o, es, ep, h1, h2, h3, h4, h5⟩ := (show ObjOk P w H h a (.dT kvs) from rd_of ok e)
  refine ⟨z, y, xs, r, o, es, ep, h1, h2, h3, h4, fun x hx => ?_, h5⟩
  have all : ∀ {l : List (List Key × V)} {m : List (List Key × Addr × Value)}, KT H l m → ∀ x ∈ m, (tupleKind (mixKind P w)).is h x.1 x.2.1 := by
    intro l m q
    induction q with
    | nil => intro x hx; exact nomatch hx
    | @cons p q ps qs hq t ih =>
      intro x hx
      rcases List.mem_cons.mp hx with e | hx
      · subst e
        exact key_of ok (by rw [← hq.1]; exact hq.2.1)
      · exact ih x hx
  exact all r x hx
theorem dt_of {kvs : List (List Key × V)} (ok : HOk P w H h) (e : H a = some (.dT kvs)) : kvs.length ≤ sizeLine ∧ (a == sysModules) = false ∧
    ∃ xs, KT H kvs xs ∧ h.DictOfH (tupleKind (mixKind P w)) a xs := dt_rd ok (.inl e)
end

def DGet (H : Hp) (a : Addr) (y : V) (r : Option V) : Prop :=
  (∃ kvs k, Rd H a (.dK kvs) ∧ y = kV k ∧ r = valV kvs k) ∨ ∃ kvs k b, Rd H a (.dT kvs) ∧ y = .ref b ∧ H b = some (.tup (k.map kV)) ∧ r = valV kvs k
def DPut (H : Hp) (a : Addr) (y v : V) (H' : Hp) : Prop :=
  (∃ kvs k, H a = some (.dK kvs) ∧ y = kV k ∧ kvs.length < sizeLine ∧ H' = upd H a (.dK (putK kvs k v))) ∨
  ∃ kvs k b, H a = some (.dT kvs) ∧ y = .ref b ∧ H b = some (.tup (k.map kV)) ∧ kvs.length < sizeLine ∧ H' = upd H a (.dT (putK kvs k v))
theorem DGet.k {H : Hp} {a : Addr} {kvs : List (Key × V)} {k : Key} (e : H a = some (.dK kvs)) : DGet H a (kV k) (valV kvs k) := .inl ⟨kvs, k, .inl e, rfl, rfl⟩
theorem DPut.k {H : Hp} {a : Addr} {kvs : List (Key × V)} {k : Key} {v : V} (e : H a = some (.dK kvs)) (hl : kvs.length < sizeLine) : DPut H a (kV k) v (upd H a (.dK (putK kvs k v))) := .inl ⟨kvs, k, e, rfl, hl, rfl⟩
section
variable {X : Cx} {pins : List (Addr × Obj)} {σ : St} {H : Hp} {s : Shared} {a : Addr} {y v : V} {u r : Value} {o : Option V} {A : Around} {E : Value → Shared → Prop}

theorem Inv.big (I : Inv X pins σ H s) : sysModules < s.heap.objs.size := by
  have h : mainGlobals < s.heap.objs.size := (I.mod.glob.keeps I.bk).lt
  exact Nat.lt_trans (by decide) h

theorem d_getItem {Q : Value → Shared → Prop} (hu : A.units + 1 < cLine) (I : Inv X pins σ H s) (g : DGet H a y (some v)) (ry : RelV y u) (h : ∀ w' s', Inv X pins σ H s' → RelV v w' → Q w' s') :
    wpAny (model X.prog X.w) A (getItem (.ref a) u) Q E s := by
  rcases g with ⟨kvs, k, e, ey, l⟩ | ⟨kvs, k, b, e, ey, eb, l⟩
  · subst ey
    obtain ⟨z, hd, vs, rel, dd⟩ := dk_rd I.hok e
    obtain ⟨w', hw, rw'⟩ := RelO.some_of (v := v) (o := valueAt vs k) (by rw [l]; exact rel.val k)
    exact wpAny_getItem_of (kV_is ry) dd.mapOf hw (h w' _ (I.tok _) rw')
  · subst ey
    cases (show u = Value.ref b from ry)
    obtain ⟨z, hd, xs, rel, dd⟩ := dt_rd I.hok e
    obtain ⟨w', hw, rw'⟩ := RelO.some_of (v := v) (o := (atKey xs k).map (·.2)) (by rw [l]; exact rel.val k)
    obtain ⟨p, hp, hp2⟩ := Option.map_eq_some_iff.mp hw
    refine wpAny_getItem_heap (tupleKind_room_in1 hu) (key_of I.hok eb) dd hp ?_
    rw [hp2]
    exact h w' _ (I.tok _) rw'
theorem d_in {Q : Value → Shared → Prop} (hu : A.units + 1 < cLine) (I : Inv X pins σ H s) (g : DGet H a y o) (ry : RelV y u) (h : ∀ s', Inv X pins σ H s' → Q (.bool o.isSome) s') :
    wpAny (model X.prog X.w) A (compareOp .In u (.ref a)) Q E s := by
  rcases g with ⟨kvs, k, e, ey, l⟩ | ⟨kvs, k, b, e, ey, eb, l⟩
  · subst ey
    obtain ⟨z, hd, vs, rel, dd⟩ := dk_rd I.hok e
    refine wpAny_in_of (kV_is ry) hd dd.mapOf ?_
    rw [← (rel.val k).isSome_eq, ← l]
    exact h _ (I.tok _)
  · subst ey
    cases (show u = Value.ref b from ry)
    obtain ⟨z, hd, xs, rel, dd⟩ := dt_rd I.hok e
    refine wpAny_in_heap (tupleKind_room_in1 hu) (key_of I.hok eb) hd dd ?_
    have q := (rel.val k).isSome_eq
    rw [Option.isSome_map] at q
    rw [← q, ← l]
    exact h _ (I.tok _)
theorem d_notIn {Q : Value → Shared → Prop} (hu : A.units + 1 < cLine) (I : Inv X pins σ H s) (g : DGet H a y o) (ry : RelV y u) (h : ∀ s', Inv X pins σ H s' → Q (.bool (!o.isSome)) s') :
    wpAny (model X.prog X.w) A (compareOp .NotIn u (.ref a)) Q E s := by
  rcases g with ⟨kvs, k, e, ey, l⟩ | ⟨kvs, k, b, e, ey, eb, l⟩
  · subst ey
    obtain ⟨z, hd, vs, rel, dd⟩ := dk_rd I.hok e
    refine wpAny_notIn_of (kV_is ry) hd dd.mapOf ?_
    rw [← (rel.val k).isSome_eq, ← l]
    exact h _ (I.tok _)
  · subst ey
    cases (show u = Value.ref b from ry)
    obtain ⟨z, hd, xs, rel, dd⟩ := dt_rd I.hok e
    refine wpAny_notIn_heap (tupleKind_room_in1 hu) (key_of I.hok eb) hd dd ?_
    have q := (rel.val k).isSome_eq
    rw [Option.isSome_map] at q
    rw [← q, ← l]
    exact h _ (I.tok _)
theorem d_write {h' : Heap} {t' : Nat} {ob : HO} (I : Inv X pins σ H s) (mu : Mut (H a)) (hs : Heap.SameBut a s.heap h') (he : ∃ q, h'.get? a = some q) (new : ObjOk X.prog X.w (upd H a ob) h' a ob) :
    Inv X pins σ (upd H a ob) { s with heap := h', toks := t' } :=
  I.write (x := a) (e := a) mu (.inl rfl) (fun b q hb z => (hs.2 b hb).trans z) he new
theorem dk_new {P : Program} {w : World} {H' : Hp} {h' : Heap} {kvs : List (Key × V)} {vs : List (Key × Value)} (z : kvs.length ≤ sizeLine) (hd : (a == sysModules) = false) (rel : KV kvs vs) (dd : h'.DictOf (mixKind P w) a vs) :
    ObjOk P w H' h' a (.dK kvs) := ⟨z, hd, vs, rel, dd⟩
theorem d_setItem {H' : Hp} {Q : Unit → Shared → Prop} (hu : A.units + 1 < cLine) (I : Inv X pins σ H s) (g : DPut H a y v H') (ry : RelV y u) (rv : RelV v r) (h : ∀ s', Inv X pins σ H' s' → Q () s') :
    wpAny (model X.prog X.w) A (setItem (.ref a) u r) Q E s := by
  rcases g with ⟨kvs, k, e, ey, l, eH⟩ | ⟨kvs, k, b, e, ey, eb, l, eH⟩
  · subst ey eH
    obtain ⟨z, hd, vs, rel, dd⟩ := dk_of I.hok e
    have hz : vs.length ≤ sizeLine := by rw [← rel.length]; exact z
    have hl : (putK kvs k v).length ≤ sizeLine := by have := length_putK kvs k v; omega
    refine wpAny_setItem_pairs (hsz := hz) (kV_is ry) dd fun h' dd' hs => h _ ?_
    have he : ∃ q, h'.get? a = some q := let ⟨q, _, _, hq, _⟩ := dd'; ⟨q, hq⟩
    exact d_write I (by rw [e]; exact True.intro) hs he (dk_new hl hd (rel.put k rv) dd')
  · subst ey eH
    cases (show u = Value.ref b from ry)
    obtain ⟨z, hd, xs, rel, dd⟩ := dt_of I.hok e
    have hz : xs.length ≤ sizeLine := by rw [← Paired.length rel]; exact z
    have hl : (putK kvs k v).length ≤ sizeLine := by have := length_putK kvs k v; omega
    refine wpAny_setItem_heap (hsz := hz) (tupleKind_room_in1 hu) (key_of I.hok eb) dd fun h' dd' hs => h _ ?_
    obtain ⟨q, es, ep, hq, h2, h3, h4, _, h5⟩ := dd'
    refine d_write I (by rw [e]; exact True.intro) hs ⟨q, hq⟩ ⟨hl, hd, _, (rel.put k eb rv).keeps fun c ys ec => ?_, q, es, ep, hq, h2, h3, h4, h5⟩
    rw [upd_ne (ne_of ec e (fun z => nomatch z))]
    exact ec
end

section
variable {X : Cx} {pins : List (Addr × Obj)} {σ : St} {H : Hp} {s : Shared} {a : Addr} {kvs : List (Key × V)} {k : Key} {u : Value} {A : Around} {E : Value → Shared → Prop}
theorem d_delItem {Q : Unit → Shared → Prop} (I : Inv X pins σ H s) (e : H a = some (.dK kvs)) (ry : RelV (kV k) u) (l : (valV kvs k).isSome = true) (h : ∀ s', Inv X pins σ (upd H a (.dK (dropK kvs k))) s' → Q () s') :
    wpAny (model X.prog X.w) A (delItem (.ref a) u) Q E s := by
  obtain ⟨z, hd, vs, rel, dd⟩ := dk_of I.hok e
  refine wpAny_delItem_slot dd.typeIs (by decide) PySem.F.slot_dict_delitem
    (call_meetsIn PySem.F.slot_dict_delitem dd.typeIs PySem.F.entry_dict_delitem (PySem.F.args_dict_delitem_2 _ _) (meets_dict_delitem_pairs (mixKind X.prog X.w) a (kV_is ry)) ⟨vs, dd, by rw [← rel.length]; exact z, by rw [← (rel.val k).isSome_eq]; exact l, fun h' dd' hs => h _ ?_⟩)
  have he : ∃ q, h'.get? a = some q := let ⟨q, _, _, hq, _⟩ := dd'; ⟨q, hq⟩
  exact d_write I (by rw [e]; exact True.intro) hs he (dk_new (Nat.le_trans (dropK_le kvs k) z) hd (rel.drop k) dd')
theorem d_pop {v : V} {more : List Value} {Q : Value → Shared → Prop} (I : Inv X pins σ H s) (e : H a = some (.dK kvs)) (ry : RelV (kV k) u) (l : valV kvs k = some v) (hm : more = [] ∨ ∃ x, more = [x])
    (h : ∀ w' s', Inv X pins σ (upd H a (.dK (dropK kvs k))) s' → RelV v w' → Q w' s') : wpAny (model X.prog X.w) A (call (.builtin "dict.pop") (.ref a :: u :: more)) Q E s := by
  obtain ⟨z, hd, vs, rel, dd⟩ := dk_of I.hok e
  obtain ⟨w', hw, rw'⟩ := RelO.some_of (v := v) (o := valueAt vs k) (by rw [← l]; exact rel.val k)
  have hp : (keyPart u).isSome = true := by
    cases k with
    | inl i => obtain ⟨t, q⟩ := (show ∃ t, u = Value.int i t from ry); subst q; rfl
    | inr x => obtain ⟨t, q⟩ := (show ∃ t, u = Value.str x t from ry); subst q; rfl
  have ha : argsOk "dict.pop" ⟨.ref a :: u :: more, []⟩ := by
    rcases hm with q | ⟨x, q⟩
    · subst q; exact PySem.F.args_dict_pop_2 _ _
    · subst q; exact PySem.F.args_dict_pop_3 _ _ _
  refine call_meetsIn PySem.F.slot_dict_pop dd.typeIs PySem.F.entry_dict_pop ha (meets_dict_pop_there (mixKind X.prog X.w) a (kV_is ry) more hm hp)
    ⟨vs, w', dd, by rw [← rel.length]; exact z, hw, fun h' dd' hs => h w' _ ?_ rw'⟩
  have he : ∃ q, h'.get? a = some q := let ⟨q, _, _, hq, _⟩ := dd'; ⟨q, hq⟩
  exact d_write I (by rw [e]; exact True.intro) hs he (dk_new (Nat.le_trans (dropK_le kvs k) z) hd (rel.drop k) dd')
theorem d_len {Q : Value → Shared → Prop} (I : Inv X pins σ H s) (e : Rd H a (.dK kvs)) (h : ∀ t s', Inv X pins σ H s' → Q (.int kvs.length t) s') : wpAny (model X.prog X.w) A (call (.builtin "len") [.ref a]) Q E s := by
  obtain ⟨z, hd, vs, rel, dd⟩ := dk_rd I.hok e
  refine call_len_dict hd dd (by rw [← rel.length]; rw [sizeLine_eq] at z; omega) ?_
  rw [← rel.length]
  exact h _ _ (I.tok _)
end


def NoSl (i : Expr) : Prop := ∀ ov iv, subscripted i false ov iv = operate [ov, iv] (getItem ov iv)
theorem subD_of {prog : Program} {w : World} {A : Around} {E : Value → Shared → Prop} {s : Shared} {env : Env} {value slice : Expr} {pos : Pos} {T id : String} {Q : Value → Shared → Prop}
    (hl : typeLookup (.type T) "__getitem__" = pure (some (.builtin id))) (hs : NoSl slice)
    (h : wpAny (model prog w) A (eval value env) (fun o s₁ => wpAny (model prog w) A (eval slice env) (fun i s₂ => s₂.TypeIs o T ∧ wpAny (model prog w) A (getItem o i) Q E s₂) E s₁) E s) :
    wpAny (model prog w) A (eval (.Subscript value slice pos) env) Q E s := by
  refine Subscript_ (wpAny_mono h (fun o s₁ h₁ => wpAny_mono h₁ (fun i s₂ h₂ => ?_) fun _ _ x => x) fun _ _ x => x)
  obtain ⟨hT, h₂⟩ := h₂
  unfold subscriptTail
  refine wpAny_bind ?_
  rw [getitemInPython_of_ne hT.not_modules]
  refine wpAny_bind (wpAny_specialOf hT hl ?_)
  have fin : wpAny (model prog w) A (subscripted slice false o i) (fun r s₃ => wpAny (model prog w) A (letTemporaryGo value o r >>= fun _ => pure r) Q E s₃) E s₂ := by
    rw [hs o i]
    exact wpAny_operating (wpAny_mono h₂ (fun r s₃ h₃ => wpAny_bind (wpAny_letTemporaryGo (wpAny_pure h₃))) fun _ _ x => x)
  first
    | exact wpAny_pure (wpAny_bind fin)
    | exact wpAny_bind (wpAny_pure (wpAny_bind fin))
    | exact wpAny_bind fin

theorem dict_typeIs {X : Cx} {pins : List (Addr × Obj)} {σ : St} {H : Hp} {s : Shared} {a : Addr} {y : V} {o : Option V} (I : Inv X pins σ H s) (g : DGet H a y o) : s.TypeIs (.ref a) "dict" := by
  rcases g with ⟨kvs, k, e, _, _⟩ | ⟨kvs, k, b, e, _, _, _⟩
  · obtain ⟨_, _, vs, _, dd⟩ := dk_rd I.hok e
    exact dd.typeIs
  · obtain ⟨_, _, xs, _, dd⟩ := dt_rd I.hok e
    exact dd.typeIs
def tDGet (td ty : TE) : TE := fun σ H Q => td σ H fun x H1 => ty σ H1 fun y H2 => ∃ a v, x = .ref a ∧ DGet H2 a y (some v) ∧ Q v H2
def tDIn (ty td : TE) : TE := fun σ H Q => ty σ H fun y H1 => td σ H1 fun x H2 => ∃ a o, x = .ref a ∧ DGet H2 a y o ∧ Q (.bl o.isSome) H2
def tDNotIn (ty td : TE) : TE := fun σ H Q => ty σ H fun y H1 => td σ H1 fun x H2 => ∃ a o, x = .ref a ∧ DGet H2 a y o ∧ Q (.bl (!o.isSome)) H2
def sDPut (td ty tv : TE) : TS := fun D σ H => tv σ H fun v H1 => td σ H1 fun x H2 => ty σ H2 fun y H3 => ∃ a H4, x = .ref a ∧ DPut H3 a y v H4 ∧ D.nx σ H4
section
variable {X : Cx} {o i e value : Expr} {pos pos' tpos : Pos} {td ty tv : TE}
theorem pe_dget (hu : X.A.units + 1 < cLine) (ho : PE X o td) (hi : PE X i ty) (hs : NoSl i) : PE X (.Subscript o i pos) (tDGet td ty) := by
  intro pins s σ H Q I h
  refine subD_of PySem.F.slot_dict_getitem.lookup hs (thn (ho pins s σ H _ I h) fun u s1 ⟨x, H1, I1, rx, q1⟩ => thn (hi pins s1 σ H1 _ I1 q1) fun iv s2 ⟨y, H2, I2, ry, a, v, ex, g, q2⟩ => ?_)
  subst ex
  obtain rfl : u = Value.ref a := rx
  exact ⟨dict_typeIs I2 g, d_getItem hu I2 g ry fun w' s3 I3 rw' => ⟨v, H2, I3, rw', q2⟩⟩
theorem pc_din (hu : X.A.units + 1 < cLine) (hi : PE X i ty) (ho : PE X o td) : PC X .In i o (tDIn ty td) := by
  intro pins s σ H Q I h
  refine thn (hi pins s σ H _ I h) fun iv s1 ⟨y, H1, I1, ry, q1⟩ => thn (ho pins s1 σ H1 _ I1 q1) fun u s2 ⟨x, H2, I2, rx, a, ov, ex, g, q2⟩ => ?_
  subst ex
  obtain rfl : u = Value.ref a := rx
  exact d_in hu I2 g ry fun s3 I3 => ⟨.bl ov.isSome, H2, I3, rfl, q2⟩
theorem pc_dnotin (hu : X.A.units + 1 < cLine) (hi : PE X i ty) (ho : PE X o td) : PC X .NotIn i o (tDNotIn ty td) := by
  intro pins s σ H Q I h
  refine thn (hi pins s σ H _ I h) fun iv s1 ⟨y, H1, I1, ry, q1⟩ => thn (ho pins s1 σ H1 _ I1 q1) fun u s2 ⟨x, H2, I2, rx, a, ov, ex, g, q2⟩ => ?_
  subst ex
  obtain rfl : u = Value.ref a := rx
  exact d_notIn hu I2 g ry fun s3 I3 => ⟨.bl (!ov.isSome), H2, I3, rfl, q2⟩
theorem ps_dput (hu : X.A.units + 1 < cLine) (ho : PE X o td) (hi : PE X i ty) (hv : PE X value tv) (hs : swapsWith value (some (.Subscript o i pos')) pos.line X.env = pure false) :
    PS X (.Assign [.Subscript o i pos'] value pos) (sDPut td ty tv) := by
  intro pins s σ H D I h
  refine wpAny_Assign_Subscript (thn (hv pins s σ H _ I h) fun r s1 ⟨v, H1, I1, rv, q1⟩ => thn (ho pins s1 σ H1 _ I1 q1) fun u s2 ⟨x, H2, I2, rx, q2⟩ => thn (hi pins s2 σ H2 _ I2 q2) fun iv s3 ⟨y, H3, I3, ry, a, H4, ex, g, q3⟩ => ?_) hs
  subst ex
  obtain rfl : u = Value.ref a := rx
  exact d_setItem hu I3 g ry rv fun s4 I4 => ⟨σ, H4, I4, q3⟩
end


theorem dk_empty {P : Program} {w : World} {H : Hp} (h : Heap) (hb : sysModules < h.objs.size) : ObjOk P w H (h.push { cls := .type "dict", data := .dict #[] }) h.objs.size (.dK []) :=
  ⟨Nat.zero_le _, beq_eq_false_iff_ne.mpr (Ne.symm (Nat.ne_of_lt hb)), [], .nil, Heap.DictOf.new h⟩
def tDNewK : TE := fun _ H Q => ∀ p, H p = none → Q (.ref p) (upd H p (.dK []))
section
variable {X : Cx} {pos : Pos}
theorem pe_dnewK : PE X (.Dict [] [] pos) tDNewK := fun pins s σ H Q I h =>
  wpAny_Dict_empty ⟨.ref s.heap.objs.size, _, I.laid (a := s.heap.objs.size) (o := .dK []) (t' := s.toks) (fun _ _ q => Heap.get?_push_of_some _ q) (Nat.le_refl _) (dk_empty s.heap I.big), rfl, h _ (I.hok.fresh (Nat.le_refl _))⟩
end

structure M1 (X : Cx) (o : Expr) (m : Str) (apos : Pos) (e : Expr) (cpos : Pos) : Prop where
  base : attributeBase o m X.env (eval o X.env) = eval o X.env
  few : ((backTo cpos (starEach [e] X.env)).all (fun x => !x.1) && (backToKw cpos (keywordEach [] X.env)).all (fun x => x.1.isSome)
    && decide (([e] : List Expr).length + ([] : List Keyword).length + (if ([] : List Keyword).isEmpty then 0 else 1) < 30)) = true
  line : (apos.endLine == cpos.line) = true
  trees : backTo cpos (starEach [e] X.env) = [(false, eval e X.env)]
def IsD (H : Hp) (a : Addr) : Prop := (∃ kvs, Rd H a (.dK kvs)) ∨ ∃ kvs, Rd H a (.dT kvs)
theorem isD_at {X : Cx} {pins : List (Addr × Obj)} {σ : St} {H : Hp} {s : Shared} {a : Addr} (I : Inv X pins σ H s) (d : IsD H a) :
    s.TypeIs (.ref a) "dict" ∧ (∀ b, Value.ref a = .ref b → ∃ ob, s.heap.get? b = some ob ∧ ob.dict = none) ∧ (a == sysModules) = false := by
  rcases d with ⟨kvs, e⟩ | ⟨kvs, e⟩
  · obtain ⟨_, hd, vs, _, dd⟩ := dk_rd I.hok e
    refine ⟨dd.typeIs, fun b q => ?_, hd⟩
    cases q
    obtain ⟨ob, _, _, h1, h2, _⟩ := dd
    exact ⟨ob, h1, h2.2.1⟩
  · obtain ⟨_, hd, xs, _, dd⟩ := dt_rd I.hok e
    refine ⟨dd.typeIs, fun b q => ?_, hd⟩
    cases q
    obtain ⟨ob, _, _, h1, h2, _⟩ := dd
    exact ⟨ob, h1, h2.2.1⟩

section
variable {X : Cx} {pins : List (Addr × Obj)} {σ : St} {H : Hp} {s : Shared} {a : Addr} {y d : V} {u r : Value} {o : Option V} {A : Around} {E : Value → Shared → Prop}
theorem d_get1 {Q : Value → Shared → Prop} (hu : A.units + 1 < cLine) (I : Inv X pins σ H s) (g : DGet H a y o) (ry : RelV y u) (h : ∀ w' s', Inv X pins σ H s' → RelV (o.getD .non) w' → Q w' s') :
    wpAny (model X.prog X.w) A (call (.builtin "dict.get") [.ref a, u]) Q E s := by
  rcases g with ⟨kvs, k, e, ey, l⟩ | ⟨kvs, k, b, e, ey, eb, l⟩
  · subst ey
    obtain ⟨z, hd, vs, rel, dd⟩ := dk_rd I.hok e
    refine call_meetsIn PySem.F.slot_dict_get dd.typeIs PySem.F.entry_dict_get (PySem.F.args_dict_get_2 _ _) (meets_dict_get (mixKind X.prog X.w) a (kV_is ry) hd) ⟨_, dd.mapOf, h _ _ (I.tok _) ?_⟩
    rw [l]
    exact (rel.val k).getD rfl
  · subst ey
    cases (show u = Value.ref b from ry)
    obtain ⟨z, hd, xs, rel, dd⟩ := dt_rd I.hok e
    refine call_meetsIn PySem.F.slot_dict_get dd.typeIs PySem.F.entry_dict_get (PySem.F.args_dict_get_2 _ _) (meetsH_dict_get (tupleKind (mixKind X.prog X.w)) a b hd) ⟨tupleKind_room_in1 hu, k, xs, key_of I.hok eb, dd, h _ _ (I.tok _) ?_⟩
    rw [l]
    exact (rel.val k).getD rfl
end

def tDGet1 (td ty : TE) : TE := fun σ H Q => td σ H fun x H1 => ∃ a, x = .ref a ∧ IsD H1 a ∧ ty σ H1 fun y H2 => ∃ o, DGet H2 a y o ∧ Q (o.getD .non) H2
def tDPop1 (td ty : TE) : TE := fun σ H Q => td σ H fun x H1 => ∃ a, x = .ref a ∧ IsD H1 a ∧ ty σ H1 fun y H2 => ∃ kvs k v, H2 a = some (.dK kvs) ∧ y = kV k ∧ valV kvs k = some v ∧ Q v (upd H2 a (.dK (dropK kvs k)))
section
variable {X : Cx} {o e f : Expr} {apos cpos : Pos} {td ty tx : TE}
theorem pe_dget1 (hu : X.A.units + 1 < cLine) (ho : PE X o td) (he : PE X e ty) (m : M1 X o "get" apos e cpos) : PE X (.Call (.Attribute o "get" apos) [e] [] cpos) (tDGet1 td ty) := by
  intro pins s σ H Q I h
  refine wpAny_Call_method m.base m.few m.line PySem.F.plainAttrs_dict PySem.F.slot_dict_get PySem.F.type_dict_get (thn (ho pins s σ H _ I h) fun u s1 ⟨x, H1, I1, rx, a, ex, d, q1⟩ => ?_)
  subst ex
  obtain rfl : u = Value.ref a := rx
  obtain ⟨t1, t2, _⟩ := isD_at I1 d
  refine ⟨t1, t2, ?_⟩
  rw [m.trees]
  refine Calls.callWith_builtin rfl (Calls.evalArgs_plain (Calls.spliced_cons (thn (he pins s1 σ H1 _ I1 q1) fun iv s2 ⟨y, H2, I2, ry, ov, g, q2⟩ => Calls.spliced_nil ?_)))
  exact d_get1 hu I2 g ry fun w' s3 I3 rw' => ⟨_, H2, I3, rw', q2⟩
theorem pe_dpop1 (ho : PE X o td) (he : PE X e ty) (m : M1 X o "pop" apos e cpos) : PE X (.Call (.Attribute o "pop" apos) [e] [] cpos) (tDPop1 td ty) := by
  intro pins s σ H Q I h
  refine wpAny_Call_method m.base m.few m.line PySem.F.plainAttrs_dict PySem.F.slot_dict_pop PySem.F.type_dict_pop (thn (ho pins s σ H _ I h) fun u s1 ⟨x, H1, I1, rx, a, ex, d, q1⟩ => ?_)
  subst ex
  obtain rfl : u = Value.ref a := rx
  obtain ⟨t1, t2, _⟩ := isD_at I1 d
  refine ⟨t1, t2, ?_⟩
  rw [m.trees]
  refine Calls.callWith_builtin rfl (Calls.evalArgs_plain (Calls.spliced_cons (thn (he pins s1 σ H1 _ I1 q1) fun iv s2 ⟨y, H2, I2, ry, kvs, k, v, ea, ey, l, q2⟩ => Calls.spliced_nil ?_)))
  subst ey
  exact d_pop I2 ea ry l (.inl rfl) fun w' s3 I3 rw' => ⟨v, _, I3, rw', q2⟩
end

section
variable {X : Cx} {pins : List (Addr × Obj)} {σ : St} {H : Hp} {s : Shared} {a : Addr} {kvs : List (Key × V)} {A : Around} {E : Value → Shared → Prop}
end


section
variable {X : Cx} {pins : List (Addr × Obj)} {σ : St} {H : Hp} {s : Shared} {a : Addr} {y : V} {u : Value} {A : Around} {E : Value → Shared → Prop}
end
section
variable {X : Cx}
theorem call_lenD : CallR X (.builtin "len") (fun xs H Q => ∃ a kvs, xs = [V.ref a] ∧ H a = some (.dK kvs) ∧ Q (.int kvs.length) H) := by
  intro pins s σ H xs us Q I r h
  obtain ⟨a, kvs, rfl, ha, q⟩ := h
  obtain ⟨u, rfl, ru⟩ := vals1 r
  cases ru
  exact d_len I (.inl ha) fun t s' I' => ⟨.int kvs.length, H, I', ⟨t, rfl⟩, q⟩
end
section
variable {κ : Type} [DecidableEq κ]
end
end L2

namespace L2
open PySem PySem.Spec PyProof.Rows
section
variable {X : Cx}
theorem vals_ix : ∀ {xs : List V} {us : List Value}, xs.length = us.length → (∀ (j : Nat) (x : V) (u : Value), xs[j]? = some x → us[j]? = some u → RelV x u) → Vals xs us
  | [], [], _, _ => .nil
  | _ :: _, _ :: _, h, k => .cons (k 0 _ _ rfl rfl) (vals_ix (by simpa using h) fun j x u a b => k (j + 1) x u a b)
theorem call_minL (hc : X.calm = true) : CallR X (.builtin "min") (fun xs H Q => ∃ (p : Addr) (ns : List Int) (M : Int), xs = [.ref p] ∧ SqL X.K H p (ns.map V.int) ∧ M ∈ ns ∧ (∀ a ∈ ns, M ≤ a) ∧ Q (.int M) H) := by
  intro pins s σ H xs us Q I r h
  obtain ⟨p, ns, M, rfl, hq, hM, hle, q⟩ := h
  obtain ⟨u, rfl, rx⟩ := vals1 r
  cases rx
  obtain ⟨its, rv, pl, hz⟩ := I.list hq
  have hi := intsAre_of rv
  obtain ⟨ys, ey⟩ := hi.allInts.items
  have en : ys.toList.map (·.1) = ns := by
    rw [← nums_intItems, ← ey, show its.toArray.toList = its from rfl, hi.numsOf]
  have hl : ys.size = ns.length := by rw [← en, List.length_map, Array.length_toList]
  have hpos : 0 < ns.length := List.length_pos_of_mem hM
  refine min_intList (xs := ys) (I.ok.hd hc) (by rw [← ey]; exact pl.isList) (by omega) fun v h' tk hv hk => ?_
  obtain ⟨t, rfl⟩ := intItems_at hv
  obtain ⟨h1, h2⟩ := argBest_lt (numAt ys) (ys.size - 1)
  have hmem : numAt ys (argBest (fun i j => decide (numAt ys i < numAt ys j)) (ys.size - 1)) ∈ ns := by
    rw [numAt_eq, en]
    exact getD_mem (by omega)
  have e : numAt ys (argBest (fun i j => decide (numAt ys i < numAt ys j)) (ys.size - 1)) = M := by
    obtain ⟨j, hj, ej⟩ := mem_getD hM
    have a1 := h2 j (by omega)
    rw [numAt_eq ys j, en, ej] at a1
    have a2 := hle _ hmem
    omega
  rw [e]
  exact ⟨.int M, H, I.kept (t' := tk) hk, ⟨t, rfl⟩, q⟩
theorem call_listD (hc : X.calm = true) : CallR X (.type "list") (fun xs H Q => ∃ (p : Addr) (kvs : List (Key × V)) (ns : List Int), xs = [.ref p] ∧ H p = some (.dK kvs) ∧ kvs.map (·.1) = ns.map Sum.inl ∧ ∀ l, H l = none → Q (.ref l) (upd H l (.lst (ns.map V.int)))) := by
  intro pins s σ H xs us Q I r h
  obtain ⟨p, kvs, ns, rfl, hH, ek, q⟩ := h
  obtain ⟨u, rfl, rx⟩ := vals1 r
  cases rx
  obtain ⟨hz, hs, vs, kv, hd⟩ := dk_of I.hok hH
  obtain ⟨ep, hat⟩ := hd.dictAt
  have hlen := kv.length
  have hn : ns.length = kvs.length := by have := congrArg List.length ek; rw [List.length_map, List.length_map] at this; exact this.symm
  refine PySem.W.kdl_call (PySem.W.kdl_dict (knd := mixKind X.prog X.w) (kvs := vs) (ep := ep) hs) (I.ok.hd hc) hat (by omega) fun h' tk acc' c' hk hD hacc => ?_
  obtain ⟨ha, hit⟩ := hacc
  have rel : Vals (ns.map V.int) acc'.toList := by
    refine vals_ix (by have e : acc'.toList.length = acc'.size := Array.length_toList; rw [List.length_map, e]; omega) fun j x v hx hv => ?_
    rw [Array.getElem?_toList] at hv
    obtain ⟨k, y, e1, e2⟩ := hit j v hv
    rw [List.getElem?_map] at hx
    cases en : ns[j]? with
    | none => rw [en] at hx; cases hx
    | some n =>
      rw [en] at hx
      cases hx
      have e3 : (vs.map (·.1))[j]? = some k := by rw [List.getElem?_map, e1]; rfl
      rw [← kv.keys, ek, List.getElem?_map, en] at e3
      cases e3
      obtain ⟨t, rfl⟩ := Value.isInt_shape e2
      exact ⟨t, rfl⟩
  exact ⟨.ref s.heap.objs.size, _, I.laid (t' := tk) hk (Nat.le_refl _) (show ObjOk X.prog X.w _ h' _ (.lst (ns.map V.int)) from ⟨by rw [List.length_map]; omega, acc'.toList, c', rel, by rw [Array.toArray_toList]; exact hD⟩), rfl, q _ (I.hok.fresh (Nat.le_refl _))⟩
end
end L2

namespace SM
open PySem PyProof.Rows
variable {S : Int → Prop}
def GK (S : Int → Prop) (p : Keyed) : Prop := (∃ a t, p.1 = .int a t) ∧ (∃ a t, S a ∧ p.2 = .int a t)
def GA (S : Int → Prop) (xs : Array Keyed) : Prop := ∀ (i : Nat) (p : Keyed), xs[i]? = some p → GK S p
def gal : Bool → Keyed → Array Keyed → Nat → Nat → Nat → StateT SortSt Sem (Option Nat) := sortPriv% PySem.Builtin.gallop
def mLo : Array Keyed → Array Keyed → StateT SortSt Sem (Array Keyed) := sortPriv% PySem.Builtin.mergeLo
def mHi : Array Keyed → Array Keyed → StateT SortSt Sem (Array Keyed) := sortPriv% PySem.Builtin.mergeHi
section
variable {w : World} {prog : Program} {s : Shared} {A : Around} {E : Value → Shared → Prop}
theorem w_elem {st : SortSt} {arr : Array Keyed} {i : Nat} {Q : Keyed → SortSt → Prop} (hi : i < arr.size) (h : ∀ p, arr[i]? = some p → Q p st) : wpS (model prog w) A E s (elem' arr i) Q st := by
  have e : arr[i]? = some arr[i] := getElem?_pos arr i hi
  rw [elem'_eq, e]
  exact wpS_pure (h _ e)
theorem w_lt {st : SortSt} {x y : Keyed} {Q : Option Bool → SortSt → Prop} (hk : kindOf st = oneType') (gx : GK S x) (gy : GK S y) (h : ∀ b, Q (some b) st) : wpS (model prog w) A E s (lt' x y) Q st := by
  obtain ⟨⟨a, t, e1⟩, _⟩ := gx
  obtain ⟨⟨b, u, e2⟩, _⟩ := gy
  rw [lt'_eq]
  refine wpS_bind (wpS_get ?_)
  rw [hk, keyLt'_oneType, e1, e2]
  refine wpS_bind (wpS_lift (wpAny_attempt (oneLt_int (And.intro rfl ?_))))
  exact wpS_pure (h _)
theorem w_gal {left : Bool} {key : Keyed} {arr : Array Keyed} {base n hint : Nat} {st : SortSt} {Q : Option Nat → SortSt → Prop} (hk : kindOf st = oneType') (ga : GA S arr) (gk : GK S key) (hh : hint < n) (hb : base + n ≤ arr.size) (h : ∀ k, k ≤ n → Q (some k) st) :
    wpS (model prog w) A E s (gal left key arr base n hint) Q st := by
  have bey : ∀ (i : Nat) (Q' : Option Bool → SortSt → Prop), i < n → (∀ b, Q' (some b) st) → wpS (model prog w) A E s (do
      let y ← elem' arr (base + i)
      if left = true then lt' y key else (do let r ← lt' key y; pure (Option.map (fun z => !z) r))) Q' st := fun i Q' hi q => by
    refine wpS_bind (w_elem (by omega) fun y hy => ?_)
    by_cases hl : left = true
    · rw [if_pos hl]; exact w_lt hk (ga _ _ hy) gk q
    · rw [if_neg hl]; exact wpS_bind (w_lt hk gk (ga _ _ hy) fun b => wpS_pure (q _))
  unfold gal
  refine wpS_bind (bey hint _ hh fun right => ?_)
  cases right
  all_goals
    dsimp only
    simp only [Bool.false_eq_true, if_false, if_true]
    refine wpS_bind (wpS_mono (wpS_forRange (I := fun _ c st' => st' = st ∧ ∃ a b, c = (none, a, b)) (Q := fun c st' => st' = st ∧ ∃ a b, c = (none, a, b)) ?_ (fun _ _ q => q) ⟨rfl, _, _, rfl⟩) ?_)
    · rintro x c st' _ _ ⟨rfl, a, b, rfl⟩
      dsimp only
      split
      · exact wpS_pure ⟨rfl, _, _, rfl⟩
      · refine wpS_bind (bey _ _ (by omega) fun more => ?_)
        dsimp only
        split
        · exact wpS_pure ⟨rfl, _, _, rfl⟩
        · exact wpS_pure ⟨rfl, _, _, rfl⟩
    rintro c st' ⟨rfl, a, b, rfl⟩
    dsimp only
    refine wpS_bind (wpS_mono (wpS_forRange (I := fun _ c st'' => st'' = st' ∧ ∃ a b, c = (none, a, b) ∧ b ≤ n) (Q := fun c st'' => st'' = st' ∧ ∃ a b, c = (none, a, b) ∧ b ≤ n) ?_ (fun _ _ q => q) ⟨rfl, _, _, rfl, by omega⟩) ?_)
    · rintro x c st' _ _ ⟨rfl, a, b, rfl, hbn⟩
      dsimp only
      split
      · exact wpS_pure ⟨rfl, _, _, rfl, hbn⟩
      · refine wpS_bind (bey _ _ (by omega) fun more => ?_)
        dsimp only
        split
        · exact wpS_pure ⟨rfl, _, _, rfl, hbn⟩
        · exact wpS_pure ⟨rfl, _, _, rfl, by omega⟩
    rintro c st' ⟨rfl, a, b, rfl, hbn⟩
    exact wpS_pure (h b hbn)
theorem w_ite {α : Type} {c : Prop} [Decidable c] {x y : StateT SortSt Sem α} {Q : α → SortSt → Prop} {st : SortSt} (h1 : c → wpS (model prog w) A E s x Q st) (h2 : ¬ c → wpS (model prog w) A E s y Q st) : wpS (model prog w) A E s (if c then x else y) Q st := by
  by_cases h : c
  · rw [if_pos h]; exact h1 h
  · rw [if_neg h]; exact h2 h
theorem w_iteb {α : Type} {m n : Nat} {x y : StateT SortSt Sem α} {Q : α → SortSt → Prop} {st : SortSt} (h1 : m = n → wpS (model prog w) A E s x Q st) (h2 : m ≠ n → wpS (model prog w) A E s y Q st) : wpS (model prog w) A E s (if (m == n) = true then x else y) Q st :=
  w_ite (fun h => h1 (by simpa using h)) (fun h => h2 (by simpa using h))
def sMG : Nat → StateT SortSt Sem Unit := sortPriv% PySem.Builtin.setMinGallop
def SS (st st' : SortSt) : Prop := kindOf st' = kindOf st ∧ arrOf st' = arrOf st ∧ pendingOf st' = pendingOf st ∧ failedOf st' = failedOf st
theorem w_set {st st1 : SortSt} {g : Nat} {Q : Unit → SortSt → Prop} (hs : SS st st1) (h : ∀ st2, SS st st2 → Q () st2) : wpS (model prog w) A E s (sMG g) Q st1 :=
  wpS_modify (h _ ⟨hs.1, hs.2.1, hs.2.2.1, hs.2.2.2⟩)
end
theorem GA.push {xs : Array Keyed} {y : Keyed} (g : GA S xs) (h : GK S y) : GA S (xs.push y) := fun i p e => by
  rw [Array.getElem?_push] at e
  split at e
  · cases e; exact h
  · exact g i p e
theorem GA.app {xs ys : Array Keyed} (g : GA S xs) (h : GA S ys) : GA S (xs ++ ys) := fun i p e => by
  rw [Array.getElem?_append] at e
  split at e
  · exact g i p e
  · exact h _ p e
theorem GA.ext {xs : Array Keyed} (g : GA S xs) (i j : Nat) : GA S (xs.extract i j) := fun k p e => by
  rw [Array.getElem?_extract] at e
  split at e
  · exact g _ p e
  · cases e
theorem GA.rev {xs : Array Keyed} (g : GA S xs) : GA S xs.reverse := fun k p e => by
  have hk : k < xs.reverse.size := (Array.getElem?_eq_some_iff.mp e).1
  rw [Array.getElem?_reverse (by simpa using hk)] at e
  exact g _ p e
theorem GA.one {y : Keyed} (h : GK S y) : GA S #[y] := fun i p e => by
  cases i with
  | zero => cases e; exact h
  | succ i => simp at e
theorem GA.gk {xs : Array Keyed} {i : Nat} {p : Keyed} (g : GA S xs) (h : xs[i]? = some p) : GK S p := g i p h
structure Md (S : Int → Prop) (a b out : Array Keyed) (ia ib : Nat) : Prop where
  go : GA S out
  sz : out.size + (a.size - ia) + (b.size - ib) = a.size + b.size
  ia : ia + 1 < a.size
  ib : ib < b.size
structure Res (S : Int → Prop) (a b r : Array Keyed) : Prop where
  go : GA S r
  sz : r.size = a.size + b.size
section
variable {w : World} {prog : Program} {s : Shared} {A : Around} {E : Value → Shared → Prop}
set_option maxHeartbeats 4567000 in
theorem w_mLo {a b : Array Keyed} {st : SortSt} {Q : Array Keyed → SortSt → Prop} (hk : kindOf st = oneType') (ga : GA S a) (gb : GA S b) (ha : 0 < a.size) (hb : 0 < b.size)
    (h : ∀ (out : Array Keyed) (st' : SortSt), Res S a b out → SS st st' → Q out st') : wpS (model prog w) A E s (mLo a b) Q st := by
  unfold mLo
  refine wpS_bind (wpS_lift (wpAny_rule (And.intro rfl ?_)))
  refine wpS_bind (w_elem (by omega) fun b0 hb0 => ?_)
  have g0 := GA.one (gb _ _ hb0)
  have SS0 : SS st st := ⟨rfl, rfl, rfl, rfl⟩
  try dsimp only
  refine w_iteb (fun q1 => ?_) (fun q1 => ?_)
  · refine wpS_pure (h _ _ ⟨by (with_reducible repeat' first | exact g0 | exact ga | exact gb | refine GA.app ?_ ?_ | refine GA.ext ?_ _ _ | refine GA.rev ?_), ?_⟩ SS0)
    (simp only [Array.size_append, Array.size_extract, Array.size_reverse, List.size_toArray, List.length_singleton]; omega)
  refine w_iteb (fun q2 => ?_) (fun q2 => ?_)
  · refine wpS_pure (h _ _ ⟨by (with_reducible repeat' first | exact g0 | exact ga | exact gb | refine GA.app ?_ ?_ | refine GA.ext ?_ _ _ | refine GA.rev ?_), ?_⟩ SS0)
    (simp only [Array.size_append, Array.size_extract, Array.size_reverse, List.size_toArray, List.length_singleton]; omega)
  refine wpS_bind (wpS_get ?_)
  refine wpS_bind (wpS_mono (wpS_forRange (I := fun x c st' => SS st st' ∧ ∃ out na nb mg, c = (none, out, na, nb, mg) ∧ Md S a b out na nb ∧ 1 + x ≤ out.size)
    (Q := fun c st' => SS st st' ∧ ∃ r, c.1 = some r ∧ Res S a b r) ?step ?fin ⟨SS0, _, _, _, _, rfl, ⟨g0, by simp only [List.size_toArray, List.length_singleton]; omega, by omega, by omega⟩, by simp⟩) ?post)
  case fin =>
    rintro c st' ⟨_, out, na, nb, mg, _, M, hx⟩
    have := M.sz
    omega
  case post =>
    rintro c st' ⟨s1, r, hr, R⟩
    try dsimp only
    rw [hr]
    exact wpS_pure (h r st' R s1)
  clear h hb0 g0 SS0 q1 q2 ha hb
  rintro x c st1 hx0 hx ⟨s1, out, na, nb, mg, rfl, M, hout⟩
  clear hx0 hx
  try dsimp only
  have hk1 : kindOf st1 = oneType' := s1.1.trans hk
  refine wpS_bind (wpS_mono (wpS_forRange (I := fun y c st2 => st2 = st1 ∧ ∃ o ja jb p q, c = (none, o, ja, jb, p, q) ∧ Md S a b o ja jb ∧ out.size + y ≤ o.size)
    (Q := fun c st2 => st2 = st1 ∧ ((∃ r, c.1 = some r ∧ Res S a b r) ∨ ∃ o ja jb p q, c = (none, o, ja, jb, p, q) ∧ Md S a b o ja jb ∧ out.size + 1 ≤ o.size)) ?step1 ?fin1 ⟨rfl, _, _, _, _, _, rfl, M, by simp⟩) ?post1)
  case fin1 =>
    rintro c st' ⟨_, o, ja, jb, p, q, _, M1, hx⟩
    have := M1.sz
    omega
  case step1 =>
    clear hout M
    rintro y c st2 hy0 hy1 ⟨rfl, o, ja, jb, p, q, rfl, ⟨go, sz, hja, hjb⟩, hy⟩
    clear hy0 hy1
    try dsimp only
    refine wpS_bind (w_elem (by omega) fun v hv => wpS_bind (w_elem (by omega) fun u hu => wpS_bind (w_lt hk1 (gb _ _ hv) (ga _ _ hu) fun bw => ?_)))
    clear hv hu
    try dsimp only
    refine w_ite (fun _ => ?_) (fun _ => ?_)
    all_goals
      refine wpS_bind (w_elem (by omega) fun u hu => ?_)
      try dsimp only
      refine w_iteb (fun hq => ?_) (fun hq => ?_)
      · refine wpS_pure ⟨rfl, .inl ⟨_, rfl, ?_, ?_⟩⟩
        · (with_reducible repeat' first | exact go | exact ga | exact gb | refine GA.app ?_ ?_ | refine GA.push ?_ ?_ | refine GA.ext ?_ _ _ | refine GA.rev ?_ | exact GA.gk ga hu | exact GA.gk gb hu | exact GA.gk gb hv)
        · (simp only [Array.size_append, Array.size_extract, Array.size_push, Array.size_reverse]; omega)
      refine w_ite (fun _ => ?_) (fun _ => ?_)
      · refine wpS_pure ⟨rfl, .inr ⟨_, _, _, _, _, rfl, ⟨?_, ?_, by omega, by omega⟩, ?_⟩⟩
        · (with_reducible repeat' first | exact go | exact ga | exact gb | refine GA.app ?_ ?_ | refine GA.push ?_ ?_ | refine GA.ext ?_ _ _ | refine GA.rev ?_ | exact GA.gk ga hu | exact GA.gk gb hu | exact GA.gk gb hv)
        · (simp only [Array.size_append, Array.size_extract, Array.size_push, Array.size_reverse]; omega)
        · (simp only [Array.size_append, Array.size_extract, Array.size_push, Array.size_reverse]; omega)
      · refine wpS_pure ⟨rfl, _, _, _, _, _, rfl, ⟨?_, ?_, by omega, by omega⟩, ?_⟩
        · (with_reducible repeat' first | exact go | exact ga | exact gb | refine GA.app ?_ ?_ | refine GA.push ?_ ?_ | refine GA.ext ?_ _ _ | refine GA.rev ?_ | exact GA.gk ga hu | exact GA.gk gb hu | exact GA.gk gb hv)
        · (simp only [Array.size_append, Array.size_extract, Array.size_push, Array.size_reverse]; omega)
        · (simp only [Array.size_append, Array.size_extract, Array.size_push, Array.size_reverse]; omega)
  case post1 =>
    rintro c st2 ⟨rfl, ⟨r, hr, R⟩ | ⟨o, ja, jb, p, q, rfl, M1, hlt⟩⟩
    · try dsimp only
      rw [hr]
      exact wpS_pure ⟨s1, r, rfl, R⟩
    try dsimp only
    refine wpS_bind (wpS_lift (wpAny_rule (And.intro rfl ?_)))
    refine wpS_bind (wpS_mono (wpS_forRange (I := fun y c st3 => SS st st3 ∧ ∃ o2 ja jb mg p q, c = (none, o2, ja, jb, mg, p, q) ∧ Md S a b o2 ja jb ∧ o.size + y ≤ o2.size)
      (Q := fun c st3 => SS st st3 ∧ ((∃ r, c.1 = some r ∧ Res S a b r) ∨ ∃ o2 ja jb mg p q, c = (none, o2, ja, jb, mg, p, q) ∧ Md S a b o2 ja jb ∧ o.size ≤ o2.size)) ?step2 ?fin2 ⟨s1, _, _, _, _, _, _, rfl, M1, by simp⟩) ?post2)
    case fin2 =>
      rintro c st' ⟨_, o2, ja, jb, mg, p, q, _, M2, hx⟩
      have := M2.sz
      omega
    case post2 =>
      rintro c st3 ⟨s3, ⟨r, hr, R⟩ | ⟨o2, ja, jb, mg, p, q, rfl, M2, hlt2⟩⟩
      · try dsimp only
        rw [hr]
        exact wpS_pure ⟨s3, r, rfl, R⟩
      try dsimp only
      exact wpS_bind (w_set s3 fun st4 s4 => wpS_pure ⟨s4, _, _, _, _, rfl, M2, by omega⟩)
    case step2 =>
      clear hout M M1 hlt s1 hk1
      rintro y c st3 hy0 hy1 ⟨s3, o2, ja, jb, mg, p, q, rfl, ⟨go, sz, hja, hjb⟩, hy⟩
      clear hy0 hy1
      try dsimp only
      refine w_ite (fun hmg => ?_) (fun hmg => ?_)
      all_goals
        clear hmg
        refine wpS_bind (w_set s3 fun st4 s4 => ?_)
        have hk4 : kindOf st4 = oneType' := s4.1.trans hk
        refine wpS_bind (w_elem (by omega) fun v hv => wpS_bind (w_gal hk4 ga (gb _ _ hv) (by omega) (by omega) fun k hk' => ?_))
        try dsimp only
        refine w_ite (fun hq => ?_) (fun hq => ?_)
        · refine w_iteb (fun hq => ?_) (fun hq => ?_)
          · refine wpS_pure ⟨s4, .inl ⟨_, rfl, ?_, ?_⟩⟩
            · (with_reducible repeat' first | exact go | exact ga | exact gb | refine GA.app ?_ ?_ | refine GA.push ?_ ?_ | refine GA.ext ?_ _ _ | refine GA.rev ?_ | exact GA.gk ga hu | exact GA.gk gb hu | exact GA.gk gb hv)
            · (simp only [Array.size_append, Array.size_extract, Array.size_push, Array.size_reverse]; omega)
          refine w_iteb (fun hq => ?_) (fun hq => ?_)
          · refine wpS_pure ⟨s4, .inl ⟨_, rfl, ?_, ?_⟩⟩
            · (with_reducible repeat' first | exact go | exact ga | exact gb | refine GA.app ?_ ?_ | refine GA.push ?_ ?_ | refine GA.ext ?_ _ _ | refine GA.rev ?_ | exact GA.gk ga hu | exact GA.gk gb hu | exact GA.gk gb hv)
            · (simp only [Array.size_append, Array.size_extract, Array.size_push, Array.size_reverse]; omega)
          refine wpS_bind (w_elem (by omega) fun v hv => ?_)
          refine w_iteb (fun hq => ?_) (fun hq => ?_)
          · refine wpS_pure ⟨s4, .inl ⟨_, rfl, ?_, ?_⟩⟩
            · (with_reducible repeat' first | exact go | exact ga | exact gb | refine GA.app ?_ ?_ | refine GA.push ?_ ?_ | refine GA.ext ?_ _ _ | refine GA.rev ?_ | exact GA.gk ga hu | exact GA.gk gb hu | exact GA.gk gb hv)
            · (simp only [Array.size_append, Array.size_extract, Array.size_push, Array.size_reverse]; omega)
          refine wpS_bind (w_elem (by omega) fun u hu => wpS_bind (w_gal hk4 gb (ga _ _ hu) (by omega) (by omega) fun k2 hk2' => ?_))
          try dsimp only
          refine w_ite (fun hq => ?_) (fun hq => ?_)
          · refine w_iteb (fun hq => ?_) (fun hq => ?_)
            · refine wpS_pure ⟨s4, .inl ⟨_, rfl, ?_, ?_⟩⟩
              · (with_reducible repeat' first | exact go | exact ga | exact gb | refine GA.app ?_ ?_ | refine GA.push ?_ ?_ | refine GA.ext ?_ _ _ | refine GA.rev ?_ | exact GA.gk ga hu | exact GA.gk gb hu | exact GA.gk gb hv)
              · (simp only [Array.size_append, Array.size_extract, Array.size_push, Array.size_reverse]; omega)
            refine wpS_bind (w_elem (by omega) fun u hu => ?_)
            refine w_iteb (fun hq => ?_) (fun hq => ?_)
            · refine wpS_pure ⟨s4, .inl ⟨_, rfl, ?_, ?_⟩⟩
              · (with_reducible repeat' first | exact go | exact ga | exact gb | refine GA.app ?_ ?_ | refine GA.push ?_ ?_ | refine GA.ext ?_ _ _ | refine GA.rev ?_ | exact GA.gk ga hu | exact GA.gk gb hu | exact GA.gk gb hv)
              · (simp only [Array.size_append, Array.size_extract, Array.size_push, Array.size_reverse]; omega)
            refine w_ite (fun h7 => ?_) (fun h7 => ?_)
            · refine wpS_pure ⟨s4, .inr ⟨_, _, _, _, _, _, rfl, ⟨?_, ?_, by omega, by omega⟩, ?_⟩⟩
              · (with_reducible repeat' first | exact go | exact ga | exact gb | refine GA.app ?_ ?_ | refine GA.push ?_ ?_ | refine GA.ext ?_ _ _ | refine GA.rev ?_ | exact GA.gk ga hu | exact GA.gk gb hu | exact GA.gk gb hv)
              · (simp only [Array.size_append, Array.size_extract, Array.size_push, Array.size_reverse]; omega)
              · (simp only [Array.size_append, Array.size_extract, Array.size_push, Array.size_reverse]; omega)
            · refine wpS_pure ⟨s4, _, _, _, _, _, _, rfl, ⟨?_, ?_, by omega, by omega⟩, ?_⟩
              · (with_reducible repeat' first | exact go | exact ga | exact gb | refine GA.app ?_ ?_ | refine GA.push ?_ ?_ | refine GA.ext ?_ _ _ | refine GA.rev ?_ | exact GA.gk ga hu | exact GA.gk gb hu | exact GA.gk gb hv)
              · (simp only [Array.size_append, Array.size_extract, Array.size_push, Array.size_reverse]; omega)
              · (simp only [Array.size_append, Array.size_extract, Array.size_push, Array.size_reverse]; omega)
          · skip
            refine wpS_bind (w_elem (by omega) fun u hu => ?_)
            refine w_iteb (fun hq => ?_) (fun hq => ?_)
            · refine wpS_pure ⟨s4, .inl ⟨_, rfl, ?_, ?_⟩⟩
              · (with_reducible repeat' first | exact go | exact ga | exact gb | refine GA.app ?_ ?_ | refine GA.push ?_ ?_ | refine GA.ext ?_ _ _ | refine GA.rev ?_ | exact GA.gk ga hu | exact GA.gk gb hu | exact GA.gk gb hv)
              · (simp only [Array.size_append, Array.size_extract, Array.size_push, Array.size_reverse]; omega)
            refine w_ite (fun h7 => ?_) (fun h7 => ?_)
            · refine wpS_pure ⟨s4, .inr ⟨_, _, _, _, _, _, rfl, ⟨?_, ?_, by omega, by omega⟩, ?_⟩⟩
              · (with_reducible repeat' first | exact go | exact ga | exact gb | refine GA.app ?_ ?_ | refine GA.push ?_ ?_ | refine GA.ext ?_ _ _ | refine GA.rev ?_ | exact GA.gk ga hu | exact GA.gk gb hu | exact GA.gk gb hv)
              · (simp only [Array.size_append, Array.size_extract, Array.size_push, Array.size_reverse]; omega)
              · (simp only [Array.size_append, Array.size_extract, Array.size_push, Array.size_reverse]; omega)
            · refine wpS_pure ⟨s4, _, _, _, _, _, _, rfl, ⟨?_, ?_, by omega, by omega⟩, ?_⟩
              · (with_reducible repeat' first | exact go | exact ga | exact gb | refine GA.app ?_ ?_ | refine GA.push ?_ ?_ | refine GA.ext ?_ _ _ | refine GA.rev ?_ | exact GA.gk ga hu | exact GA.gk gb hu | exact GA.gk gb hv)
              · (simp only [Array.size_append, Array.size_extract, Array.size_push, Array.size_reverse]; omega)
              · (simp only [Array.size_append, Array.size_extract, Array.size_push, Array.size_reverse]; omega)
        · skip
          refine wpS_bind (w_elem (by omega) fun v hv => ?_)
          refine w_iteb (fun hq => ?_) (fun hq => ?_)
          · refine wpS_pure ⟨s4, .inl ⟨_, rfl, ?_, ?_⟩⟩
            · (with_reducible repeat' first | exact go | exact ga | exact gb | refine GA.app ?_ ?_ | refine GA.push ?_ ?_ | refine GA.ext ?_ _ _ | refine GA.rev ?_ | exact GA.gk ga hu | exact GA.gk gb hu | exact GA.gk gb hv)
            · (simp only [Array.size_append, Array.size_extract, Array.size_push, Array.size_reverse]; omega)
          refine wpS_bind (w_elem (by omega) fun u hu => wpS_bind (w_gal hk4 gb (ga _ _ hu) (by omega) (by omega) fun k2 hk2' => ?_))
          try dsimp only
          refine w_ite (fun hq => ?_) (fun hq => ?_)
          · refine w_iteb (fun hq => ?_) (fun hq => ?_)
            · refine wpS_pure ⟨s4, .inl ⟨_, rfl, ?_, ?_⟩⟩
              · (with_reducible repeat' first | exact go | exact ga | exact gb | refine GA.app ?_ ?_ | refine GA.push ?_ ?_ | refine GA.ext ?_ _ _ | refine GA.rev ?_ | exact GA.gk ga hu | exact GA.gk gb hu | exact GA.gk gb hv)
              · (simp only [Array.size_append, Array.size_extract, Array.size_push, Array.size_reverse]; omega)
            refine wpS_bind (w_elem (by omega) fun u hu => ?_)
            refine w_iteb (fun hq => ?_) (fun hq => ?_)
            · refine wpS_pure ⟨s4, .inl ⟨_, rfl, ?_, ?_⟩⟩
              · (with_reducible repeat' first | exact go | exact ga | exact gb | refine GA.app ?_ ?_ | refine GA.push ?_ ?_ | refine GA.ext ?_ _ _ | refine GA.rev ?_ | exact GA.gk ga hu | exact GA.gk gb hu | exact GA.gk gb hv)
              · (simp only [Array.size_append, Array.size_extract, Array.size_push, Array.size_reverse]; omega)
            refine w_ite (fun h7 => ?_) (fun h7 => ?_)
            · refine wpS_pure ⟨s4, .inr ⟨_, _, _, _, _, _, rfl, ⟨?_, ?_, by omega, by omega⟩, ?_⟩⟩
              · (with_reducible repeat' first | exact go | exact ga | exact gb | refine GA.app ?_ ?_ | refine GA.push ?_ ?_ | refine GA.ext ?_ _ _ | refine GA.rev ?_ | exact GA.gk ga hu | exact GA.gk gb hu | exact GA.gk gb hv)
              · (simp only [Array.size_append, Array.size_extract, Array.size_push, Array.size_reverse]; omega)
              · (simp only [Array.size_append, Array.size_extract, Array.size_push, Array.size_reverse]; omega)
            · refine wpS_pure ⟨s4, _, _, _, _, _, _, rfl, ⟨?_, ?_, by omega, by omega⟩, ?_⟩
              · (with_reducible repeat' first | exact go | exact ga | exact gb | refine GA.app ?_ ?_ | refine GA.push ?_ ?_ | refine GA.ext ?_ _ _ | refine GA.rev ?_ | exact GA.gk ga hu | exact GA.gk gb hu | exact GA.gk gb hv)
              · (simp only [Array.size_append, Array.size_extract, Array.size_push, Array.size_reverse]; omega)
              · (simp only [Array.size_append, Array.size_extract, Array.size_push, Array.size_reverse]; omega)
          · skip
            refine wpS_bind (w_elem (by omega) fun u hu => ?_)
            refine w_iteb (fun hq => ?_) (fun hq => ?_)
            · refine wpS_pure ⟨s4, .inl ⟨_, rfl, ?_, ?_⟩⟩
              · (with_reducible repeat' first | exact go | exact ga | exact gb | refine GA.app ?_ ?_ | refine GA.push ?_ ?_ | refine GA.ext ?_ _ _ | refine GA.rev ?_ | exact GA.gk ga hu | exact GA.gk gb hu | exact GA.gk gb hv)
              · (simp only [Array.size_append, Array.size_extract, Array.size_push, Array.size_reverse]; omega)
            refine w_ite (fun h7 => ?_) (fun h7 => ?_)
            · refine wpS_pure ⟨s4, .inr ⟨_, _, _, _, _, _, rfl, ⟨?_, ?_, by omega, by omega⟩, ?_⟩⟩
              · (with_reducible repeat' first | exact go | exact ga | exact gb | refine GA.app ?_ ?_ | refine GA.push ?_ ?_ | refine GA.ext ?_ _ _ | refine GA.rev ?_ | exact GA.gk ga hu | exact GA.gk gb hu | exact GA.gk gb hv)
              · (simp only [Array.size_append, Array.size_extract, Array.size_push, Array.size_reverse]; omega)
              · (simp only [Array.size_append, Array.size_extract, Array.size_push, Array.size_reverse]; omega)
            · refine wpS_pure ⟨s4, _, _, _, _, _, _, rfl, ⟨?_, ?_, by omega, by omega⟩, ?_⟩
              · (with_reducible repeat' first | exact go | exact ga | exact gb | refine GA.app ?_ ?_ | refine GA.push ?_ ?_ | refine GA.ext ?_ _ _ | refine GA.rev ?_ | exact GA.gk ga hu | exact GA.gk gb hu | exact GA.gk gb hv)
              · (simp only [Array.size_append, Array.size_extract, Array.size_push, Array.size_reverse]; omega)
              · (simp only [Array.size_append, Array.size_extract, Array.size_push, Array.size_reverse]; omega)
end
end SM

namespace SM
open PySem PyProof.Rows
variable {S : Int → Prop}
structure Mu (S : Int → Prop) (a b out : Array Keyed) (na nb : Nat) : Prop where
  go : GA S out
  sz : out.size + na + nb = a.size + b.size
  na : 1 ≤ na ∧ na ≤ a.size
  nb : 2 ≤ nb ∧ nb ≤ b.size
section
variable {w : World} {prog : Program} {s : Shared} {A : Around} {E : Value → Shared → Prop}
set_option maxHeartbeats 4567000 in
theorem w_mHi {a b : Array Keyed} {st : SortSt} {Q : Array Keyed → SortSt → Prop} (hk : kindOf st = oneType') (ga : GA S a) (gb : GA S b) (ha : 0 < a.size) (hb : 0 < b.size)
    (h : ∀ (out : Array Keyed) (st' : SortSt), Res S a b out → SS st st' → Q out st') : wpS (model prog w) A E s (mHi a b) Q st := by
  unfold mHi
  refine wpS_bind (wpS_lift (wpAny_rule (And.intro rfl ?_)))
  refine wpS_bind (w_elem (by omega) fun b0 hb0 => ?_)
  have g0 := GA.one (ga _ _ hb0)
  have SS0 : SS st st := ⟨rfl, rfl, rfl, rfl⟩
  try dsimp only
  refine w_iteb (fun q1 => ?_) (fun q1 => ?_)
  · refine wpS_pure (h _ _ ⟨by (with_reducible repeat' first | exact g0 | exact ga | exact gb | refine GA.app ?_ ?_ | refine GA.ext ?_ _ _ | refine GA.rev ?_), ?_⟩ SS0)
    (simp only [Array.size_append, Array.size_extract, Array.size_reverse, List.size_toArray, List.length_singleton]; omega)
  refine w_iteb (fun q2 => ?_) (fun q2 => ?_)
  · refine wpS_pure (h _ _ ⟨by (with_reducible repeat' first | exact g0 | exact ga | exact gb | refine GA.app ?_ ?_ | refine GA.ext ?_ _ _ | refine GA.rev ?_), ?_⟩ SS0)
    (simp only [Array.size_append, Array.size_extract, Array.size_reverse, List.size_toArray, List.length_singleton]; omega)
  refine wpS_bind (wpS_get ?_)
  refine wpS_bind (wpS_mono (wpS_forRange (I := fun x c st' => SS st st' ∧ ∃ out na nb mg, c = (none, na, nb, out, mg) ∧ Mu S a b out na nb ∧ 1 + x ≤ out.size)
    (Q := fun c st' => SS st st' ∧ ∃ r, c.1 = some r ∧ Res S a b r) ?step ?fin ⟨SS0, _, _, _, _, rfl, ⟨g0, by simp only [List.size_toArray, List.length_singleton]; omega, by omega, by omega⟩, by simp⟩) ?post)
  case fin =>
    rintro c st' ⟨_, out, na, nb, mg, _, M, hx⟩
    have := M.sz
    omega
  case post =>
    rintro c st' ⟨s1, r, hr, R⟩
    try dsimp only
    rw [hr]
    exact wpS_pure (h r st' R s1)
  clear h hb0 g0 SS0 q1 q2 ha hb
  rintro x c st1 hx0 hx ⟨s1, out, na, nb, mg, rfl, M, hout⟩
  clear hx0 hx
  try dsimp only
  have hk1 : kindOf st1 = oneType' := s1.1.trans hk
  refine wpS_bind (wpS_mono (wpS_forRange (I := fun y c st2 => st2 = st1 ∧ ∃ o ja jb p q, c = (none, ja, jb, o, p, q) ∧ Mu S a b o ja jb ∧ out.size + y ≤ o.size)
    (Q := fun c st2 => st2 = st1 ∧ ((∃ r, c.1 = some r ∧ Res S a b r) ∨ ∃ o ja jb p q, c = (none, ja, jb, o, p, q) ∧ Mu S a b o ja jb ∧ out.size + 1 ≤ o.size)) ?step1 ?fin1 ⟨rfl, _, _, _, _, _, rfl, M, by simp⟩) ?post1)
  case fin1 =>
    rintro c st' ⟨_, o, ja, jb, p, q, _, M1, hx⟩
    have := M1.sz
    omega
  case step1 =>
    clear hout M
    rintro y c st2 hy0 hy1 ⟨rfl, o, ja, jb, p, q, rfl, ⟨go, sz, hja, hjb⟩, hy⟩
    clear hy0 hy1
    try dsimp only
    refine wpS_bind (w_elem (by omega) fun v hv => wpS_bind (w_elem (by omega) fun u hu => wpS_bind (w_lt hk1 (gb _ _ hv) (ga _ _ hu) fun bw => ?_)))
    clear hv hu
    try dsimp only
    refine w_ite (fun _ => ?_) (fun _ => ?_)
    all_goals
      refine wpS_bind (w_elem (by omega) fun u hu => ?_)
      try dsimp only
      refine w_iteb (fun hq => ?_) (fun hq => ?_)
      · refine wpS_pure ⟨rfl, .inl ⟨_, rfl, ?_, ?_⟩⟩
        · (with_reducible repeat' first | exact go | exact ga | exact gb | refine GA.app ?_ ?_ | refine GA.push ?_ ?_ | refine GA.ext ?_ _ _ | refine GA.rev ?_ | exact GA.gk ga hu | exact GA.gk gb hu | exact GA.gk gb hv)
        · (simp only [Array.size_append, Array.size_extract, Array.size_push, Array.size_reverse]; omega)
      refine w_ite (fun _ => ?_) (fun _ => ?_)
      · refine wpS_pure ⟨rfl, .inr ⟨_, _, _, _, _, rfl, ⟨?_, ?_, by omega, by omega⟩, ?_⟩⟩
        · (with_reducible repeat' first | exact go | exact ga | exact gb | refine GA.app ?_ ?_ | refine GA.push ?_ ?_ | refine GA.ext ?_ _ _ | refine GA.rev ?_ | exact GA.gk ga hu | exact GA.gk gb hu | exact GA.gk gb hv)
        · (simp only [Array.size_append, Array.size_extract, Array.size_push, Array.size_reverse]; omega)
        · (simp only [Array.size_append, Array.size_extract, Array.size_push, Array.size_reverse]; omega)
      · refine wpS_pure ⟨rfl, _, _, _, _, _, rfl, ⟨?_, ?_, by omega, by omega⟩, ?_⟩
        · (with_reducible repeat' first | exact go | exact ga | exact gb | refine GA.app ?_ ?_ | refine GA.push ?_ ?_ | refine GA.ext ?_ _ _ | refine GA.rev ?_ | exact GA.gk ga hu | exact GA.gk gb hu | exact GA.gk gb hv)
        · (simp only [Array.size_append, Array.size_extract, Array.size_push, Array.size_reverse]; omega)
        · (simp only [Array.size_append, Array.size_extract, Array.size_push, Array.size_reverse]; omega)
  case post1 =>
    rintro c st2 ⟨rfl, ⟨r, hr, R⟩ | ⟨o, ja, jb, p, q, rfl, M1, hlt⟩⟩
    · try dsimp only
      rw [hr]
      exact wpS_pure ⟨s1, r, rfl, R⟩
    try dsimp only
    refine wpS_bind (wpS_lift (wpAny_rule (And.intro rfl ?_)))
    refine wpS_bind (wpS_mono (wpS_forRange (I := fun y c st3 => SS st st3 ∧ ∃ o2 ja jb mg p q, c = (none, ja, jb, o2, mg, p, q) ∧ Mu S a b o2 ja jb ∧ o.size + y ≤ o2.size)
      (Q := fun c st3 => SS st st3 ∧ ((∃ r, c.1 = some r ∧ Res S a b r) ∨ ∃ o2 ja jb mg p q, c = (none, ja, jb, o2, mg, p, q) ∧ Mu S a b o2 ja jb ∧ o.size ≤ o2.size)) ?step2 ?fin2 ⟨s1, _, _, _, _, _, _, rfl, M1, by simp⟩) ?post2)
    case fin2 =>
      rintro c st' ⟨_, o2, ja, jb, mg, p, q, _, M2, hx⟩
      have := M2.sz
      omega
    case post2 =>
      rintro c st3 ⟨s3, ⟨r, hr, R⟩ | ⟨o2, ja, jb, mg, p, q, rfl, M2, hlt2⟩⟩
      · try dsimp only
        rw [hr]
        exact wpS_pure ⟨s3, r, rfl, R⟩
      try dsimp only
      exact wpS_bind (w_set s3 fun st4 s4 => wpS_pure ⟨s4, _, _, _, _, rfl, M2, by omega⟩)
    case step2 =>
      clear hout M M1 hlt s1 hk1
      rintro y c st3 hy0 hy1 ⟨s3, o2, ja, jb, mg, p, q, rfl, ⟨go, sz, hja, hjb⟩, hy⟩
      clear hy0 hy1
      try dsimp only
      refine w_ite (fun hmg => ?_) (fun hmg => ?_)
      all_goals
        clear hmg
        refine wpS_bind (w_set s3 fun st4 s4 => ?_)
        have hk4 : kindOf st4 = oneType' := s4.1.trans hk
        refine wpS_bind (w_elem (by omega) fun v hv => wpS_bind (w_gal hk4 ga (gb _ _ hv) (by omega) (by omega) fun k hk' => ?_))
        try dsimp only
        refine w_ite (fun hq => ?_) (fun hq => ?_)
        · refine w_iteb (fun hq => ?_) (fun hq => ?_)
          · refine wpS_pure ⟨s4, .inl ⟨_, rfl, ?_, ?_⟩⟩
            · (with_reducible repeat' first | exact go | exact ga | exact gb | refine GA.app ?_ ?_ | refine GA.push ?_ ?_ | refine GA.ext ?_ _ _ | refine GA.rev ?_ | exact GA.gk ga hu | exact GA.gk gb hu | exact GA.gk gb hv)
            · (simp only [Array.size_append, Array.size_extract, Array.size_push, Array.size_reverse]; omega)
          refine wpS_bind (w_elem (by omega) fun v hv => ?_)
          refine w_iteb (fun hq => ?_) (fun hq => ?_)
          · refine wpS_pure ⟨s4, .inl ⟨_, rfl, ?_, ?_⟩⟩
            · (with_reducible repeat' first | exact go | exact ga | exact gb | refine GA.app ?_ ?_ | refine GA.push ?_ ?_ | refine GA.ext ?_ _ _ | refine GA.rev ?_ | exact GA.gk ga hu | exact GA.gk gb hu | exact GA.gk gb hv)
            · (simp only [Array.size_append, Array.size_extract, Array.size_push, Array.size_reverse]; omega)
          refine wpS_bind (w_elem (by omega) fun u hu => wpS_bind (w_gal hk4 gb (ga _ _ hu) (by omega) (by omega) fun k2 hk2' => ?_))
          try dsimp only
          refine w_ite (fun hq => ?_) (fun hq => ?_)
          · refine w_iteb (fun hq => ?_) (fun hq => ?_)
            · refine wpS_pure ⟨s4, .inl ⟨_, rfl, ?_, ?_⟩⟩
              · (with_reducible repeat' first | exact go | exact ga | exact gb | refine GA.app ?_ ?_ | refine GA.push ?_ ?_ | refine GA.ext ?_ _ _ | refine GA.rev ?_ | exact GA.gk ga hu | exact GA.gk gb hu | exact GA.gk gb hv)
              · (simp only [Array.size_append, Array.size_extract, Array.size_push, Array.size_reverse]; omega)
            refine w_iteb (fun hq => ?_) (fun hq => ?_)
            · refine wpS_pure ⟨s4, .inl ⟨_, rfl, ?_, ?_⟩⟩
              · (with_reducible repeat' first | exact go | exact ga | exact gb | refine GA.app ?_ ?_ | refine GA.push ?_ ?_ | refine GA.ext ?_ _ _ | refine GA.rev ?_ | exact GA.gk ga hu | exact GA.gk gb hu | exact GA.gk gb hv)
              · (simp only [Array.size_append, Array.size_extract, Array.size_push, Array.size_reverse]; omega)
            refine wpS_bind (w_elem (by omega) fun u hu => ?_)
            refine w_iteb (fun hq => ?_) (fun hq => ?_)
            · refine wpS_pure ⟨s4, .inl ⟨_, rfl, ?_, ?_⟩⟩
              · (with_reducible repeat' first | exact go | exact ga | exact gb | refine GA.app ?_ ?_ | refine GA.push ?_ ?_ | refine GA.ext ?_ _ _ | refine GA.rev ?_ | exact GA.gk ga hu | exact GA.gk gb hu | exact GA.gk gb hv)
              · (simp only [Array.size_append, Array.size_extract, Array.size_push, Array.size_reverse]; omega)
            refine w_ite (fun h7 => ?_) (fun h7 => ?_)
            · refine wpS_pure ⟨s4, .inr ⟨_, _, _, _, _, _, rfl, ⟨?_, ?_, by omega, by omega⟩, ?_⟩⟩
              · (with_reducible repeat' first | exact go | exact ga | exact gb | refine GA.app ?_ ?_ | refine GA.push ?_ ?_ | refine GA.ext ?_ _ _ | refine GA.rev ?_ | exact GA.gk ga hu | exact GA.gk gb hu | exact GA.gk gb hv)
              · (simp only [Array.size_append, Array.size_extract, Array.size_push, Array.size_reverse]; omega)
              · (simp only [Array.size_append, Array.size_extract, Array.size_push, Array.size_reverse]; omega)
            · refine wpS_pure ⟨s4, _, _, _, _, _, _, rfl, ⟨?_, ?_, by omega, by omega⟩, ?_⟩
              · (with_reducible repeat' first | exact go | exact ga | exact gb | refine GA.app ?_ ?_ | refine GA.push ?_ ?_ | refine GA.ext ?_ _ _ | refine GA.rev ?_ | exact GA.gk ga hu | exact GA.gk gb hu | exact GA.gk gb hv)
              · (simp only [Array.size_append, Array.size_extract, Array.size_push, Array.size_reverse]; omega)
              · (simp only [Array.size_append, Array.size_extract, Array.size_push, Array.size_reverse]; omega)
          · skip
            refine wpS_bind (w_elem (by omega) fun u hu => ?_)
            refine w_iteb (fun hq => ?_) (fun hq => ?_)
            · refine wpS_pure ⟨s4, .inl ⟨_, rfl, ?_, ?_⟩⟩
              · (with_reducible repeat' first | exact go | exact ga | exact gb | refine GA.app ?_ ?_ | refine GA.push ?_ ?_ | refine GA.ext ?_ _ _ | refine GA.rev ?_ | exact GA.gk ga hu | exact GA.gk gb hu | exact GA.gk gb hv)
              · (simp only [Array.size_append, Array.size_extract, Array.size_push, Array.size_reverse]; omega)
            refine w_ite (fun h7 => ?_) (fun h7 => ?_)
            · refine wpS_pure ⟨s4, .inr ⟨_, _, _, _, _, _, rfl, ⟨?_, ?_, by omega, by omega⟩, ?_⟩⟩
              · (with_reducible repeat' first | exact go | exact ga | exact gb | refine GA.app ?_ ?_ | refine GA.push ?_ ?_ | refine GA.ext ?_ _ _ | refine GA.rev ?_ | exact GA.gk ga hu | exact GA.gk gb hu | exact GA.gk gb hv)
              · (simp only [Array.size_append, Array.size_extract, Array.size_push, Array.size_reverse]; omega)
              · (simp only [Array.size_append, Array.size_extract, Array.size_push, Array.size_reverse]; omega)
            · refine wpS_pure ⟨s4, _, _, _, _, _, _, rfl, ⟨?_, ?_, by omega, by omega⟩, ?_⟩
              · (with_reducible repeat' first | exact go | exact ga | exact gb | refine GA.app ?_ ?_ | refine GA.push ?_ ?_ | refine GA.ext ?_ _ _ | refine GA.rev ?_ | exact GA.gk ga hu | exact GA.gk gb hu | exact GA.gk gb hv)
              · (simp only [Array.size_append, Array.size_extract, Array.size_push, Array.size_reverse]; omega)
              · (simp only [Array.size_append, Array.size_extract, Array.size_push, Array.size_reverse]; omega)
        · skip
          refine wpS_bind (w_elem (by omega) fun v hv => ?_)
          refine w_iteb (fun hq => ?_) (fun hq => ?_)
          · refine wpS_pure ⟨s4, .inl ⟨_, rfl, ?_, ?_⟩⟩
            · (with_reducible repeat' first | exact go | exact ga | exact gb | refine GA.app ?_ ?_ | refine GA.push ?_ ?_ | refine GA.ext ?_ _ _ | refine GA.rev ?_ | exact GA.gk ga hu | exact GA.gk gb hu | exact GA.gk gb hv)
            · (simp only [Array.size_append, Array.size_extract, Array.size_push, Array.size_reverse]; omega)
          refine wpS_bind (w_elem (by omega) fun u hu => wpS_bind (w_gal hk4 gb (ga _ _ hu) (by omega) (by omega) fun k2 hk2' => ?_))
          try dsimp only
          refine w_ite (fun hq => ?_) (fun hq => ?_)
          · refine w_iteb (fun hq => ?_) (fun hq => ?_)
            · refine wpS_pure ⟨s4, .inl ⟨_, rfl, ?_, ?_⟩⟩
              · (with_reducible repeat' first | exact go | exact ga | exact gb | refine GA.app ?_ ?_ | refine GA.push ?_ ?_ | refine GA.ext ?_ _ _ | refine GA.rev ?_ | exact GA.gk ga hu | exact GA.gk gb hu | exact GA.gk gb hv)
              · (simp only [Array.size_append, Array.size_extract, Array.size_push, Array.size_reverse]; omega)
            refine w_iteb (fun hq => ?_) (fun hq => ?_)
            · refine wpS_pure ⟨s4, .inl ⟨_, rfl, ?_, ?_⟩⟩
              · (with_reducible repeat' first | exact go | exact ga | exact gb | refine GA.app ?_ ?_ | refine GA.push ?_ ?_ | refine GA.ext ?_ _ _ | refine GA.rev ?_ | exact GA.gk ga hu | exact GA.gk gb hu | exact GA.gk gb hv)
              · (simp only [Array.size_append, Array.size_extract, Array.size_push, Array.size_reverse]; omega)
            refine wpS_bind (w_elem (by omega) fun u hu => ?_)
            refine w_iteb (fun hq => ?_) (fun hq => ?_)
            · refine wpS_pure ⟨s4, .inl ⟨_, rfl, ?_, ?_⟩⟩
              · (with_reducible repeat' first | exact go | exact ga | exact gb | refine GA.app ?_ ?_ | refine GA.push ?_ ?_ | refine GA.ext ?_ _ _ | refine GA.rev ?_ | exact GA.gk ga hu | exact GA.gk gb hu | exact GA.gk gb hv)
              · (simp only [Array.size_append, Array.size_extract, Array.size_push, Array.size_reverse]; omega)
            refine w_ite (fun h7 => ?_) (fun h7 => ?_)
            · refine wpS_pure ⟨s4, .inr ⟨_, _, _, _, _, _, rfl, ⟨?_, ?_, by omega, by omega⟩, ?_⟩⟩
              · (with_reducible repeat' first | exact go | exact ga | exact gb | refine GA.app ?_ ?_ | refine GA.push ?_ ?_ | refine GA.ext ?_ _ _ | refine GA.rev ?_ | exact GA.gk ga hu | exact GA.gk gb hu | exact GA.gk gb hv)
              · (simp only [Array.size_append, Array.size_extract, Array.size_push, Array.size_reverse]; omega)
              · (simp only [Array.size_append, Array.size_extract, Array.size_push, Array.size_reverse]; omega)
            · refine wpS_pure ⟨s4, _, _, _, _, _, _, rfl, ⟨?_, ?_, by omega, by omega⟩, ?_⟩
              · (with_reducible repeat' first | exact go | exact ga | exact gb | refine GA.app ?_ ?_ | refine GA.push ?_ ?_ | refine GA.ext ?_ _ _ | refine GA.rev ?_ | exact GA.gk ga hu | exact GA.gk gb hu | exact GA.gk gb hv)
              · (simp only [Array.size_append, Array.size_extract, Array.size_push, Array.size_reverse]; omega)
              · (simp only [Array.size_append, Array.size_extract, Array.size_push, Array.size_reverse]; omega)
          · skip
            refine wpS_bind (w_elem (by omega) fun u hu => ?_)
            refine w_iteb (fun hq => ?_) (fun hq => ?_)
            · refine wpS_pure ⟨s4, .inl ⟨_, rfl, ?_, ?_⟩⟩
              · (with_reducible repeat' first | exact go | exact ga | exact gb | refine GA.app ?_ ?_ | refine GA.push ?_ ?_ | refine GA.ext ?_ _ _ | refine GA.rev ?_ | exact GA.gk ga hu | exact GA.gk gb hu | exact GA.gk gb hv)
              · (simp only [Array.size_append, Array.size_extract, Array.size_push, Array.size_reverse]; omega)
            refine w_ite (fun h7 => ?_) (fun h7 => ?_)
            · refine wpS_pure ⟨s4, .inr ⟨_, _, _, _, _, _, rfl, ⟨?_, ?_, by omega, by omega⟩, ?_⟩⟩
              · (with_reducible repeat' first | exact go | exact ga | exact gb | refine GA.app ?_ ?_ | refine GA.push ?_ ?_ | refine GA.ext ?_ _ _ | refine GA.rev ?_ | exact GA.gk ga hu | exact GA.gk gb hu | exact GA.gk gb hv)
              · (simp only [Array.size_append, Array.size_extract, Array.size_push, Array.size_reverse]; omega)
              · (simp only [Array.size_append, Array.size_extract, Array.size_push, Array.size_reverse]; omega)
            · refine wpS_pure ⟨s4, _, _, _, _, _, _, rfl, ⟨?_, ?_, by omega, by omega⟩, ?_⟩
              · (with_reducible repeat' first | exact go | exact ga | exact gb | refine GA.app ?_ ?_ | refine GA.push ?_ ?_ | refine GA.ext ?_ _ _ | refine GA.rev ?_ | exact GA.gk ga hu | exact GA.gk gb hu | exact GA.gk gb hv)
              · (simp only [Array.size_append, Array.size_extract, Array.size_push, Array.size_reverse]; omega)
              · (simp only [Array.size_append, Array.size_extract, Array.size_push, Array.size_reverse]; omega)
end
end SM

namespace SM
open PySem PyProof.Rows
variable {S : Int → Prop}
theorem GA.perm {xs ys : Array Keyed} (g : GA S xs) (p : ys.Perm xs) : GA S ys := fun i q e => by
  have h1 : q ∈ ys.toList := by
    have := Array.mem_of_getElem? e
    simpa using this
  have h2 : q ∈ xs.toList := (Array.perm_iff_toList_perm.mp p).mem_iff.mp h1
  obtain ⟨j, hj, e2⟩ := List.getElem_of_mem h2
  have hjs : j < xs.size := by simpa using hj
  exact g j q (by rw [getElem?_pos xs j hjs]; simpa using e2)
structure SI (S : Int → Prop) (n : Nat) (st : SortSt) : Prop where
  kind : kindOf st = oneType'
  failed : failedOf st = none
  ga : GA S (arrOf st)
  size : (arrOf st).size = n
theorem SI.arr {n : Nat} {st : SortSt} {xs : Array Keyed} (I : SI S n st) (p : xs.Perm (arrOf st)) : SI S n (setArr st xs) := ⟨I.kind, I.failed, I.ga.perm p, p.size_eq.trans I.size⟩
def SP (S : Int → Prop) (n : Nat) (p : Array (Nat × Nat × Nat)) (st : SortSt) : Prop := SI S n st ∧ pendingOf st = p
section
variable {w : World} {prog : Program} {s : Shared} {A : Around} {E : Value → Shared → Prop} {n : Nat} {pp : Array (Nat × Nat × Nat)}
theorem w_ltAt {st : SortSt} {i j : Nat} {Q : Option Bool → SortSt → Prop} (I : SI S n st) (hi : i < n) (hj : j < n) (h : ∀ b, Q (some b) st) : wpS (model prog w) A E s (ltAt' i j) Q st := by
  rw [ltAt'_eq]
  refine wpS_bind (wpS_get ?_)
  exact wpS_bind (w_elem (by rw [I.size]; exact hi) fun x hx => wpS_bind (w_elem (by rw [I.size]; exact hj) fun y hy => w_lt I.kind (I.ga _ _ hx) (I.ga _ _ hy) h))
theorem w_rev {st : SortSt} {i j : Nat} {Q : Unit → SortSt → Prop} (I : SP S n pp st) (h : ∀ st', SP S n pp st' → Q () st') : wpS (model prog w) A E s (reverseSlice' i j) Q st := by
  rw [reverseSlice'_eq]
  exact wpS_modify (h _ ⟨I.1.arr (mirror_perm _ _ _ _), I.2⟩)
theorem w_move {st : SortSt} {i j : Nat} {Q : Unit → SortSt → Prop} (I : SP S n pp st) (h : ∀ st', SP S n pp st' → Q () st') : wpS (model prog w) A E s (moveDown' i j) Q st := by
  rw [moveDown'_eq]
  exact wpS_modify (h _ ⟨I.1.arr (bubble_perm _ _ _), I.2⟩)
theorem w_bin {st : SortSt} {lo m ok : Nat} {Q : Bool → SortSt → Prop} (I : SP S n pp st) (hm : lo + m ≤ n) (h : ∀ st', SP S n pp st' → Q true st') : wpS (model prog w) A E s (binarySort' lo m ok) Q st := by
  refine wpS_bind (wpS_mono (wpS_forRange (I := fun _ c st' => c = (none, ()) ∧ SP S n pp st') (Q := fun c st' => c = (none, ()) ∧ SP S n pp st') ?step (fun _ _ q => q) ⟨rfl, I⟩) ?post)
  case post =>
    rintro c st' ⟨rfl, I'⟩
    exact wpS_pure (h st' I')
  rintro k c st1 _ hk ⟨rfl, I1⟩
  try dsimp only
  refine wpS_bind (wpS_mono (wpS_forRange (I := fun _ c st' => st' = st1 ∧ ∃ l r, c = (none, l, r) ∧ r ≤ k) (Q := fun c st' => st' = st1 ∧ ∃ l r, c = (none, l, r)) ?stepi (fun c st' ⟨e, l, r, q, _⟩ => ⟨e, l, r, q⟩) ⟨rfl, _, _, rfl, Nat.le_refl _⟩) ?posti)
  case posti =>
    rintro c st' ⟨rfl, l, r, rfl⟩
    exact wpS_bind (w_move I1 fun st2 I2 => wpS_pure ⟨rfl, I2⟩)
  rintro x c st' _ _ ⟨rfl, l, r, rfl, hr⟩
  try dsimp only
  refine w_ite (fun _ => wpS_pure ⟨rfl, _, _, rfl⟩) (fun hq => ?_)
  refine wpS_bind (w_ltAt I1.1 (by omega) (by omega) fun b => ?_)
  try dsimp only
  exact w_ite (fun _ => wpS_pure ⟨rfl, _, _, rfl, by omega⟩) (fun _ => wpS_pure ⟨rfl, _, _, rfl, hr⟩)
theorem w_run {st : SortSt} {lo m : Nat} {Q : Option Nat → SortSt → Prop} (I : SP S n pp st) (h1 : 1 ≤ m) (hm : lo + m ≤ n) (h : ∀ k st', 1 ≤ k → k ≤ m → SP S n pp st' → Q (some k) st') : wpS (model prog w) A E s (countRun' lo m) Q st := by
  refine wpS_bind (wpS_mono (wpS_forRange (I := fun x c st' => st' = st ∧ c = (none, x)) (Q := fun c st' => st' = st ∧ ∃ k, c = (none, k) ∧ 1 ≤ k ∧ k ≤ m) ?s1 ?f1 ⟨rfl, rfl⟩) ?p1)
  case f1 =>
    rintro c st' ⟨rfl, rfl⟩
    exact ⟨rfl, _, rfl, by omega, by omega⟩
  case s1 =>
    rintro x c st' h1x hxm ⟨rfl, rfl⟩
    try dsimp only
    refine wpS_bind (w_ltAt I.1 (by omega) (by omega) fun b => ?_)
    try dsimp only
    exact w_ite (fun _ => wpS_pure ⟨rfl, _, rfl, by omega, by omega⟩) (fun _ => wpS_pure ⟨rfl, rfl⟩)
  rintro c st' ⟨rfl, k, rfl, hk1, hkm⟩
  try dsimp only
  refine w_iteb (fun hq => wpS_pure (h k _ hk1 hkm I)) (fun hq => ?_)
  have tail : ∀ (st2 : SortSt) (j : Nat) (Q' : Option (Option Nat) × Nat → SortSt → Prop), SP S n pp st2 → 1 ≤ j → j ≤ m → (∀ k, 1 ≤ k → k ≤ m → Q' (none, k) st2) → wpS (model prog w) A E s (forIn [j:m] ((none, j) : Option (Option Nat) × Nat) fun _ c => (do
      let b ← ltAt' (lo + c.2) (lo + c.2 - 1)
      match b with
        | some sm => if sm = true then pure (ForInStep.done (none, c.2)) else pure (ForInStep.yield (none, c.2 + 1))
        | _ => pure (ForInStep.done (some none, c.2)))) Q' st2 := fun st2 j Q' I2 hj1 hjm q => by
    refine wpS_forRange (I := fun x c st3 => st3 = st2 ∧ c = (none, x)) ?_ ?_ ⟨rfl, rfl⟩
    · rintro x c st3 hx hxm ⟨rfl, rfl⟩
      refine wpS_bind (w_ltAt I2.1 (by show lo + x < n; omega) (by show lo + x - 1 < n; omega) fun b => ?_)
      exact w_ite (fun _ => wpS_pure (q x (by omega) (by omega))) (fun _ => wpS_pure ⟨rfl, rfl⟩)
    · rintro c st3 ⟨rfl, rfl⟩
      exact q _ (by omega) (by omega)
  refine w_ite (fun hq => ?_) (fun hq => ?_)
  · refine wpS_bind (w_ltAt I.1 (by omega) (by omega) fun b => ?_)
    try dsimp only
    refine w_ite (fun _ => wpS_pure (h k _ hk1 hkm I)) (fun _ => ?_)
    refine wpS_bind (w_rev I fun st1 I1 => ?_)
    refine wpS_bind (wpS_lift (wpAny_rule (And.intro rfl ?_)))
    refine wpS_bind (wpS_mono (wpS_forRange (I := fun x c st2 => SP S n pp st2 ∧ ∃ q, c = (none, x, q)) (Q := fun c st2 => SP S n pp st2 ∧ ∃ j q, c = (none, j, q) ∧ 1 ≤ j ∧ j ≤ m) ?_ ?_ ⟨I1, _, rfl⟩) ?_)
    · rintro x c st2 hx hxm ⟨I2, q, rfl⟩
      try dsimp only
      refine wpS_bind (w_ltAt I2.1 (by omega) (by omega) fun b => ?_)
      try dsimp only
      refine w_ite (fun _ => ?_) (fun _ => ?_)
      · exact w_ite (fun _ => wpS_bind (w_rev I2 fun st3 I3 => wpS_pure ⟨I3, _, rfl⟩)) (fun _ => wpS_pure ⟨I2, _, rfl⟩)
      · refine wpS_bind (w_ltAt I2.1 (by omega) (by omega) fun b => ?_)
        try dsimp only
        exact w_ite (fun _ => wpS_pure ⟨I2, _, _, rfl, by omega, by omega⟩) (fun _ => wpS_pure ⟨I2, _, rfl⟩)
    · rintro c st2 ⟨I2, q, rfl⟩
      exact ⟨I2, _, _, rfl, by omega, by omega⟩
    rintro c st2 ⟨I2, j, q, rfl, hj1, hjm⟩
    try dsimp only
    refine w_ite (fun _ => wpS_bind (w_rev I2 fun st3 I3 => ?_)) (fun _ => ?_)
    · exact wpS_bind (w_rev I3 fun st4 I4 => wpS_bind (tail st4 j _ I4 hj1 hjm fun k' h1' h2' => wpS_pure (h k' _ h1' h2' I4)))
    · exact wpS_bind (w_rev I2 fun st4 I4 => wpS_bind (tail st4 j _ I4 hj1 hjm fun k' h1' h2' => wpS_pure (h k' _ h1' h2' I4)))
  · have I1 := I
    refine wpS_bind (wpS_lift (wpAny_rule (And.intro rfl ?_)))
    refine wpS_bind (wpS_mono (wpS_forRange (I := fun x c st2 => SP S n pp st2 ∧ ∃ q, c = (none, x, q)) (Q := fun c st2 => SP S n pp st2 ∧ ∃ j q, c = (none, j, q) ∧ 1 ≤ j ∧ j ≤ m) ?_ ?_ ⟨I1, _, rfl⟩) ?_)
    · rintro x c st2 hx hxm ⟨I2, q, rfl⟩
      try dsimp only
      refine wpS_bind (w_ltAt I2.1 (by omega) (by omega) fun b => ?_)
      try dsimp only
      refine w_ite (fun _ => ?_) (fun _ => ?_)
      · exact w_ite (fun _ => wpS_bind (w_rev I2 fun st3 I3 => wpS_pure ⟨I3, _, rfl⟩)) (fun _ => wpS_pure ⟨I2, _, rfl⟩)
      · refine wpS_bind (w_ltAt I2.1 (by omega) (by omega) fun b => ?_)
        try dsimp only
        exact w_ite (fun _ => wpS_pure ⟨I2, _, _, rfl, by omega, by omega⟩) (fun _ => wpS_pure ⟨I2, _, rfl⟩)
    · rintro c st2 ⟨I2, q, rfl⟩
      exact ⟨I2, _, _, rfl, by omega, by omega⟩
    rintro c st2 ⟨I2, j, q, rfl, hj1, hjm⟩
    try dsimp only
    refine w_ite (fun _ => wpS_bind (w_rev I2 fun st3 I3 => ?_)) (fun _ => ?_)
    · exact wpS_bind (w_rev I3 fun st4 I4 => wpS_bind (tail st4 j _ I4 hj1 hjm fun k' h1' h2' => wpS_pure (h k' _ h1' h2' I4)))
    · exact wpS_bind (w_rev I2 fun st4 I4 => wpS_bind (tail st4 j _ I4 hj1 hjm fun k' h1' h2' => wpS_pure (h k' _ h1' h2' I4)))
def Tiles : Nat → List (Nat × Nat × Nat) → Nat → Prop
  | s, [], e => s = e
  | s, x :: r, e => x.1 = s ∧ 1 ≤ x.2.1 ∧ Tiles (s + x.2.1) r e
end
theorem Tiles.le : ∀ {l : List (Nat × Nat × Nat)} {s e : Nat}, Tiles s l e → s ≤ e
  | [], _, _, h => Nat.le_of_eq h
  | x :: r, s, e, h => by have := Tiles.le h.2.2; omega
theorem Tiles.push : ∀ {l : List (Nat × Nat × Nat)} {s e k q : Nat}, Tiles s l e → 1 ≤ k → Tiles s (l ++ [(e, k, q)]) (e + k)
  | [], s, e, k, q, h, hk => by cases (show s = e from h); exact ⟨rfl, hk, rfl⟩
  | x :: r, s, e, k, q, h, hk => ⟨h.1, h.2.1, Tiles.push h.2.2 hk⟩
theorem Tiles.merge : ∀ {l : List (Nat × Nat × Nat)} {i s e : Nat} {x y : Nat × Nat × Nat}, Tiles s l e → l[i]? = some x → l[i + 1]? = some y →
    (y.1 = x.1 + x.2.1 ∧ 1 ≤ x.2.1 ∧ 1 ≤ y.2.1 ∧ y.1 + y.2.1 ≤ e) ∧ Tiles s ((l.set i (x.1, x.2.1 + y.2.1, x.2.2)).eraseIdx (i + 1)) e
  | [], i, s, e, x, y, h, h1, _ => by simp at h1
  | [z], i, s, e, x, y, h, _, h2 => by simp at h2
  | z :: z' :: r, 0, s, e, x, y, h, h1, h2 => by
    simp at h1 h2
    subst h1 h2
    obtain ⟨a1, a2, b1, b2, c⟩ := h
    have := Tiles.le c
    refine ⟨⟨by omega, a2, b2, by omega⟩, a1, by show 1 ≤ z.2.1 + z'.2.1; omega, ?_⟩
    show Tiles (s + (z.2.1 + z'.2.1)) r e
    rw [← Nat.add_assoc]; exact c
  | z :: z' :: r, i + 1, s, e, x, y, h, h1, h2 => by
    obtain ⟨a1, a2, h⟩ := h
    obtain ⟨b, c⟩ := Tiles.merge (l := z' :: r) (i := i) h (by simpa using h1) (by simpa using h2)
    exact ⟨b, a1, a2, c⟩
theorem Tiles.mark {f : Nat × Nat × Nat → Nat × Nat × Nat} (hf : ∀ x, (f x).1 = x.1 ∧ (f x).2.1 = x.2.1) : ∀ {l : List (Nat × Nat × Nat)} {i s e : Nat}, Tiles s l e → Tiles s (l.modify i f) e
  | [], i, s, e, h => by cases i <;> exact h
  | x :: r, 0, s, e, h => by
    show Tiles s (f x :: r) e
    exact ⟨(hf x).1.trans h.1, by rw [(hf x).2]; exact h.2.1, by rw [(hf x).2]; exact h.2.2⟩
  | x :: r, i + 1, s, e, h => ⟨h.1, h.2.1, Tiles.mark hf h.2.2⟩
end SM

namespace SM
open PySem PyProof.Rows
variable {S : Int → Prop}
section
variable {w : World} {prog : Program} {s : Shared} {A : Around} {E : Value → Shared → Prop} {n : Nat}
theorem w_put {st st2 : SortSt} {Q : PUnit → SortSt → Prop} (h : Q ⟨⟩ st2) : wpS (model prog w) A E s (set st2 : StateT SortSt Sem PUnit) Q st := wpS_modify (f := fun _ => st2) h
theorem GA.set {xs : Array Keyed} {i : Nat} {p : Keyed} (g : GA S xs) (h : GK S p) : GA S (xs.setIfInBounds i p) := fun j q e => by
  rw [Array.getElem?_setIfInBounds] at e
  split at e
  · split at e
    · cases e; exact h
    · cases e
  · exact g j q e
theorem fold_set {m : Nat} : ∀ (l : List (Keyed × Nat)) (xs : Array Keyed), GA S xs → (∀ q ∈ l, GK S q.1) → GA S (l.foldl (fun a q => a.setIfInBounds (m + q.2) q.1) xs) ∧ (l.foldl (fun a q => a.setIfInBounds (m + q.2) q.1) xs).size = xs.size
  | [], xs, g, _ => ⟨g, rfl⟩
  | q :: l, xs, g, h => by
    obtain ⟨a, b⟩ := fold_set l (xs.setIfInBounds (m + q.2) q.1) (g.set (h q (List.mem_cons_self ..))) fun z hz => h z (List.mem_cons_of_mem _ hz)
    exact ⟨a, b.trans Array.size_setIfInBounds⟩
theorem w_mergeAt {st : SortSt} {i lo : Nat} {Q : Bool → SortSt → Prop} (I : SI S n st) (ht : Tiles 0 (pendingOf st).toList lo) (hlo : lo ≤ n) (hi : i + 1 < (pendingOf st).size)
    (h : ∀ st', SI S n st' → Tiles 0 (pendingOf st').toList lo → Q true st') : wpS (model prog w) A E s (mergeAt' i) Q st := by
  refine wpS_bind (wpS_get ?_)
  obtain ⟨x, hx⟩ : ∃ x, (pendingOf st)[i]? = some x := ⟨_, getElem?_pos _ i (by omega)⟩
  obtain ⟨y, hy⟩ : ∃ y, (pendingOf st)[i + 1]? = some y := ⟨_, getElem?_pos _ (i + 1) hi⟩
  obtain ⟨⟨e1, e2, e3, e4⟩, ht'⟩ := ht.merge (x := x) (y := y) (by rw [Array.getElem?_toList]; exact hx) (by rw [Array.getElem?_toList]; exact hy)
  obtain ⟨sa, na, pw⟩ := x
  obtain ⟨sb, nb, pb⟩ := y
  dsimp only at e1 e2 e3 e4 ht'
  try dsimp only
  rw [hx, hy]
  try dsimp only
  refine wpS_bind (w_put ?_)
  have hsz := I.size
  refine wpS_bind (w_elem (by show sb < (arrOf st).size; omega) fun kb hkb => ?_)
  have I1 : SI S n (SortSt.mk' (kindOf st) (arrOf st) (((pendingOf st).setIfInBounds i (sa, na + nb, pw)).eraseIdxIfInBounds (i + 1)) (gallopOf st) (failedOf st)) := ⟨I.kind, I.failed, I.ga, I.size⟩
  have T1 : Tiles 0 (pendingOf (SortSt.mk' (kindOf st) (arrOf st) (((pendingOf st).setIfInBounds i (sa, na + nb, pw)).eraseIdxIfInBounds (i + 1)) (gallopOf st) (failedOf st))).toList lo := by
    show Tiles 0 (((pendingOf st).setIfInBounds i (sa, na + nb, pw)).eraseIdxIfInBounds (i + 1)).toList lo
    rw [Array.toList_eraseIdxIfInBounds, Array.toList_setIfInBounds]
    exact ht'
  refine wpS_bind (w_gal I1.kind I.ga (I.ga _ _ hkb) (by omega) (by show sa + na ≤ (arrOf st).size; omega) fun k hk => ?_)
  try dsimp only
  refine w_iteb (fun hq => wpS_pure (h _ I1 T1)) (fun hq => ?_)
  refine wpS_bind (w_elem (by show sa + k + (na - k) - 1 < (arrOf st).size; omega) fun ka hka => ?_)
  refine wpS_bind (w_gal I1.kind I.ga (I.ga _ _ hka) (by omega) (by show sb + nb ≤ (arrOf st).size; omega) fun k2 hk2 => ?_)
  try dsimp only
  refine w_iteb (fun hq => wpS_pure (h _ I1 T1)) (fun hq => ?_)
  have done : ∀ (out : Array Keyed) (st2 : SortSt), GA S out → SS (SortSt.mk' (kindOf st) (arrOf st) (((pendingOf st).setIfInBounds i (sa, na + nb, pw)).eraseIdxIfInBounds (i + 1)) (gallopOf st) (failedOf st)) st2 →
      wpS (model prog w) A E s (do
        modify fun z => SortSt.mk' (kindOf z) (out.toList.zipIdx.foldl (fun a q => a.setIfInBounds (sa + k + q.2) q.1) (arrOf z)) (pendingOf z) (gallopOf z) (failedOf z)
        let z ← get
        pure (failedOf z).isNone) Q st2 := fun out st2 go ss => by
    refine wpS_bind (wpS_modify (wpS_bind (wpS_get ?_)))
    have f2 : failedOf st2 = none := ss.2.2.2.trans I.failed
    have ar2 : arrOf st2 = arrOf st := ss.2.1
    have pe2 := ss.2.2.1
    have fo := fold_set (m := sa + k) out.toList.zipIdx (arrOf st2) (by rw [ar2]; exact I.ga) fun q hq => by
      obtain ⟨p, j⟩ := q
      have := List.mk_mem_zipIdx_iff_getElem?.mp hq
      exact go j p (by rw [← Array.getElem?_toList]; exact this)
    refine wpS_pure ?_
    show Q (failedOf st2).isNone _
    rw [f2]
    refine h _ ⟨ss.1.trans I.kind, rfl, fo.1, fo.2.trans (by rw [ar2]; exact I.size)⟩ ?_
    show Tiles 0 (pendingOf st2).toList lo
    rw [pe2]
    exact T1
  refine w_ite (fun _ => ?_) (fun _ => ?_)
  · exact wpS_bind (w_mLo I1.kind (I.ga.ext _ _) (I.ga.ext _ _) (by show 0 < ((arrOf st).extract (sa + k) sb).size; rw [Array.size_extract]; omega) (by show 0 < ((arrOf st).extract sb (sb + k2)).size; rw [Array.size_extract]; omega) fun out st2 R ss => done out st2 R.go ss)
  · exact wpS_bind (w_mHi I1.kind (I.ga.ext _ _) (I.ga.ext _ _) (by show 0 < ((arrOf st).extract (sa + k) sb).size; rw [Array.size_extract]; omega) (by show 0 < ((arrOf st).extract sb (sb + k2)).size; rw [Array.size_extract]; omega) fun out st2 R ss => done out st2 R.go ss)
theorem ite_lt {c : Prop} [Decidable c] {a b m : Nat} (ha : a + 1 < m) (hb : b + 1 < m) : (if c then a else b) + 1 < m := by
  by_cases h : c
  · rw [if_pos h]; exact ha
  · rw [if_neg h]; exact hb
theorem w_runs {st : SortSt} {Q : Unit → SortSt → Prop} (I : SI S n st) (hp : pendingOf st = #[]) (h : ∀ st', SI S n st' → Q () st') : wpS (model prog w) A E s sortRuns' Q st := by
  rw [sortRuns'_eq]
  refine wpS_bind (wpS_get ?_)
  try dsimp only
  rw [I.size]
  generalize minRun' n n 0 = mr
  refine wpS_bind (wpS_mono (wpS_forRange (I := fun _ c st' => ∃ lo, c = (none, lo) ∧ lo ≤ n ∧ SI S n st' ∧ Tiles 0 (pendingOf st').toList lo) (Q := fun c st' => ∃ lo, c = (none, lo) ∧ lo ≤ n ∧ SI S n st' ∧ Tiles 0 (pendingOf st').toList lo) ?step (fun _ _ q => q) ⟨0, rfl, Nat.zero_le _, I, by rw [hp]; rfl⟩) ?post)
  case post =>
    rintro c st1 ⟨lo, rfl, hlo, I1, T1⟩
    try dsimp only
    refine wpS_bind (wpS_mono (wpS_forRange (I := fun _ c st' => c = (none, ()) ∧ SI S n st' ∧ Tiles 0 (pendingOf st').toList lo) (Q := fun c st' => c = (none, ()) ∧ SI S n st') ?_ (fun _ _ q => ⟨q.1, q.2.1⟩) ⟨rfl, I1, T1⟩) ?_)
    · rintro x c st2 _ _ ⟨rfl, I2, T2⟩
      try dsimp only
      refine wpS_bind (wpS_get ?_)
      refine w_ite (fun _ => wpS_pure ⟨rfl, I2⟩) (fun hq => ?_)
      refine wpS_bind (w_mergeAt I2 T2 hlo (ite_lt (by omega) (by omega)) fun st3 I3 T3 => ?_)
      exact wpS_pure ⟨rfl, I3, T3⟩
    · rintro c st2 ⟨rfl, I2⟩
      exact wpS_pure (h _ I2)
  rintro x c st1 _ _ ⟨lo, rfl, hlo, I1, T1⟩
  try dsimp only
  refine w_ite (fun _ => wpS_pure ⟨lo, rfl, hlo, I1, T1⟩) (fun hq => ?_)
  refine wpS_bind (w_run (n := n) (pp := pendingOf st1) ⟨I1, rfl⟩ (by omega) (by omega) fun k st2 hk1 hk2 I2 => ?_)
  have T2 : Tiles 0 (pendingOf st2).toList lo := by rw [I2.2]; exact T1
  have I2' := I2.1
  try dsimp only
  refine w_ite (fun hlt => ?_) (fun _ => ?_)
  · refine wpS_bind (wpS_lift (wpAny_rule (And.intro rfl ?_)))
    refine wpS_bind (w_bin I2 (by omega) fun st3 I3' => ?_)
    have T3 : Tiles 0 (pendingOf st3).toList lo := by rw [I3'.2]; exact T1
    have I3 := I3'.1
    obtain ⟨kk, hkk'⟩ : ∃ kk, min (n - lo) mr = kk := ⟨_, rfl⟩
    have hkk : 1 ≤ kk := by omega
    simp only [hkk', Bool.not_true, Bool.false_eq_true, if_false]
    refine wpS_bind (wpS_get ?_)
    cases hb : (pendingOf st3).back? with
    | none =>
      try dsimp only
      refine wpS_bind (wpS_modify (wpS_pure ⟨lo + kk, rfl, by omega, ⟨I3.kind, I3.failed, I3.ga, I3.size⟩, ?_⟩))
      show Tiles 0 ((pendingOf st3).push (lo, kk, 0)).toList (lo + kk)
      rw [Array.toList_push]
      exact T3.push hkk
    | some x =>
      obtain ⟨s1, n1, q1⟩ := x
      try dsimp only
      refine wpS_bind (wpS_mono (wpS_forRange (I := fun _ c st' => c = (none, ()) ∧ SI S n st' ∧ Tiles 0 (pendingOf st').toList lo) (Q := fun c st' => c = (none, ()) ∧ SI S n st' ∧ Tiles 0 (pendingOf st').toList lo) ?_ (fun _ _ q => q) ⟨rfl, I3, T3⟩) ?_)
      · rintro y c st4 _ _ ⟨rfl, I4, T4⟩
        try dsimp only
        refine wpS_bind (wpS_get ?_)
        by_cases hs : (pendingOf st4).size > 1
        · obtain ⟨z, hz⟩ : ∃ z, (pendingOf st4)[(pendingOf st4).size - 2]? = some z := ⟨_, getElem?_pos _ _ (by omega)⟩
          rw [if_pos hs, hz]
          obtain ⟨z1, z2, z3⟩ := z
          try dsimp only
          refine w_ite (fun _ => wpS_pure ⟨rfl, I4, T4⟩) (fun _ => ?_)
          exact wpS_bind (w_mergeAt I4 T4 hlo (by omega) fun st5 I5 T5 => wpS_pure ⟨rfl, I5, T5⟩)
        · rw [if_neg hs]
          exact wpS_pure ⟨rfl, I4, T4⟩
      · rintro c st4 ⟨rfl, I4, T4⟩
        try dsimp only
        refine wpS_bind (wpS_modify (wpS_bind (wpS_modify (wpS_pure ⟨lo + kk, rfl, by omega, ⟨I4.kind, I4.failed, I4.ga, I4.size⟩, ?_⟩))))
        rw [Array.toList_push, Array.toList_modify]
        refine Tiles.push (Tiles.mark (fun x => ?_) T4) hkk
        exact ⟨rfl, rfl⟩
  · obtain ⟨st3, e3⟩ : ∃ st3, st3 = st2 := ⟨_, rfl⟩
    have I3 : SI S n st3 := by rw [e3]; exact I2'
    have T3 : Tiles 0 (pendingOf st3).toList lo := by rw [e3]; exact T2
    obtain ⟨kk, hkk'⟩ : ∃ kk, kk = k := ⟨_, rfl⟩
    have hkk : 1 ≤ kk := by omega
    rw [← hkk', ← e3]
    refine wpS_bind (wpS_get ?_)
    cases hb : (pendingOf st3).back? with
    | none =>
      try dsimp only
      refine wpS_bind (wpS_modify (wpS_pure ⟨lo + kk, rfl, by omega, ⟨I3.kind, I3.failed, I3.ga, I3.size⟩, ?_⟩))
      show Tiles 0 ((pendingOf st3).push (lo, kk, 0)).toList (lo + kk)
      rw [Array.toList_push]
      exact T3.push hkk
    | some x =>
      obtain ⟨s1, n1, q1⟩ := x
      try dsimp only
      refine wpS_bind (wpS_mono (wpS_forRange (I := fun _ c st' => c = (none, ()) ∧ SI S n st' ∧ Tiles 0 (pendingOf st').toList lo) (Q := fun c st' => c = (none, ()) ∧ SI S n st' ∧ Tiles 0 (pendingOf st').toList lo) ?_ (fun _ _ q => q) ⟨rfl, I3, T3⟩) ?_)
      · rintro y c st4 _ _ ⟨rfl, I4, T4⟩
        try dsimp only
        refine wpS_bind (wpS_get ?_)
        by_cases hs : (pendingOf st4).size > 1
        · obtain ⟨z, hz⟩ : ∃ z, (pendingOf st4)[(pendingOf st4).size - 2]? = some z := ⟨_, getElem?_pos _ _ (by omega)⟩
          rw [if_pos hs, hz]
          obtain ⟨z1, z2, z3⟩ := z
          try dsimp only
          refine w_ite (fun _ => wpS_pure ⟨rfl, I4, T4⟩) (fun _ => ?_)
          exact wpS_bind (w_mergeAt I4 T4 hlo (by omega) fun st5 I5 T5 => wpS_pure ⟨rfl, I5, T5⟩)
        · rw [if_neg hs]
          exact wpS_pure ⟨rfl, I4, T4⟩
      · rintro c st4 ⟨rfl, I4, T4⟩
        try dsimp only
        refine wpS_bind (wpS_modify (wpS_bind (wpS_modify (wpS_pure ⟨lo + kk, rfl, by omega, ⟨I4.kind, I4.failed, I4.ga, I4.size⟩, ?_⟩))))
        rw [Array.toList_push, Array.toList_modify]
        refine Tiles.push (Tiles.mark (fun x => ?_) T4) hkk
        exact ⟨rfl, rfl⟩
end
end SM

namespace SM
open PySem PyProof.Rows
variable {S : Int → Prop}
theorem ints_mem {vs : List Value} {ns : List Int} (hI : IntsAre vs ns) : ∀ v ∈ vs, ∃ a t, a ∈ ns ∧ v = .int a t := by
  induction hI with
  | nil => intro v hv; cases hv
  | cons _ _ _ ih =>
    intro v hv
    rcases List.mem_cons.mp hv with rfl | hv
    · exact ⟨_, _, List.mem_cons_self, rfl⟩
    · obtain ⟨a, t, h1, h2⟩ := ih v hv
      exact ⟨a, t, List.mem_cons_of_mem _ h1, h2⟩
theorem pairs_good {vs : List Value} {ns : List Int} (hI : IntsAre vs ns) : GA (· ∈ ns) (pairsOf vs) := fun i p e => by
  have hm : p ∈ vs.zip vs := by
    rw [← pairsOf_toList]
    have := Array.mem_of_getElem? e
    simpa using this
  obtain ⟨h1, h2⟩ := mem_zip_self hm
  have h3 := hI.all _ h2
  exact ⟨h3, by rw [← h1]; exact ints_mem hI _ h2⟩
theorem ints_some : ∀ {vs : List Value}, (∀ v ∈ vs, ∃ a t, S a ∧ v = .int a t) → ∃ ns' : List Int, IntsAre vs ns' ∧ ns'.length = vs.length ∧ ∀ x ∈ ns', S x
  | [], _ => ⟨[], .nil, rfl, fun x h => by cases h⟩
  | v :: vs, h => by
    obtain ⟨a, t, h1, rfl⟩ := h v List.mem_cons_self
    obtain ⟨ns', i1, i2, i3⟩ := ints_some (vs := vs) fun u hu => h u (List.mem_cons_of_mem _ hu)
    refine ⟨a :: ns', .cons a t i1, by rw [List.length_cons, List.length_cons, i2], fun x hx => ?_⟩
    rcases List.mem_cons.mp hx with rfl | hx
    · exact h1
    · exact i3 x hx
theorem ints_out {xs : Array Keyed} (g : GA S xs) : ∃ ns' : List Int, IntsAre (xs.map (·.2)).toList ns' ∧ ns'.length = xs.size ∧ ∀ x ∈ ns', S x := by
  obtain ⟨ns', i1, i2, i3⟩ := ints_some (S := S) (vs := (xs.map (·.2)).toList) fun v hv => by
    rw [Array.toList_map] at hv
    obtain ⟨p, hp, rfl⟩ := List.mem_map.mp hv
    obtain ⟨j, hj, e⟩ := List.getElem_of_mem hp
    have hjs : j < xs.size := by simpa using hj
    exact (g j p (by rw [getElem?_pos xs j hjs]; simpa using e)).2
  exact ⟨ns', i1, by simpa using i2, i3⟩
section
variable {w : World} {prog : Program} {s : Shared} {A : Around} {E : Value → Shared → Prop}
theorem sort_list {a : Addr} {vs : List Value} {ns : List Int} {m : Nat} {P : Fin → Shared → Prop} (ho : s.heap.get? a = some (seqObj "list" vs.toArray m)) (hI : IntsAre vs ns) (h2 : 2 ≤ vs.length) (hz : vs.length ≤ 1000)
    (h : ∀ (out : Array Value) (ns' : List Int), IntsAre out.toList ns' → ns'.length = vs.length → (∀ x ∈ ns', x ∈ ns) → P (.done (.ret .none)) { s with heap := sortedHeap s.heap a vs out }) : wpAny (model prog w) A (Builtin.«list.sort» ⟨[.ref a], []⟩) P E s := by
  have hal : a < s.heap.objs.size := Heap.lt_size ho
  have hszl : sizeLine ≥ 1000 := by decide
  rw [list_sort_plain]
  refine wpAny_bind (listItems_at ho rfl (wpAny_bind (listUpdate_at ho rfl ?_ (by rw [List.size_toArray]; omega) (by show (0 : Nat) ≤ _; omega))))
  obtain ⟨e1, o1⟩ : ∃ e1, (s.heap.update a (Obj.mapSeq fun _ => #[])).get? a = some (seqObj "list" #[] e1) := ⟨_, get?_update_seq ho _⟩
  refine wpAny_bind (seqEpoch_at o1 rfl (wpAny_bind (wpAny_newTuple (wpAny_bind (wpAny_newList (wpAny_holding ?_))))))
  have o2 : (((s.heap.update a (Obj.mapSeq fun _ => #[])).push (seqObj "tuple" vs.toArray 0)).push (seqObj "list" #[] 0)).get? a = some (seqObj "list" #[] e1) := Heap.get?_push_of_some _ (Heap.get?_push_of_some _ o1)
  show wpAny (model prog w) _ _ P E { s with heap := ((s.heap.update a (Obj.mapSeq fun _ => #[])).push (seqObj "tuple" vs.toArray 0)).push (seqObj "list" #[] 0) }
  try dsimp only
  have n2 : ¬ vs.toArray.size < 2 := by rw [List.size_toArray]; omega
  rw [if_neg n2, if_neg n2]
  obtain ⟨v1, v2, rest, hv⟩ : ∃ v1 v2 rest, vs = v1 :: v2 :: rest := by
    match vs, h2 with
    | [], h => simp at h
    | [_], h => simp at h
    | x :: y :: r, _ => exact ⟨x, y, r, rfl⟩
  have hk : keyKind' vs.toArray = pure oneType' := by subst hv; exact keyKind_ints hI
  rw [hk]
  refine (wpAny_bind (wpAny_pure ?_) : wpAny (model prog w) _ _ _ _ _)
  have I0 : SI (· ∈ ns) vs.length (SortSt.mk' oneType' (vs.toArray.zip vs.toArray) #[] 7 none) := ⟨rfl, rfl, pairs_good hI, pairsOf_size vs⟩
  refine wpAny_bind (wpAny_mono (w_runs (s := { s with heap := ((s.heap.update a (Obj.mapSeq fun _ => #[])).push (seqObj "tuple" vs.toArray 0)).push (seqObj "list" #[] 0) }) (Q := fun _ st' => SI (· ∈ ns) vs.length st') I0 rfl fun st' I' => I') ?_ fun _ _ e => e)
  rintro ⟨⟨⟩, st'⟩ s' ⟨rfl, I'⟩
  try dsimp only
  obtain ⟨ns', i1, i2, i3⟩ := ints_out I'.ga
  refine wpAny_bind (seqEpoch_at o2 rfl (wpAny_bind (listUpdate_at o2 rfl ?_ (by show (0 : Nat) ≤ _; omega) ?_)))
  · rw [I'.failed]
    simp only [Bool.false_eq_true, bne_self_eq_false, if_false]
    exact wpAny_pure (h _ ns' i1 (i2.trans I'.size) i3)
  · have : (arrOf st').size = vs.length := I'.size
    show ((arrOf st').map (·.2)).size ≤ _
    rw [Array.size_map]
    omega
theorem sorted_many {l : Addr} {vs : List Value} {ns : List Int} {Q : Value → Shared → Prop} (hl : s.heap.IsList l vs.toArray) (hI : IntsAre vs ns) (h2 : 2 ≤ vs.length) (hz : vs.length ≤ 1000)
    (h : ∀ (out : Array Value) (ns' : List Int), IntsAre out.toList ns' → ns'.length = vs.length → (∀ x ∈ ns', x ∈ ns) → Q (.ref (s.heap.objs.size + 1)) { s with heap := sortedAll s.heap vs out }) : wpAny (model prog w) A (call (.builtin "sorted") [.ref l]) Q E s := by
  have hszl : sizeLine ≥ 1000 := by decide
  refine (Calls.call_function_entry kind_sorted plain_sorted entry_sorted (args_sorted1 _) ?_ : wpAny (model prog w) A _ Q E s)
  unfold Builtin.«sorted»
  refine wpAny_bind (m := checkCount "sorted" 1 1 _) (wpAny_pure (wpAny_bind (collect_list hl (wpAny_bind (wpAny_newList ?_)) (by omega))))
  have hsz : ((s.heap.push (seqObj "list" #[] 0)).update s.heap.objs.size (Obj.mapSeq (· ++ vs.toArray))).objs.size = s.heap.objs.size + 1 := by rw [Heap.size_update, size_push']
  have o1 : (((s.heap.push (seqObj "list" #[] 0)).update s.heap.objs.size (Obj.mapSeq (· ++ vs.toArray))).push (seqObj "list" vs.toArray 0)).get? (s.heap.objs.size + 1) = some (seqObj "list" vs.toArray 0) := by
    rw [← hsz]; exact (Heap.get?_push_size (o := seqObj "list" vs.toArray 0) _ rfl)
  show wpAny (model prog w) _ _ _ _ { s with heap := ((s.heap.push (seqObj "list" #[] 0)).update s.heap.objs.size (Obj.mapSeq (· ++ vs.toArray))).push (seqObj "list" vs.toArray 0) }
  rw [hsz]
  refine wpAny_bind (wpAny_holding (wpAny_call_entry slot_list_sort ⟨_, o1, rfl⟩ entry_list_sort ?_ (args_list_sort _)))
  exact sort_list o1 hI h2 hz fun out ns' a1 a2 a3 => ⟨_, rfl, wpAny_pure ⟨_, rfl, h out ns' a1 a2 a3⟩⟩
end
end SM

namespace L2
open PySem PySem.Spec PyProof.Rows
section
variable {X : Cx}
theorem call_sortedM : CallR X (.builtin "sorted") (fun xs H Q => ∃ (p : Addr) (ns : List Int), xs = [.ref p] ∧ SqL X.K H p (ns.map V.int) ∧ ns.length ≤ 1000 ∧ ∀ (l : Addr) (ns' : List Int), H l = none → ns'.length = ns.length → (∀ x ∈ ns', x ∈ ns) → Q (.ref l) (upd H l (.lst (ns'.map V.int)))) := by
  intro pins s σ H xs us Q I r h
  obtain ⟨p, ns, rfl, hq, hz, q⟩ := h
  by_cases h64 : ns.length < 64
  · exact call_sorted pins s σ H _ us Q I r ⟨p, ns, rfl, hq, h64, fun l ns' hl hp _ => q l ns' hl hp.length_eq fun x hx => hp.mem_iff.mp hx⟩
  obtain ⟨u, rfl, rx⟩ := vals1 r
  cases rx
  obtain ⟨its, rv, pl, _⟩ := I.list hq
  have hl : its.length = ns.length := by rw [← rv.length, List.length_map]
  have hszl : sizeLine ≥ 1000 := by decide
  refine SM.sorted_many pl.isList (intsAre_of rv) (by omega) (by omega) fun out ns' a1 a2 a3 => ?_
  obtain ⟨e, he⟩ := sortedAll_at s.heap its out
  refine ⟨.ref (s.heap.objs.size + 1), _, I.laid (t' := s.toks) (o := .lst (ns'.map V.int)) (fun _ _ => sortedAll_old) (Nat.le_succ _) ⟨?_, out.toList, e, vals_of_ints a1, by simpa using he⟩, rfl, q _ ns' (I.hok.fresh (Nat.le_succ _)) (a2.trans hl) a3⟩
  rw [List.length_map]; omega
end
end L2
namespace Y
open PySem L2 Yd
def spNamesW (C : Addr) : Sp := fun vs H Q _ => ∃ (y ca : Addr) (m : Nat) (rule : Int) (c : Lay), vs = [.ref y] ∧ YardAt C H y ca m rule c ∧
  ∀ (l : Addr) (ns : List Int) (H' : Hp), H l = none → Same H H' → ns.length = (nm c).length → H' l = some (.lst (ns.map V.int)) → Q (.ref l) H'
def spHowW (C : Addr) : Sp := fun vs H Q _ => ∃ (y ca : Addr) (m : Nat) (rule : Int) (c : Lay), vs = [.ref y] ∧ YardAt C H y ca m rule c ∧ ∀ (H' : Hp), Same H H' → Q (.int ((nm c).length : Nat)) H'
def spPutW (C : Addr) : Sp := fun vs H Q _ => ∃ (y ca : Addr) (m : Nat) (rule : Int) (c : Lay) (n : Int), vs = [.ref y, .int n] ∧ YardAt C H y ca m rule c ∧ 0 < m ∧ Right m rule c ∧ n ∉ nm c ∧ (nm c).length + 1 < m ∧
  ∀ (l : Addr) (H' : Hp), H l = none → Told H' l (putL m rule m c n (ws m n)).1 → YardAt C H' y ca m rule (putL m rule m c n (ws m n)).2 → SameX ca H H' → Q (.ref l) H'
end Y

namespace Y
open PySem L2 Yd
def spPutXW (C CH CF : Addr) : Sp := fun vs H _ E => ∃ (y ca : Addr) (m : Nat) (rule : Int) (c : Lay) (n : Int), vs = [.ref y, .int n] ∧ YardAt C H y ca m rule c ∧ 0 < m ∧ Right m rule c ∧
  ((n ∈ nm c ∧ ∀ H', Same H H' → E (.ref CH) none H') ∨ (n ∉ nm c ∧ (nm c).length + 1 = m ∧ ∀ H', Same H H' → E (.ref CF) none H'))
theorem put_orW {P : Program} {w : World} {K : PySem.W.Frag} {mg : Str → Option Value} {base : Heap} {f C CH CF : Addr} {fd : FuncData} (F : FnOk P w K mg base CX0 6 f fd ["self", "name"] (spPutW C)) (F' : FnOk P w K mg base (CX1 P w) 6 f fd ["self", "name"] (spPutXW C CH CF)) (B : Nat) :
    FnOk P w K mg base (CX1 P w) 6 f fd ["self", "name"] (spPutOr B C CF) :=
  (FnOk.or F.up F').sub fun vs H Q E h => by
    obtain ⟨y, ca, m, rule, c, n, e, Y, hm, R, hn, hB, h⟩ := h
    rcases h with ⟨h1, k⟩ | ⟨h1, k⟩
    · exact .inl ⟨y, ca, m, rule, c, n, e, Y, hm, R, hn, h1, k⟩
    · exact .inr ⟨y, ca, m, rule, c, n, e, Y, hm, R, .inr ⟨hn, h1, k⟩⟩
end Y

namespace Y
open PySem L2 Yd
abbrev Tb := List (Int × Int)
def ky (tb : Tb) : List Int := tb.map (·.1)
def kvs (tb : Tb) : List (Key × V) := tb.map fun p => (Sum.inl p.1, V.int p.2)
def valT (tb : Tb) (n : Int) : Option Int := (tb.find? fun p => decide (p.1 = n)).map (·.2)
def putT (tb : Tb) (n x : Int) : Tb := if n ∈ ky tb then tb.map fun p => if p.1 = n then (p.1, x) else p else tb ++ [(n, x)]
def dropT (tb : Tb) (n : Int) : Tb := tb.filter fun p => decide (p.1 ≠ n)
theorem ky_len (tb : Tb) : (ky tb).length = tb.length := List.length_map ..
theorem kvs_len (tb : Tb) : (kvs tb).length = tb.length := List.length_map ..
theorem kvs_keys (tb : Tb) : (kvs tb).map (·.1) = (ky tb).map Sum.inl := by unfold kvs ky; rw [List.map_map, List.map_map]; rfl
theorem valV_kvs (n : Int) : ∀ tb : Tb, valV (kvs tb) (Sum.inl n) = (valT tb n).map V.int
  | [] => rfl
  | p :: tb => by
    by_cases h : p.1 = n
    · rw [show kvs (p :: tb) = (Sum.inl p.1, V.int p.2) :: kvs tb from rfl, valV_pos (show (Sum.inl p.1 : Key) = Sum.inl n from by rw [h])]
      simp [valT, h]
    · rw [show kvs (p :: tb) = (Sum.inl p.1, V.int p.2) :: kvs tb from rfl, valV_neg (show ¬ (Sum.inl p.1 : Key) = Sum.inl n from fun z => h (Sum.inl.inj z)), valV_kvs n tb]
      simp [valT, h]
theorem valT_none {tb : Tb} {n : Int} : valT tb n = none ↔ n ∉ ky tb := by
  unfold valT ky
  rw [Option.map_eq_none_iff, List.find?_eq_none]
  constructor
  · intro h z
    obtain ⟨p, hp, e⟩ := List.mem_map.mp z
    exact h p hp (by simpa using e)
  · intro h p hp z
    exact h (List.mem_map.mpr ⟨p, hp, by simpa using z⟩)
theorem valT_some {tb : Tb} {n : Int} (h : n ∈ ky tb) : ∃ x, valT tb n = some x := by
  cases e : valT tb n with
  | none => exact absurd h (valT_none.mp e)
  | some x => exact ⟨x, rfl⟩
theorem valT_mem {tb : Tb} {n x : Int} (h : valT tb n = some x) : n ∈ ky tb := by
  by_cases z : n ∈ ky tb
  · exact z
  · rw [valT_none.mpr z] at h; cases h
theorem isSome_valT (tb : Tb) (n : Int) : (valV (kvs tb) (Sum.inl n)).isSome = decide (n ∈ ky tb) := by
  rw [valV_kvs, Option.isSome_map]
  by_cases h : n ∈ ky tb
  · obtain ⟨x, e⟩ := valT_some h
    rw [e]; simp [h]
  · rw [valT_none.mpr h]; simp [h]
theorem any_ky (n : Int) (tb : Tb) : ((kvs tb).any fun kv => decide (kv.1 = (Sum.inl n : Key))) = decide (n ∈ ky tb) := by rw [valV_any, isSome_valT]
theorem kvs_put (tb : Tb) (n x : Int) : putK (kvs tb) (Sum.inl n) (V.int x) = kvs (putT tb n x) := by
  by_cases h : n ∈ ky tb
  · unfold putK putT
    rw [any_ky, if_pos (by simpa using h), if_pos h]
    unfold kvs
    rw [List.map_map, List.map_map]
    refine List.map_congr_left fun p _ => ?_
    show (if (Sum.inl p.1 : Key) = Sum.inl n then ((Sum.inl p.1 : Key), V.int x) else (Sum.inl p.1, V.int p.2)) = ((Sum.inl (if p.1 = n then (p.1, x) else p).1 : Key), V.int (if p.1 = n then (p.1, x) else p).2)
    by_cases e : p.1 = n
    · rw [if_pos e, if_pos (by rw [e])]
    · rw [if_neg e, if_neg (fun z => e (Sum.inl.inj z))]
  · rw [putK_new _ (by rw [valV_kvs, valT_none.mpr h]; rfl)]
    unfold putT kvs
    rw [if_neg h, List.map_append]
    rfl
theorem kvs_drop (tb : Tb) (n : Int) : dropK (kvs tb) (Sum.inl n) = kvs (dropT tb n) := by
  unfold dropK dropT kvs
  rw [List.filter_map]
  congr 1
  refine List.filter_congr fun p _ => ?_
  show decide ((Sum.inl p.1 : Key) ≠ Sum.inl n) = decide (p.1 ≠ n)
  rw [Bool.eq_iff_iff, decide_eq_true_iff, decide_eq_true_iff]
  exact ⟨fun h z => h (by rw [z]), fun h z => h (Sum.inl.inj z)⟩
theorem ky_put_in {tb : Tb} {n : Int} (x : Int) (h : n ∈ ky tb) : ky (putT tb n x) = ky tb := by
  unfold putT
  rw [if_pos h]
  unfold ky
  rw [List.map_map]
  refine List.map_congr_left fun p _ => ?_
  show (if p.1 = n then (p.1, x) else p).1 = p.1
  split <;> rfl
theorem put_new {tb : Tb} {n : Int} (x : Int) (h : n ∉ ky tb) : putT tb n x = tb ++ [(n, x)] := if_neg h
theorem ky_put_new {tb : Tb} {n : Int} (x : Int) (h : n ∉ ky tb) : ky (putT tb n x) = ky tb ++ [n] := by
  rw [put_new x h]
  unfold ky
  rw [List.map_append]
  rfl
theorem len_put_in {tb : Tb} {n : Int} (x : Int) (h : n ∈ ky tb) : (putT tb n x).length = tb.length := by rw [← ky_len, ky_put_in x h, ky_len]
theorem len_put_new {tb : Tb} {n : Int} (x : Int) (h : n ∉ ky tb) : (putT tb n x).length = tb.length + 1 := by rw [put_new x h, List.length_append]; rfl
theorem ky_drop (tb : Tb) (n : Int) : ky (dropT tb n) = (ky tb).filter fun a => decide (a ≠ n) := by
  unfold dropT ky
  rw [List.filter_map]
  rfl
theorem len_drop {tb : Tb} {n : Int} (nd : (ky tb).Nodup) (h : n ∈ ky tb) : (dropT tb n).length + 1 = tb.length := by
  rw [← ky_len, ky_drop, ← ky_len tb]
  have := List.Nodup.erase_eq_filter nd n
  have e : (ky tb).filter (fun a => decide (a ≠ n)) = (ky tb).erase n := by rw [this]; refine List.filter_congr fun a _ => ?_; simp [bne, Bool.beq_eq_decide_eq]
  rw [e, List.length_erase_of_mem h]
  have := List.length_pos_of_mem h
  omega
theorem perm_drop {tb : Tb} {n : Int} (nd : (ky tb).Nodup) (h : n ∈ ky tb) : (n :: ky (dropT tb n)).Perm (ky tb) := by
  rw [ky_drop]
  have := List.Nodup.erase_eq_filter nd n
  have e : (ky tb).filter (fun a => decide (a ≠ n)) = (ky tb).erase n := by rw [this]; refine List.filter_congr fun a _ => ?_; simp [bne, Bool.beq_eq_decide_eq]
  rw [e]
  exact (List.perm_cons_erase h).symm
theorem valT_put (tb : Tb) (n x j : Int) : valT (putT tb n x) j = if j = n then some x else valT tb j := by
  have h := valV_put (kvs tb) (Sum.inl n : Key) (Sum.inl j) (V.int x)
  rw [kvs_put, valV_kvs] at h
  by_cases e : j = n
  · rw [if_pos e]
    rw [if_pos (by rw [e])] at h
    cases e2 : valT (putT tb n x) j with
    | none => rw [e2] at h; cases h
    | some y => rw [e2] at h; cases h; rfl
  · rw [if_neg e]
    rw [if_neg (fun z => e (Sum.inl.inj z)), valV_kvs] at h
    cases e2 : valT (putT tb n x) j with
    | none => rw [e2] at h; cases e3 : valT tb j with
      | none => rfl
      | some y => rw [e3] at h; cases h
    | some y => rw [e2] at h; cases e3 : valT tb j with
      | none => rw [e3] at h; cases h
      | some z => rw [e3] at h; cases h; rfl
def szB (n : Nat) : Nat := if n ≤ 3 then 4 else if n ≤ 6 then 8 else if n ≤ 12 then 16 else if n ≤ 24 then 32 else if n ≤ 48 then 64 else 128
theorem szB_ge (n : Nat) : 4 ≤ szB n := by unfold szB; split; omega; split; omega; split; omega; split; omega; split <;> omega
theorem szB_le (n : Nat) : szB n ≤ 128 := by unfold szB; split; omega; split; omega; split; omega; split; omega; split <;> omega
theorem szB_room {n : Nat} (h : n ≤ 96) : n < szB n := by unfold szB; split; omega; split; omega; split; omega; split; omega; split <;> omega
theorem szB_three {n : Nat} (h : n ≤ 96) : 4 * n ≤ 3 * szB n := by unfold szB; split; omega; split; omega; split; omega; split; omega; split <;> omega
def fitL (q : Nat) (rule : Int) (m : Nat) (c : Lay) : Lay := if q = m then c else putAll q rule (nm c)
theorem fit_ok {q m : Nat} {rule : Int} {c : Lay} (hq : 0 < q) (R : Right m rule c) (h : (nm c).length < q) : Right q rule (fitL q rule m c) ∧ (nm (fitL q rule m c)).Perm (nm c) := by
  unfold fitL
  by_cases e : q = m
  · subst e
    rw [if_pos rfl]
    exact ⟨R, List.Perm.refl _⟩
  · rw [if_neg e]
    exact putAll_ok hq (nm_nodup R.inj) h
def bflds (y d : Addr) : List (Str × V) := putF "worths" (.ref d) (putF "yard" (.ref y) [])
theorem s_yw : ¬ (("yard" : Str) = "worths") := by decide +kernel
theorem bf_yard (y d : Addr) : (bflds y d).lookup ("yard" : Str) = some (.ref y) := by
  unfold bflds
  rw [lookup_putF, if_neg s_yw, lookup_putF, if_pos rfl]
theorem bf_worths (y d : Addr) : (bflds y d).lookup ("worths" : Str) = some (.ref d) := by
  unfold bflds
  rw [lookup_putF, if_pos rfl]
theorem bf_no (y d : Addr) {x : Str} (h1 : ¬ x = "yard") (h2 : ¬ x = "worths") : (bflds y d).lookup x = none := by
  unfold bflds
  rw [lookup_putF, if_neg h2, lookup_putF, if_neg h1]
  rfl
theorem bf_put (y y' d : Addr) : putF "yard" (.ref y') (bflds y d) = bflds y' d := by
  have e : bflds y d = [(("yard" : Str), V.ref y), (("worths" : Str), V.ref d)] := by
    show putF "worths" (.ref d) [(("yard" : Str), _)] = _
    unfold putF
    rw [if_neg s_yw]
    rfl
  have e2 : bflds y' d = [(("yard" : Str), V.ref y'), (("worths" : Str), V.ref d)] := by
    show putF "worths" (.ref d) [(("yard" : Str), _)] = _
    unfold putF
    rw [if_neg s_yw]
    rfl
  rw [e, e2]
  unfold putF
  rw [if_pos rfl]
theorem bf_len (y d : Addr) : (bflds y d).length ≤ 2 := by
  have h1 := length_putF "worths" (.ref d) (putF "yard" (.ref y) [])
  have h2 := length_putF "yard" (V.ref y) []
  simp only [List.length_nil] at h2
  unfold bflds
  omega
structure BookAt (C CB : Addr) (H : Hp) (b y ca d : Addr) (rule : Int) (c : Lay) (tb : Tb) : Prop where
  ob : ∃ dx, H b = some (.ins CB dx (bflds y d))
  yd : YardAt C H y ca (szB tb.length) rule c
  dc : H d = some (.dK (kvs tb))
  rt : Right (szB tb.length) rule c
  pm : (nm c).Perm (ky tb)
  nd : (ky tb).Nodup
  le : tb.length ≤ 96
  r0 : 0 ≤ rule
  r2 : rule ≤ 2
theorem BookAt.same {C CB : Addr} {H H' : Hp} {b y ca d : Addr} {rule : Int} {c : Lay} {tb : Tb} (B : BookAt C CB H b y ca d rule c tb) (s : Same H H') : BookAt C CB H' b y ca d rule c tb := by
  obtain ⟨dx, h⟩ := B.ob
  exact ⟨⟨dx, s _ _ h⟩, B.yd.same s, s _ _ B.dc, B.rt, B.pm, B.nd, B.le, B.r0, B.r2⟩
theorem BookAt.nml {C CB : Addr} {H : Hp} {b y ca d : Addr} {rule : Int} {c : Lay} {tb : Tb} (B : BookAt C CB H b y ca d rule c tb) : (nm c).length = tb.length := by rw [B.pm.length_eq, ky_len]
structure SameB (b ca d : Addr) (H H' : Hp) : Prop where
  kp : ∀ a o, H a = some o → a ≠ b → a ≠ ca → a ≠ d → H' a = some o
  gr : ∀ a, H' a = none → H a = none
theorem upd_gr {H : Hp} {a b : Addr} {o : HO} (e : upd H b o a = none) : H a = none := by
  by_cases z : a = b
  · subst z; rw [upd_same] at e; cases e
  · rw [upd_ne z] at e; exact e
theorem gr_of {H H' : Hp} (h : ∀ a o, H a = some o → ∃ o', H' a = some o') (a : Addr) (e : H' a = none) : H a = none := by
  cases q : H a with
  | none => rfl
  | some o =>
    obtain ⟨o', h'⟩ := h a o q
    rw [e] at h'; cases h'
theorem BookAt.bca {C CB : Addr} {H : Hp} {b y ca d : Addr} {rule : Int} {c : Lay} {tb : Tb} (B : BookAt C CB H b y ca d rule c tb) : b ≠ ca ∧ b ≠ d ∧ ca ≠ d ∧ y ≠ b ∧ y ≠ ca ∧ y ≠ d := by
  obtain ⟨dx, h⟩ := B.ob
  obtain ⟨dy, h2⟩ := B.yd.ob
  refine ⟨ne_of h B.yd.ls (by intro z; cases z), ne_of h B.dc (by intro z; cases z), ne_of B.yd.ls B.dc (by intro z; cases z), fun z => ?_, B.yd.ne, ne_of h2 B.dc (by intro z; cases z)⟩
  subst z
  rw [h] at h2
  cases h2
def spWanted : Sp := fun vs H Q _ => ∃ n : Nat, vs = [.int n] ∧ n ≤ 96 ∧ ∀ H', Same H H' → Q (.int (szB n : Nat)) H'
def spBInit (C CB : Addr) : Sp := fun vs H Q _ => ∃ (b dx : Addr) (rule : Int), vs = [.ref b, .int rule] ∧ 0 ≤ rule ∧ rule ≤ 2 ∧ H b = some (.ins CB dx []) ∧
  ∀ (y ca d : Addr) (H' : Hp), H y = none → H ca = none → H d = none → BookAt C CB H' b y ca d rule (List.replicate 4 none) [] → (∀ a o, H a = some o → a ≠ b → H' a = some o) → Q .non H'
def spBHow (C CB : Addr) : Sp := fun vs H Q _ => ∃ (b y d dx : Addr) (tb : Tb), vs = [.ref b] ∧ H b = some (.ins CB dx (bflds y d)) ∧ H d = some (.dK (kvs tb)) ∧ Q (.int (tb.length : Nat)) H
def spBFit (C CB : Addr) : Sp := fun vs H Q _ => ∃ (b y d dx ca : Addr) (m : Nat) (rule : Int) (c : Lay) (n : Nat), vs = [.ref b, .int n] ∧ H b = some (.ins CB dx (bflds y d)) ∧ YardAt C H y ca m rule c ∧ 2 ≤ m ∧ Right m rule c ∧ 0 ≤ rule ∧ rule ≤ 2 ∧ n ≤ 96 ∧ (nm c).length < szB n ∧
  ∀ (y' ca' : Addr) (H' : Hp), (y' = y ∧ ca' = ca ∨ H y' = none ∧ H ca' = none) → SameX b H H' → H' b = some (.ins CB dx (bflds y' d)) → YardAt C H' y' ca' (szB n) rule (fitL (szB n) rule m c) → Q .non H'
def putB (rule : Int) (c : Lay) (m n : Nat) (x : Int) : Lay := (putL (szB n) rule (szB n) (fitL (szB n) rule m c) x (ws (szB n) x)).2
def spBBring (C CB CF : Addr) : Sp := fun vs H Q E => ∃ (b y ca d : Addr) (rule : Int) (c : Lay) (tb : Tb) (n : Int), vs = [.ref b, .int n] ∧ BookAt C CB H b y ca d rule c tb ∧ n ∉ ky tb ∧
  ((tb.length < 96 ∧ ∀ (y' ca' dx : Addr) (H' : Hp), (y' = y ∧ ca' = ca ∨ H y' = none ∧ H ca' = none) → SameB b ca d H H' → H' b = some (.ins CB dx (bflds y' d)) → H' d = some (.dK (kvs tb)) →
     YardAt C H' y' ca' (szB (tb.length + 1)) rule (putB rule c (szB tb.length) (tb.length + 1) n) → Q .non H') ∨
   (tb.length = 96 ∧ ∀ H', Same H H' → E (.ref CF) none H'))
def spBWrite (C CB CF : Addr) : Sp := fun vs H Q E => ∃ (b y ca d : Addr) (rule : Int) (c : Lay) (tb : Tb) (n x : Int), vs = [.ref b, .int n, .int x] ∧ BookAt C CB H b y ca d rule c tb ∧
  ((n ∈ ky tb ∧ ∀ H', SameX d H H' → BookAt C CB H' b y ca d rule c (putT tb n x) → Q (.bl true) H') ∨
   (n ∉ ky tb ∧ tb.length < 96 ∧ ∀ (y' ca' : Addr) (H' : Hp), (y' = y ∧ ca' = ca ∨ H y' = none ∧ H ca' = none) → SameB b ca d H H' →
     BookAt C CB H' b y' ca' d rule (putB rule c (szB tb.length) (tb.length + 1) n) (putT tb n x) → Q (.bl false) H') ∨
   (n ∉ ky tb ∧ tb.length = 96 ∧ ∀ H', Same H H' → E (.ref CF) none H'))
def spBWorth (C CB : Addr) : Sp := fun vs H Q _ => ∃ (b y ca d : Addr) (rule : Int) (c : Lay) (tb : Tb) (n : Int), vs = [.ref b, .int n] ∧ BookAt C CB H b y ca d rule c tb ∧ Q (((valT tb n).map V.int).getD .non) H
def dropB (rule : Int) (c : Lay) (m n p : Nat) : Lay := fitL (szB n) rule m (takenL m c p).2
def spBDrop (C CB CN : Addr) : Sp := fun vs H Q E => ∃ (b y ca d : Addr) (rule : Int) (c : Lay) (tb : Tb) (n : Int), vs = [.ref b, .int n] ∧ BookAt C CB H b y ca d rule c tb ∧
  ((∃ (x : Int) (p : Nat), valT tb n = some x ∧ g c p = some n ∧ ∀ (y' ca' : Addr) (H' : Hp), (y' = y ∧ ca' = ca ∨ H y' = none ∧ H ca' = none) → SameB b ca d H H' →
     BookAt C CB H' b y' ca' d rule (dropB rule c (szB tb.length) (tb.length - 1) p) (dropT tb n) → Q (.int x) H') ∨
   (n ∉ ky tb ∧ ∀ H', Same H H' → E (.ref CN) none H'))
def LaidOut (H : Hp) (xs : List V) (c : Lay) (tb : Tb) : Prop := xs.length = c.length ∧ ∀ i, i < c.length → (g c i = none → xs[i]? = some .non) ∧ ∀ n, g c i = some n → ∃ (t : Addr) (x : Int), xs[i]? = some (.ref t) ∧ H t = some (.tup [.int n, .int x]) ∧ valT tb n = some x
def spBLayout (C CB : Addr) : Sp := fun vs H Q _ => ∃ (b y ca d : Addr) (rule : Int) (c : Lay) (tb : Tb), vs = [.ref b] ∧ BookAt C CB H b y ca d rule c tb ∧
  ∀ (l : Addr) (xs : List V) (H' : Hp), H l = none → Same H H' → H' l = some (.lst xs) → LaidOut H' xs c tb → Q (.ref l) H'
structure BTxt (K : PySem.W.Frag) (mg : Str → Option Value) (CB aS : Addr) : Prop where
  cl : Cls K CB
  nY : NoAttr K CB "yard"
  nW : NoAttr K CB "worths"
  most : ∃ t, mg "MOST_NAMES" = some (.int 96 t)
  szs : mg "SIZES" = some (.ref aS)
  szt : ∀ H : Hp, SqT K H aS ([4, 8, 16, 32, 64, 128].map V.int)
  len : mg "len" = none
  min : mg "min" = none
end Y

namespace L2
open PySem PySem.Spec PyProof.Rows
theorem tAll_ok {σ : St} {H : Hp} {A B : Hp → Prop} (h : A H) : tAll σ H fun b H4 => if b = true then A H4 else B H4 := (iteT h : if true = true then A H else B H)
end L2

namespace SU
open PySem PySem.SetTable
def okMask (m : Nat) : Prop := m = 7 ∨ m = 15 ∨ m = 31 ∨ m = 63 ∨ m = 127 ∨ m = 255
def nxt (m i : Nat) : Nat := (i * 5 + 1) % (m + 1)
def orb (m : Nat) : Nat → Nat → Nat
  | 0, i => i
  | n + 1, i => orb m n (nxt m i)
def orbL (m : Nat) : Nat → Nat → List Nat
  | 0, _ => []
  | n + 1, i => i :: orbL m n (nxt m i)
theorem orbL_mem {m : Nat} : ∀ {n i j : Nat}, j ∈ orbL m n i → ∃ k, k < n ∧ orb m k i = j
  | 0, _, _, h => by cases h
  | n + 1, i, j, h => by
    rcases List.mem_cons.mp h with e | h
    · exact ⟨0, Nat.succ_pos _, e.symm⟩
    · obtain ⟨k, hk, e⟩ := orbL_mem h
      exact ⟨k + 1, by omega, e⟩
theorem orb_add (m : Nat) : ∀ (a b i : Nat), orb m (a + b) i = orb m b (orb m a i)
  | 0, b, i => by rw [Nat.zero_add]; rfl
  | a + 1, b, i => by
    rw [show a + 1 + b = (a + b) + 1 from by omega]
    exact orb_add m a b (nxt m i)
theorem orb_all {m : Nat} (h : okMask m) {j : Nat} (hj : j ≤ m) : ∃ n, n ≤ m ∧ orb m n 0 = j := by
  have key : ∀ m ∈ [7, 15, 31, 63, 127, 255], (List.range (m + 1)).all (fun j => (orbL m (m + 1) 0).contains j) = true := by decide +kernel
  have hm : m ∈ [7, 15, 31, 63, 127, 255] := by unfold okMask at h; simp only [List.mem_cons, List.not_mem_nil, or_false]; exact h
  have h1 := List.all_eq_true.mp (key m hm) j (List.mem_range.mpr (by omega))
  obtain ⟨k, hk, e⟩ := orbL_mem (List.contains_iff_mem.mp h1)
  exact ⟨k, by omega, e⟩
theorem orb_back {m : Nat} (h : okMask m) : orb m (m + 1) 0 = 0 := by
  have key : ∀ m ∈ [7, 15, 31, 63, 127, 255], orb m (m + 1) 0 = 0 := by decide +kernel
  exact key m (by unfold okMask at h; simp only [List.mem_cons, List.not_mem_nil, or_false]; exact h)
theorem orb_from {m : Nat} (h : okMask m) {i j : Nat} (hi : i ≤ m) (hj : j ≤ m) : ∃ n, n ≤ m ∧ orb m n i = j := by
  obtain ⟨a, ha, ea⟩ := orb_all h hi
  obtain ⟨b, hb, eb⟩ := orb_all h hj
  by_cases hab : a ≤ b
  · refine ⟨b - a, by omega, ?_⟩
    rw [← ea, ← orb_add, show a + (b - a) = b from by omega, eb]
  · refine ⟨m + 1 - a + b, by omega, ?_⟩
    rw [← ea, ← orb_add, show a + (m + 1 - a + b) = (m + 1) + b from by omega, orb_add, orb_back h, eb]
def lp (m : Nat) : Nat → Nat → Nat → Nat × Nat
  | 0, i, p => (i, p)
  | n + 1, i, p => lp m n (leap m i p).1 (leap m i p).2
theorem lp_two (m : Nat) : ∀ (n i p : Nat), (lp m n i p).2 = p / 32 ^ n
  | 0, i, p => by show p = _; simp
  | n + 1, i, p => by
    show (lp m n _ (p / 32)).2 = _
    rw [lp_two m n, Nat.div_div_eq_div_mul, Nat.pow_succ, Nat.mul_comm]
theorem lp_le {m : Nat} : ∀ (n i p : Nat), i ≤ m → (lp m n i p).1 ≤ m
  | 0, _, _, h => h
  | n + 1, i, p, _ => lp_le n _ _ (by show (i * 5 + 1 + p / 32) % (m + 1) ≤ m; have := Nat.mod_lt (i * 5 + 1 + p / 32) (show 0 < m + 1 by omega); omega)
theorem lp_add (m : Nat) : ∀ (a b i p : Nat), lp m (a + b) i p = lp m b (lp m a i p).1 (lp m a i p).2
  | 0, b, i, p => by rw [Nat.zero_add]; rfl
  | a + 1, b, i, p => by
    rw [show a + 1 + b = (a + b) + 1 from by omega]
    exact lp_add m a b _ _
theorem lp_zero (m : Nat) : ∀ (n i : Nat), (lp m n i 0).1 = orb m n i
  | 0, _ => rfl
  | n + 1, i => by
    show (lp m n ((i * 5 + 1 + 0 / 32) % (m + 1)) (0 / 32)).1 = orb m n (nxt m i)
    rw [show (0 : Nat) / 32 = 0 from rfl, lp_zero m n]
    rfl
theorem met {m : Nat} (h : okMask m) {i p j : Nat} (hi : i ≤ m) (hp : p < 2 ^ 64) (hj : j ≤ m) : ∃ n, n < turns m ∧ (lp m n i p).1 = j := by
  have e2 : (lp m 13 i p).2 = 0 := by
    rw [lp_two]
    exact Nat.div_eq_of_lt (Nat.lt_of_lt_of_le hp (by decide))
  obtain ⟨n, hn, e⟩ := orb_from h (lp_le 13 i p hi) hj
  refine ⟨13 + n, by unfold turns; omega, ?_⟩
  rw [lp_add, e2, lp_zero, e]
theorem bits_lt (h : Int) : bits h < 2 ^ 64 := by
  unfold bits
  have h1 := Int.emod_nonneg h (show (2 ^ 64 : Int) ≠ 0 by decide)
  have h2 := Int.emod_lt_of_pos h (show (0 : Int) < 2 ^ 64 by decide)
  omega
theorem free_ok {m : Nat} {owner : Array (Option Nat)} : ∀ (fuel i p : Nat), (∃ n, n < fuel ∧ owner.getD (lp m n i p).1 (some 0) = none) → ∃ j, layClean.free m owner fuel i p = some j ∧ owner.getD j (some 0) = none
  | 0, _, _, h => by obtain ⟨n, hn, _⟩ := h; omega
  | fuel + 1, i, p, h => by
    unfold layClean.free
    cases hf : (List.range (runEnd m i + 1 - i)).find? fun k => (owner.getD (i + k) (some 0)).isNone with
    | some k =>
      refine ⟨i + k, rfl, ?_⟩
      have := List.find?_some hf
      exact Option.isNone_iff_eq_none.mp this
    | none =>
      obtain ⟨n, hn, hj⟩ := h
      match n, hn, hj with
      | 0, _, hj =>
        have h0 := List.find?_eq_none.mp hf 0 (List.mem_range.mpr (by unfold runEnd; split <;> omega))
        rw [Nat.add_zero] at h0
        exact absurd (Option.isNone_iff_eq_none.mpr hj) h0
      | n + 1, hn, hj => exact free_ok fuel _ _ ⟨n, by omega, hj⟩
def live (m : Nat) (owner : Array (Option Nat)) : List (Nat × Nat) := (List.range (m + 1)).filterMap fun j => (owner.getD j none).map (j, ·)
theorem fm_congr {α : Type} {f f' : Nat → Option α} : ∀ {l : List Nat}, (∀ x ∈ l, f' x = f x) → l.filterMap f' = l.filterMap f
  | [], _ => rfl
  | x :: l, h => by
    have ih := fm_congr (f := f) (f' := f') (l := l) fun y hy => h y (List.mem_cons_of_mem _ hy)
    have hx := h x List.mem_cons_self
    rw [List.filterMap_cons, List.filterMap_cons, ih, hx]
theorem fm_set {α : Type} {f f' : Nat → Option α} {j : Nat} {v : α} (hj : f j = none) (hj' : f' j = some v) (ho : ∀ x, x ≠ j → f' x = f x) : ∀ {l : List Nat}, l.Nodup → j ∈ l → (l.filterMap f').Perm (v :: l.filterMap f)
  | [], _, h => by cases h
  | x :: l, nd, h => by
    obtain ⟨nx, nd⟩ := List.nodup_cons.mp nd
    by_cases e : x = j
    · subst e
      have eq : l.filterMap f' = l.filterMap f := fm_congr fun y hy => ho y (fun z => nx (z ▸ hy))
      rw [List.filterMap_cons_some hj', List.filterMap_cons_none hj, eq]
    · have hl : j ∈ l := by
        rcases List.mem_cons.mp h with z | z
        · exact absurd z.symm e
        · exact z
      have ih := fm_set hj hj' ho nd hl
      cases hx : f x with
      | none => rw [List.filterMap_cons_none (by rw [ho x e]; exact hx), List.filterMap_cons_none hx]; exact ih
      | some y =>
        rw [List.filterMap_cons_some (by rw [ho x e]; exact hx), List.filterMap_cons_some hx]
        exact (ih.cons y).trans (List.Perm.swap v y _)
theorem fm_full {α : Type} {f : Nat → Option α} : ∀ {l : List Nat}, (∀ x ∈ l, f x ≠ none) → (l.filterMap f).length = l.length
  | [], _ => rfl
  | x :: l, h => by
    cases hx : f x with
    | none => exact absurd hx (h x List.mem_cons_self)
    | some y => rw [List.filterMap_cons_some hx, List.length_cons, List.length_cons, fm_full fun y hy => h y (List.mem_cons_of_mem _ hy)]
theorem live_room {m : Nat} {owner : Array (Option Nat)} (h : (live m owner).length ≤ m) : ∃ j, j ≤ m ∧ owner.getD j none = none := by
  by_cases z : ∃ j, j ≤ m ∧ owner.getD j none = none
  · exact z
  · have := fm_full (f := fun j => (owner.getD j none).map (j, ·)) (l := List.range (m + 1)) fun x hx e => z ⟨x, by have := List.mem_range.mp hx; omega, by simpa using e⟩
    rw [List.length_range] at this
    unfold live at h
    omega
structure Own (m n : Nat) (acc : Option (Array (Option Nat) × Nat)) : Prop where
  ex : ∃ owner, acc = some (owner, n) ∧ owner.size = m + 1 ∧ ((live m owner).map (·.2)).Perm (List.range n)
theorem own_step {m n : Nat} {acc : Option (Array (Option Nat) × Nat)} (hm : okMask m) (O : Own m n acc) (hn : n ≤ m) (h : Int) :
    Own m (n + 1) (do
      let (owner, k) ← acc
      let j ← layClean.free m owner (turns m) (bits h % (m + 1)) (bits h)
      pure (owner.setIfInBounds j (some k), k + 1)) := by
  obtain ⟨owner, rfl, hs, hp⟩ := O.ex
  have hl : (live m owner).length = n := by
    have := hp.length_eq
    rw [List.length_map, List.length_range] at this
    exact this
  obtain ⟨j0, hj0, e0⟩ := live_room (m := m) (owner := owner) (by omega)
  have hi : bits h % (m + 1) ≤ m := by have := Nat.mod_lt (bits h) (show 0 < m + 1 by omega); omega
  obtain ⟨t, ht, et⟩ := met hm hi (bits_lt h) hj0
  have sd : ∀ j, j ≤ m → owner.getD j (some 0) = owner.getD j none := fun j hj => by
    rw [Array.getD_eq_getD_getElem?, Array.getD_eq_getD_getElem?, Array.getElem?_eq_getElem (by omega)]
    rfl
  obtain ⟨j, ej, fj⟩ := free_ok (m := m) (owner := owner) (turns m) (bits h % (m + 1)) (bits h) ⟨t, ht, by rw [et, sd j0 hj0]; exact e0⟩
  have hjm : j ≤ m := by
    by_cases z : j < owner.size
    · omega
    · rw [Array.getD_eq_getD_getElem?, Array.getElem?_eq_none (by omega)] at fj
      cases fj
  rw [sd j hjm] at fj
  refine ⟨owner.setIfInBounds j (some n), ?_, by rw [Array.size_setIfInBounds]; exact hs, ?_⟩
  · show (do let j ← layClean.free m owner (turns m) (bits h % (m + 1)) (bits h); pure (owner.setIfInBounds j (some n), n + 1) : Option _) = _
    rw [ej]
    rfl
  · have gj : (owner.setIfInBounds j (some n)).getD j none = some n := by
      rw [Array.getD_eq_getD_getElem?, Array.getElem?_setIfInBounds_self_of_lt (by omega)]
      rfl
    have go : ∀ x, x ≠ j → (owner.setIfInBounds j (some n)).getD x none = owner.getD x none := fun x hx => by
      rw [Array.getD_eq_getD_getElem?, Array.getD_eq_getD_getElem?, Array.getElem?_setIfInBounds_ne (Ne.symm hx)]
    have := fm_set (f := fun j => (owner.getD j none).map (j, ·)) (f' := fun x => ((owner.setIfInBounds j (some n)).getD x none).map (x, ·)) (j := j) (v := (j, n)) (by show (owner.getD j none).map _ = none; rw [fj]; rfl) (by show ((owner.setIfInBounds j (some n)).getD j none).map _ = _; rw [gj]; rfl)
      (fun x hx => by show ((owner.setIfInBounds j (some n)).getD x none).map _ = _; rw [go x hx]) (l := List.range (m + 1)) List.nodup_range (List.mem_range.mpr (by omega))
    have h2 := this.map (·.2)
    refine h2.trans ?_
    show (n :: (live m owner).map (·.2)).Perm (List.range (n + 1))
    rw [List.range_succ (n := n)]
    exact (hp.cons n).trans (List.perm_append_singleton n _).symm
theorem own_fold {m : Nat} (hm : okMask m) : ∀ (hs : List Int) (n : Nat) (acc : Option (Array (Option Nat) × Nat)), Own m n acc → n + hs.length ≤ m + 1 →
    Own m (n + hs.length) (hs.foldl (fun acc h => do
      let (owner, k) ← acc
      let j ← layClean.free m owner (turns m) (bits h % (m + 1)) (bits h)
      pure (owner.setIfInBounds j (some k), k + 1)) acc)
  | [], n, acc, O, _ => O
  | h :: hs, n, acc, O, hl => by
    rw [List.length_cons] at hl
    rw [List.foldl_cons, List.length_cons, show n + (hs.length + 1) = (n + 1) + hs.length from by omega]
    exact own_fold hm hs (n + 1) _ (own_step hm O (by omega) h) (by omega)
theorem layClean_ok {m : Nat} (hm : okMask m) {hs : Array Int} (hl : hs.size ≤ m) : ∃ owner, layClean m hs = some owner ∧ owner.size = m + 1 ∧ ((live m owner).map (·.2)).Perm (List.range hs.size) := by
  have O0 : Own m 0 (some (Array.replicate (m + 1) none, 0)) := by
    refine ⟨_, rfl, Array.size_replicate, ?_⟩
    have : live m (Array.replicate (m + 1) none) = [] := by
      unfold live
      refine List.filterMap_eq_nil_iff.mpr fun j hj => ?_
      have hj' := List.mem_range.mp hj
      rw [Array.getD_eq_getD_getElem?, Array.getElem?_replicate, if_pos hj']
      rfl
    rw [this]
    exact List.Perm.refl _
  have := own_fold hm hs.toList 0 _ O0 (by rw [Array.length_toList]; omega)
  rw [Nat.zero_add, Array.length_toList] at this
  obtain ⟨owner, e, h1, h2⟩ := this.ex
  refine ⟨owner, ?_, h1, h2⟩
  unfold layClean
  rw [← Array.foldl_toList, e]
  rfl
end SU

namespace SU
open PySem PySem.SetTable
theorem fst_live (m : Nat) (owner : Array (Option Nat)) : (live m owner).map (·.1) = (List.range (m + 1)).filter fun j => (owner.getD j none).isSome := by
  unfold live
  generalize List.range (m + 1) = l
  induction l with
  | nil => rfl
  | cons x l ih =>
    rw [List.filterMap_cons, List.filter_cons]
    cases h : owner.getD x none with
    | none => exact ih
    | some y =>
      show x :: _ = _
      rw [ih]
      rfl
structure Tab (t : SetTable) (n : Nat) : Prop where
  ma : okMask t.mask
  sz : t.place.size = n
  du : t.dummies = #[]
  up : t.place.toList.Pairwise (· < ·)
  fu : n * 5 < t.mask * 3
  pl : t.plain = true
theorem Tab.fits {t : SetTable} {n : Nat} (T : Tab t n) : t.fits n = true := by
  have h1 := T.sz
  have h2 := T.fu
  have hd : t.dummies.size = 0 := by rw [T.du]; rfl
  unfold SetTable.fits SetTable.fill
  rw [h1, hd]
  simp
  omega
theorem laid_ok {m fi mo : Nat} {led : Bool} {hs : Array Int} (hm : okMask m) (hf : hs.size * 5 < m * 3) :
    ∃ (t : SetTable) (order : Array Nat), laid m fi mo led true hs = some (t, order) ∧ Tab t hs.size ∧ t.led = led ∧ t.mask = m ∧ order.toList.Perm (List.range hs.size) := by
  obtain ⟨owner, e, h1, h2⟩ := layClean_ok hm (hs := hs) (by omega)
  have e2 := h2.length_eq
  rw [List.length_map, List.length_range] at e2
  refine ⟨_, _, by unfold laid; rw [e]; rfl, ⟨hm, ?_, rfl, ?_, hf, rfl⟩, rfl, rfl, h2⟩
  · show ((live m owner).map (·.1)).toArray.size = _
    rw [List.size_toArray, List.length_map, e2]
  · show ((live m owner).map (·.1)).Pairwise (· < ·)
    rw [fst_live]
    exact List.pairwise_lt_range.filter _
theorem re_perm {es : Array (Int × Value)} {order : Array Nat} (h : order.toList.Perm (List.range es.size)) : (order.filterMap (es[·]?)).toList.Perm es.toList := by
  rw [Array.toList_filterMap]
  exact (h.filterMap _).trans (by rw [filterMap_getElem?_range])
theorem sizeAbove_ok {n : Nat} (h : n ≤ 250) : okMask (sizeAbove n - 1) ∧ n ≤ sizeAbove n - 1 ∧ sizeAbove n ≤ 256 := by
  have key : ∀ k : Nat, k ≤ 250 → ((sizeAbove k - 1 = 7 ∨ sizeAbove k - 1 = 15 ∨ sizeAbove k - 1 = 31 ∨ sizeAbove k - 1 = 63 ∨ sizeAbove k - 1 = 127 ∨ sizeAbove k - 1 = 255) ∧ k ≤ sizeAbove k - 1 ∧ sizeAbove k ≤ 256) := by decide +kernel
  exact key n h
theorem relayAll_ok {t : SetTable} {es : Array (Int × Value)} (T : Tab t es.size ∨ (t.plain = true ∧ t.place.size = es.size)) (h60 : es.size ≤ 60) (h0 : 0 < es.size) :
    ∃ es' t', relayAll t es (grown es.size) = (es', t', false) ∧ es'.toList.Perm es.toList ∧ Tab t' es.size ∧ t'.led = t.led := by
  have pl : t.plain = true := by rcases T with T | T; exact T.pl; exact T.1
  have hg : grown es.size = es.size * 4 := by unfold grown; rw [if_neg (by omega)]
  obtain ⟨hm, hle, _⟩ := sizeAbove_ok (n := es.size * 4) (by omega)
  obtain ⟨t', order, e, T', hl, _, hp⟩ := laid_ok (m := sizeAbove (es.size * 4) - 1) (fi := t.finger) (mo := t.movedTo (sizeAbove (es.size * 4) - 1)) (led := t.led) (hs := es.map (·.1)) hm (by rw [Array.size_map]; omega)
  rw [Array.size_map] at hp T'
  have hre : t.relaid (es.map (·.1)) (grown es.size) = some (t', order) := by
    unfold relaid
    rw [hg, pl]
    exact e
  have hperm := re_perm hp
  have hsz : (order.filterMap (es[·]?)).size = es.size := by rw [← Array.length_toList, hperm.length_eq, Array.length_toList]
  refine ⟨order.filterMap (es[·]?), t', ?_, hperm, T', hl⟩
  unfold relayAll
  rw [hre]
  dsimp only
  rw [if_pos]
  rw [hsz, T'.fits, Bool.and_true]
  exact List.isPerm_iff.mpr hp
theorem below_go {xs : Array Nat} {j : Nat} (up : xs.toList.Pairwise (· < ·)) : ∀ (fuel lo hi : Nat), lo ≤ hi → hi ≤ xs.size → hi - lo ≤ fuel → (∀ i (h : i < xs.size), i < lo → xs[i] < j) → (∀ i (h : i < xs.size), hi ≤ i → j ≤ xs[i]) →
    below.go xs j fuel lo hi ≤ xs.size ∧ (∀ i (h : i < xs.size), i < below.go xs j fuel lo hi → xs[i] < j) ∧ ∀ i (h : i < xs.size), below.go xs j fuel lo hi ≤ i → j ≤ xs[i]
  | 0, lo, hi, h1, h2, h3, h4, h5 => by
    have e : lo = hi := by omega
    subst e
    exact ⟨h2, h4, h5⟩
  | fuel + 1, lo, hi, h1, h2, h3, h4, h5 => by
    unfold below.go
    by_cases hlt : lo < hi
    · rw [if_pos hlt]
      dsimp only
      have hmid : (lo + hi) / 2 < xs.size := by omega
      have hgd : xs.getD ((lo + hi) / 2) j = xs[(lo + hi) / 2] := by rw [Array.getD_eq_getD_getElem?, Array.getElem?_eq_getElem hmid]; rfl
      have mono : ∀ a b (ha : a < xs.size) (hb : b < xs.size), a < b → xs[a] < xs[b] := fun a b ha hb hab => by
        have := List.pairwise_iff_getElem.mp up a b (by simpa using ha) (by simpa using hb) hab
        simpa using this
      by_cases hc : xs.getD ((lo + hi) / 2) j < j
      · rw [if_pos hc]
        rw [hgd] at hc
        refine below_go up fuel _ hi (by omega) h2 (by omega) (fun i h hi' => ?_) h5
        by_cases z : i = (lo + hi) / 2
        · subst z; exact hc
        · have := mono i _ h hmid (by omega)
          omega
      · rw [if_neg hc]
        rw [hgd] at hc
        refine below_go up fuel lo _ (by omega) (by omega) (by omega) h4 (fun i h hi' => ?_)
        by_cases z : i = (lo + hi) / 2
        · subst z; omega
        · have := mono _ i hmid h (by omega)
          omega
    · rw [if_neg hlt]
      have e : lo = hi := by omega
      subst e
      exact ⟨h2, h4, h5⟩
theorem below_ok {xs : Array Nat} {j : Nat} (up : xs.toList.Pairwise (· < ·)) : below xs j ≤ xs.size ∧ (∀ i (h : i < xs.size), i < below xs j → xs[i] < j) ∧ ∀ i (h : i < xs.size), below xs j ≤ i → j ≤ xs[i] :=
  below_go up xs.size 0 xs.size (Nat.zero_le _) (Nat.le_refl _) (by omega) (fun i _ h => absurd h (Nat.not_lt_zero _)) (fun i h h' => absurd h' (by omega))
theorem below_at {xs : Array Nat} (up : xs.toList.Pairwise (· < ·)) {i : Nat} (h : i < xs.size) : below xs xs[i] = i := by
  obtain ⟨h1, h2, h3⟩ := below_ok (j := xs[i]) up
  by_cases z : below xs xs[i] ≤ i
  · by_cases z2 : below xs xs[i] = i
    · exact z2
    · have hb : below xs xs[i] < xs.size := by omega
      have a := h3 _ hb (Nat.le_refl _)
      have mono := List.pairwise_iff_getElem.mp up (below xs xs[i]) i (by simpa using hb) (by simpa using h) (by omega)
      simp at mono
      omega
  · have := h2 i h (by omega)
    omega
theorem slot_live {t : SetTable} (up : t.place.toList.Pairwise (· < ·)) {j : Nat} (h : j ∈ t.place.toList) : ∃ i, t.slot j = .live i := by
  obtain ⟨i, hi, e⟩ := List.getElem_of_mem h
  have hi' : i < t.place.size := by simpa using hi
  have e' : t.place[i] = j := by simpa using e
  refine ⟨below t.place j, ?_⟩
  unfold slot
  dsimp only
  rw [if_pos]
  rw [← e', below_at up hi', Array.getElem?_eq_getElem hi']
  simp
theorem slot_empty {t : SetTable} (hd : t.dummies = #[]) {j : Nat} (h : j ∉ t.place.toList) : t.slot j = .empty := by
  unfold slot
  dsimp only
  rw [if_neg, if_neg]
  · unfold has
    rw [hd]
    simp
  · intro z
    have z' : t.place[below t.place j]? = some j := by simpa using z
    exact h (by simpa using Array.mem_of_getElem? z')
theorem run_ok {t : SetTable} (hd : t.dummies = #[]) (up : t.place.toList.Pairwise (· < ·)) (h : Int) : ∀ (more f : Nat) (p : Probe), p.more = more → p.dummy = none →
    (∃ j, probe.go t (fun _ => h + 1) h (f + more + 1) p = some (.empty j none) ∧ j ∉ t.place.toList) ∨
    (p.j ∈ t.place.toList ∧ probe.go t (fun _ => h + 1) h (f + more + 1) p = probe.go t (fun _ => h + 1) h f { p with j := (leap t.mask p.i p.perturb).1, more := runEnd t.mask (leap t.mask p.i p.perturb).1 - (leap t.mask p.i p.perturb).1, i := (leap t.mask p.i p.perturb).1, perturb := (leap t.mask p.i p.perturb).2 })
  | more, f, p, hm, hn => by
    by_cases hj : p.j ∈ t.place.toList
    · obtain ⟨i, hi⟩ := slot_live up hj
      have hh : ((h + 1 : Int) == h) = false := by
        rw [beq_eq_false_iff_ne]
        omega
      have e1 : probe.go t (fun _ => h + 1) h (f + more + 1) p = probe.go t (fun _ => h + 1) h (f + more) (t.advance p) := by
        rw [probe.go, hi]
        dsimp only
        rw [hh]
        rfl
      match more, hm with
      | 0, hm =>
        refine .inr ⟨hj, ?_⟩
        rw [e1]
        unfold advance
        rw [if_neg (by omega)]
        rfl
      | m + 1, hm =>
        have ea : t.advance p = { p with j := p.j + 1, more := m } := by
          unfold advance
          rw [if_pos (by omega), hm]
          rfl
        rw [e1, ea, show f + (m + 1) = f + m + 1 from by omega]
        rcases run_ok hd up h m f { p with j := p.j + 1, more := m } rfl hn with ⟨j, e, q⟩ | ⟨_, e⟩
        · exact .inl ⟨j, e, q⟩
        · exact .inr ⟨hj, e⟩
    · refine .inl ⟨p.j, ?_, hj⟩
      rw [probe.go, slot_empty hd hj]
      dsimp only
      rw [hn]
termination_by more => more
theorem go_ok {t : SetTable} (hd : t.dummies = #[]) (up : t.place.toList.Pairwise (· < ·)) (h : Int) : ∀ (T n : Nat) (p : Probe), p.j = p.i → p.more ≤ 9 → p.dummy = none → n ≤ T → (lp t.mask n p.i p.perturb).1 ∉ t.place.toList →
    ∀ f, 10 * (T + 1) ≤ f → ∃ j, probe.go t (fun _ => h + 1) h f p = some (.empty j none) ∧ j ∉ t.place.toList := by
  intro T
  induction T with
  | zero =>
    intro n p hj hm hn hnT hx f hf
    obtain rfl : n = 0 := by omega
    rcases run_ok hd up h p.more (f - p.more - 1) p rfl hn with ⟨j, e, q⟩ | ⟨hin, e⟩
    · rw [show f - p.more - 1 + p.more + 1 = f from by omega] at e
      exact ⟨j, e, q⟩
    · exact absurd (hj ▸ hin) hx
  | succ T ih =>
    intro n p hj hm hn hnT hx f hf
    rcases run_ok hd up h p.more (f - p.more - 1) p rfl hn with ⟨j, e, q⟩ | ⟨hin, e⟩
    · rw [show f - p.more - 1 + p.more + 1 = f from by omega] at e
      exact ⟨j, e, q⟩
    · rw [show f - p.more - 1 + p.more + 1 = f from by omega] at e
      rw [e]
      cases n with
      | zero => exact absurd (hj ▸ hin) hx
      | succ n =>
        refine ih n { p with j := (leap t.mask p.i p.perturb).1, more := runEnd t.mask (leap t.mask p.i p.perturb).1 - (leap t.mask p.i p.perturb).1, i := (leap t.mask p.i p.perturb).1, perturb := (leap t.mask p.i p.perturb).2 } rfl ?_ hn (by omega) hx (f - p.more - 1) (by omega)
        show runEnd t.mask _ - _ ≤ 9
        unfold runEnd
        split <;> omega
theorem sub_len {α : Type} [DecidableEq α] : ∀ {r l : List α}, r.Nodup → (∀ x ∈ r, x ∈ l) → r.length ≤ l.length
  | [], _, _, _ => Nat.zero_le _
  | x :: r, l, nd, h => by
    obtain ⟨nx, nd⟩ := List.nodup_cons.mp nd
    have hx := h x List.mem_cons_self
    have ih := sub_len (r := r) (l := l.erase x) nd fun y hy => (List.mem_erase_of_ne (show y ≠ x from fun e => nx (by rw [← e]; exact hy))).mpr (h y (List.mem_cons_of_mem _ hy))
    rw [List.length_erase_of_mem hx] at ih
    have := List.length_pos_of_mem hx
    rw [List.length_cons]
    omega
theorem freeSlot_ok {t : SetTable} {n : Nat} (T : Tab t n) (h : Int) : ∃ j, t.freeSlot h = some (j, false) ∧ j ∉ t.place.toList := by
  have hi : bits h % (t.mask + 1) ≤ t.mask := by have := Nat.mod_lt (bits h) (show 0 < t.mask + 1 by omega); omega
  have hex : ∃ j, j ≤ t.mask ∧ j ∉ t.place.toList := by
    by_cases z : ∃ j, j ≤ t.mask ∧ j ∉ t.place.toList
    · exact z
    · have nd : (List.range (t.mask + 1)).Nodup := List.nodup_range
      have hsub : List.range (t.mask + 1) ⊆ t.place.toList := fun x hx => by
        by_cases q : x ∈ t.place.toList
        · exact q
        · exact absurd ⟨x, by have := List.mem_range.mp hx; omega, q⟩ z
      have hl := sub_len nd fun x hx => hsub hx
      rw [List.length_range, Array.length_toList, T.sz] at hl
      have := T.fu
      omega
  obtain ⟨j0, h0, hj0⟩ := hex
  obtain ⟨k, hk, ek⟩ := met T.ma hi (bits_lt h) h0
  have ht : 0 < turns t.mask := by unfold turns; omega
  obtain ⟨j, e, q⟩ := go_ok T.du T.up h (turns t.mask - 1) k (t.probeStart h) rfl (by show runEnd t.mask _ - _ ≤ 9; unfold runEnd; split <;> omega) rfl (by omega) (by show (lp t.mask k (bits h % (t.mask + 1)) (bits h)).1 ∉ _; rw [ek]; exact hj0) (10 * turns t.mask) (by omega)
  refine ⟨j, ?_, q⟩
  unfold freeSlot probe
  rw [e]
  rfl
end SU

namespace SU
open PySem PySem.SetTable
theorem up_insert {xs : Array Nat} {j : Nat} (up : xs.toList.Pairwise (· < ·)) (hj : j ∉ xs.toList) : (insertAt xs (below xs j) j).toList.Pairwise (· < ·) := by
  obtain ⟨_, h2, h3⟩ := below_ok (j := j) up
  rw [SetTable.toList_insertAt]
  generalize below xs j = p at h2 h3
  have ht : ∀ x ∈ xs.toList.take p, x < j := fun x hx => by
    obtain ⟨i, hi, e⟩ := List.getElem_of_mem hx
    rw [List.length_take] at hi
    rw [List.getElem_take] at e
    have := h2 i (by rw [Array.length_toList] at hi; omega) (by omega)
    rw [← e]
    simpa using this
  have hd : ∀ x ∈ xs.toList.drop p, j < x := fun x hx => by
    have hne : x ≠ j := fun z => hj (z ▸ List.mem_of_mem_drop hx)
    obtain ⟨i, hi, e⟩ := List.getElem_of_mem hx
    rw [List.length_drop, Array.length_toList] at hi
    rw [List.getElem_drop] at e
    have := h3 (p + i) (by omega) (by omega)
    have e' : xs[p + i]'(by omega) = x := by simpa using e
    omega
  rw [List.pairwise_append]
  refine ⟨up.sublist (List.take_sublist _ _), List.pairwise_cons.mpr ⟨hd, up.sublist (List.drop_sublist _ _)⟩, fun a ha b hb => ?_⟩
  have h1 := ht a ha
  rcases List.mem_cons.mp hb with e | hb
  · omega
  · have := hd b hb
    omega
theorem layNew_ok {t : SetTable} {es : Array (Int × Value)} (T : Tab t es.size) (h : Int) (x : Value) :
    ∃ es' t', layNew t es h x = (es', t', false, false) ∧ es'.toList.Perm (es.toList ++ [(h, x)]) ∧ t'.place.size = es.size + 1 ∧ t'.dummies = #[] ∧ t'.place.toList.Pairwise (· < ·) ∧ t'.plain = true ∧ t'.led = t.led ∧ t'.mask = t.mask := by
  obtain ⟨j, hj, hn⟩ := freeSlot_ok T h
  have hp := layNew_perm t es h x
  have hdu : (if has t.dummies j then eraseAt t.dummies (below t.dummies j) else t.dummies) = #[] := by
    rw [T.du]
    simp [has]
  have hps : (insertAt t.place (below t.place j) j).size = es.size + 1 := by
    have := (SetTable.insertAt_perm t.place (below t.place j) j).length_eq
    rw [Array.toList_push, List.length_append, Array.length_toList, Array.length_toList, T.sz] at this
    exact this
  have hes : (insertAt es (below t.place j) (h, x)).size = es.size + 1 := by
    have := (SetTable.insertAt_perm es (below t.place j) (h, x)).length_eq
    rw [Array.toList_push, List.length_append, Array.length_toList, Array.length_toList] at this
    exact this
  have hma := T.fu
  have hm7 : 7 ≤ t.mask := by rcases T.ma with e | e | e | e | e | e <;> omega
  have hfit : (t.put j).1.fits (es.size + 1) = true := by
    unfold SetTable.fits SetTable.fill put
    dsimp only
    rw [hdu, hps]
    simp
    omega
  have e : layNew t es h x = (insertAt es (below t.place j) (h, x), (t.put j).1, false, false) := by
    unfold layNew
    rw [hj]
    dsimp only
    show (insertAt es (t.put j).2 (h, x), (t.put j).1.orStandIn (insertAt es (t.put j).2 (h, x)).size, false, !(t.put j).1.fits (insertAt es (t.put j).2 (h, x)).size) = _
    rw [show (t.put j).2 = below t.place j from rfl, hes, hfit]
    unfold SetTable.orStandIn
    rw [if_pos hfit]
    rfl
  rw [e] at hp
  rw [Array.toList_push] at hp
  exact ⟨_, _, e, hp, hps, hdu, up_insert T.up hn, T.pl, rfl, rfl⟩
def keyOf (e : Int × Value) : Int := match e.2 with
  | .int k _ => k
  | _ => 0
def byT (w : World) : Bool := w.params.followText "set-order"
structure SObj (prog : Program) (w : World) (o : Obj) (ks : List Int) : Prop where
  xs : o.ExactSet
  ex : ∃ es ep t, o.data = .set es ep t ∧ ElemsOf (intKind prog w) es.toList ∧ Tab t es.size ∧ (byT w = true ∨ t.led = true) ∧ es.toList.map keyOf = ks
  nd : ks.Nodup
theorem el_int {prog : Program} {w : World} {es : List (Int × Value)} (h : ElemsOf (intKind prog w) es) {e : Int × Value} (he : e ∈ es) : ∃ tok, e = (hashInt (keyOf e), .int (keyOf e) tok) := by
  obtain ⟨⟨k, hk, hh⟩, _⟩ := h e he
  obtain ⟨t, ht⟩ := Value.isInt_shape (show Value.isInt k e.2 = true from hk)
  obtain ⟨a, b⟩ := e
  have ht' : b = .int k t := ht
  have hh' : a = hashInt k := hh
  subst ht' hh'
  exact ⟨t, rfl⟩
theorem is_iff {prog : Program} {w : World} {es : List (Int × Value)} (h : ElemsOf (intKind prog w) es) {e : Int × Value} (he : e ∈ es) (k : Int) : (intKind prog w).is k e.2 = true ↔ keyOf e = k := by
  obtain ⟨tok, ee⟩ := el_int h he
  constructor
  · intro hk
    obtain ⟨t, ht⟩ := Value.isInt_shape (show Value.isInt k e.2 = true from hk)
    unfold keyOf
    rw [ht]
  · intro hk
    rw [ee]
    show Value.isInt k (.int (keyOf e) tok) = true
    rw [hk]
    simp [Value.isInt]
section
variable {prog : Program} {w : World} {A : Around} {E : Value → Shared → Prop} {s : Shared}
theorem add_one {a : Addr} {o : Obj} {ks : List Int} {k : Int} {tok : Tok} {Q : Bool → Shared → Prop} (ho : s.heap.get? a = some o) (S : SObj prog w o ks) (hl : ks.length < 60)
    (h : ∀ (h' : Heap) (o' : Obj) (ks' : List Int), Heap.SameBut a s.heap h' → h'.get? a = some o' → SObj prog w o' ks' → (ks'.Perm (if k ∈ ks then ks else ks ++ [k])) → Q (!decide (k ∈ ks)) { s with heap := h' }) :
    wpAny (model prog w) A (setAddHashed a (.int k tok) (hashInt k)) Q E s := by
  obtain ⟨es, ep, t, hd, hel, T, hled, hks⟩ := S.ex
  have hsz : es.size = ks.length := by rw [← hks, List.length_map, Array.length_toList]
  have hb : es.size < scanBound := by have : scanBound = 4096 := rfl; omega
  have hkey : (intKind prog w).is k (.int k tok) = true := by show Value.isInt k (.int k tok) = true; simp [Value.isInt]
  unfold setAddHashed setAddHashedIn
  refine wpAny_holding (wpAny_bind (wpAny_setState_of ho hd T.fits ?_))
  dsimp only
  rw [byScan_of rfl hb hel]
  simp only [↓reduceIte]
  unfold setAddByScan
  refine wpAny_bind (wpAny_bind (wpAny_rule (wpAny_bind (wpAny_setScan_of hkey ho hd T.fits hel ?_))))
  cases hr : List.findIdx? (fun e => (intKind prog w).is k e.2) es.toList with
  | some j =>
    dsimp only
    obtain ⟨hj, hpj, _⟩ := List.findIdx?_eq_some_iff_getElem.mp hr
    have hin : k ∈ ks := by
      rw [← hks]
      exact List.mem_map.mpr ⟨_, List.getElem_mem hj, (is_iff hel (List.getElem_mem hj) k).mp hpj⟩
    refine wpAny_pure (wpAny_pure ?_)
    have := h s.heap o ks (Heap.SameBut.refl a s.heap) ho S (by rw [if_pos hin])
    rw [decide_eq_true hin] at this
    exact this
  | none =>
    dsimp only
    have hout : k ∉ ks := fun hin => by
      rw [← hks] at hin
      obtain ⟨e, he, ek⟩ := List.mem_map.mp hin
      have := List.findIdx?_eq_none_iff.mp hr e he
      rw [(is_iff hel he k).mpr ek] at this
      cases this
    have h' := fun (h' : Heap) (o' : Obj) (ks' : List Int) a1 a2 a3 (a4 : ks'.Perm (ks ++ [k])) => h h' o' ks' a1 a2 a3 (by rw [if_neg hout]; exact a4)
    rw [decide_eq_false hout] at h'
    obtain ⟨es1, t1, e1, hp1, z1, d1, u1, p1, l1, m1⟩ := layNew_ok T (hashInt k) (.int k tok)
    rw [e1]
    dsimp only
    refine wpAny_bind (wpAny_pure ?_)
    rw [if_pos p1]
    refine wpAny_bind ?_
    rw [hashByValue_scannable 8 rfl]
    refine wpAny_pure ?_
    have hs1 : es1.size = es.size + 1 := by
      have := hp1.length_eq
      rw [List.length_append, Array.length_toList, Array.length_toList] at this
      exact this
    have hel1 : ElemsOf (intKind prog w) es1.toList := (hel.push hkey rfl).perm hp1
    have hk1 : (es1.toList.map keyOf).Perm (ks ++ [k]) := by
      refine (hp1.map keyOf).trans ?_
      rw [List.map_append, hks]
      exact List.Perm.refl _
    have nd1 : (es1.toList.map keyOf).Nodup := hk1.nodup_iff.mpr ((List.perm_append_singleton k ks).nodup_iff.mpr (List.nodup_cons.mpr ⟨hout, S.nd⟩))
    have hz1 : es1.size ≤ sizeLine := by have : sizeLine ≥ 1000 := by decide
                                         omega
    rw [show (if plainKind (Value.int k tok) = true then t1 else { t1 with plain := false }) = t1 from rfl]
    refine wpAny_bind (wpAny_storeSet_of ho hd ?_ hz1)
    have g1 : (s.heap.update a (Obj.putSet es1 t1)).get? a = some { o with data := .set es1 (ep + 1) t1 } := by
      have := Heap.get?_update_self (Obj.putSet es1 t1) ho (by rw [putSet_of es1 t1 hd]; rfl)
      rw [putSet_of es1 t1 hd] at this; exact this
    by_cases htf : t1.tooFull = true
    · rw [if_pos (by rw [htf]; rfl)]
      obtain ⟨es2, t2, e2, hp2, T2, l2⟩ := relayAll_ok (t := t1) (es := es1) (.inr ⟨p1, by rw [z1, hs1]⟩) (by omega) (by omega)
      rw [e2]
      dsimp only
      have hs2 : es2.size = es1.size := by rw [← Array.length_toList, hp2.length_eq, Array.length_toList]
      refine wpAny_bind (wpAny_pure (wpAny_bind (wpAny_storeSet_of (s := { s with heap := s.heap.update a (Obj.putSet es1 t1) }) g1 rfl ?_ (by omega))))
      refine wpAny_pure (wpAny_pure (h' _ { o with data := .set es2 (ep + 1 + 1) t2 } (es2.toList.map keyOf) ((Heap.SameBut.update s.heap a _).trans (Heap.SameBut.update _ a _)) ?_ ⟨S.xs, ⟨es2, _, t2, rfl, hel1.perm hp2, by rw [hs2]; exact T2, by rw [l2, l1]; exact hled, rfl⟩, ?_⟩ ?_))
      · have := Heap.get?_update_self (Obj.putSet es2 t2) g1 (by rw [putSet_of es2 t2 rfl]; rfl)
        rw [putSet_of es2 t2 rfl] at this; exact this
      · exact (hp2.map keyOf).nodup_iff.mpr nd1
      · exact (hp2.map keyOf).trans hk1
    · rw [if_neg (by simpa using htf)]
      have T1 : Tab t1 es1.size := by
        refine ⟨by rw [m1]; exact T.ma, by rw [z1, hs1], d1, u1, ?_, p1⟩
        unfold tooFull SetTable.fill at htf
        rw [z1, d1] at htf
        simp at htf
        rw [hs1]
        omega
      exact wpAny_pure (wpAny_pure (h' _ { o with data := .set es1 (ep + 1) t1 } (es1.toList.map keyOf) (Heap.SameBut.update s.heap a _) g1 ⟨S.xs, ⟨es1, _, t1, rfl, hel1, T1, by rw [l1]; exact hled, rfl⟩, nd1⟩ hk1))
end
end SU

namespace SU
open PySem PySem.SetTable PySem.Builtin.Frozenset
section
variable {prog : Program} {w : World} {A : Around} {E : Value → Shared → Prop} {s : Shared}
theorem stored {h : Heap} {a : Addr} {o : Obj} {es es' : Array (Int × Value)} {ep : Nat} {t t' : SetTable} (ho : h.get? a = some o) (hd : o.data = .set es ep t) :
    (h.update a (Obj.putSet es' t')).get? a = some { o with data := .set es' (ep + 1) t' } := by
  have := Heap.get?_update_self (Obj.putSet es' t') ho (by rw [putSet_of es' t' hd]; rfl)
  rw [putSet_of es' t' hd] at this
  exact this
theorem room_for {a : Addr} {o : Obj} {ks : List Int} {more : Nat} {Q : Unit → Shared → Prop} (ho : s.heap.get? a = some o) (S : SObj prog w o ks) (hl : ks.length + more ≤ 120)
    (h : ∀ (h' : Heap) (o' : Obj) (ks' : List Int), Heap.SameBut a s.heap h' → h'.get? a = some o' → SObj prog w o' ks' → ks'.Perm ks → (∀ es ep t, o'.data = .set es ep t → (ks.length + more) * 5 < t.mask * 3) → Q () { s with heap := h' }) :
    wpAny (model prog w) A (setRoomFor a more) Q E s := by
  obtain ⟨es, ep, t, hd, hel, T, hled, hks⟩ := S.ex
  have hsz : es.size = ks.length := by rw [← hks, List.length_map, Array.length_toList]
  unfold setRoomFor
  refine wpAny_bind (wpAny_setState_of ho hd T.fits ?_)
  dsimp only
  unfold roomFor
  by_cases hc : (t.fill + more) * 5 ≥ t.mask * 3
  · rw [if_pos hc]
    dsimp only
    unfold setRelay
    refine wpAny_bind (wpAny_setState_of ho hd T.fits ?_)
    dsimp only
    obtain ⟨hm, hle, h256⟩ := sizeAbove_ok (n := (t.place.size + more) * 2) (by rw [T.sz]; omega)
    rw [if_neg (by have : sizeLine ≥ 1000 := by decide
                   omega)]
    have h7 : 7 ≤ sizeAbove ((t.place.size + more) * 2) - 1 := by rcases hm with e | e | e | e | e | e <;> omega
    obtain ⟨t', order, e, T', hl', hmm, hp⟩ := laid_ok (m := sizeAbove ((t.place.size + more) * 2) - 1) (fi := t.finger) (mo := t.movedTo (sizeAbove ((t.place.size + more) * 2) - 1)) (led := t.led) (hs := es.map (·.1)) hm
      (by rw [Array.size_map]; rw [T.sz] at hle h7 ⊢; omega)
    rw [Array.size_map] at hp T'
    have hre : t.relaid (es.map (·.1)) ((t.place.size + more) * 2) = some (t', order) := by
      unfold relaid
      rw [T.pl]
      exact e
    rw [hre]
    have hperm := re_perm hp
    have hs2 : (order.filterMap (es[·]?)).size = es.size := by rw [← Array.length_toList, hperm.length_eq, Array.length_toList]
    refine wpAny_bind ?_
    show wpAny _ _ (if ((order.filterMap (es[·]?)).size != es.size) = true then _ else pure (order.filterMap (es[·]?), t')) _ _ _
    rw [if_neg (by rw [hs2]; simp)]
    refine wpAny_pure ?_
    dsimp only
    refine wpAny_storeSet_of ho hd ?_ (by have : sizeLine ≥ 1000 := by decide
                                          omega)
    refine h _ { o with data := .set (order.filterMap (es[·]?)) (ep + 1) t' } ((order.filterMap (es[·]?)).toList.map keyOf) (Heap.SameBut.update s.heap a _) (stored ho hd) ⟨S.xs, ⟨_, _, t', rfl, hel.perm hperm, by rw [hs2]; exact T', by rw [hl']; exact hled, rfl⟩, ?_⟩ ?_ ?_
    · exact (hperm.map keyOf).nodup_iff.mpr (by rw [hks]; exact S.nd)
    · rw [← hks]; exact hperm.map keyOf
    · intro es2 ep2 t2 hd2
      injection hd2 with _ _ q
      rw [← q, hmm]
      rw [T.sz] at hle h7 ⊢
      omega
  · rw [if_neg hc]
    dsimp only
    refine wpAny_pure (h s.heap o ks (Heap.SameBut.refl a s.heap) ho S (List.Perm.refl _) fun es2 ep2 t2 hd2 => ?_)
    rw [hd] at hd2
    injection hd2 with _ _ q
    rw [← q]
    have hfill : t.fill = ks.length := by unfold SetTable.fill; rw [T.sz, T.du, hsz]; rfl
    omega
end
end SU

namespace SU
open PySem PySem.SetTable PySem.Builtin.Frozenset
theorem sub_dict_set : isSubtype (.type "dict") (.type "set") = pure false := by rw [isSubtype_type]; kernel_rfl
theorem sub_dict_frozenset : isSubtype (.type "dict") (.type "frozenset") = pure false := by rw [isSubtype_type]; kernel_rfl
section
variable {prog : Program} {w : World} {A : Around} {E : Value → Shared → Prop} {s : Shared}
theorem not_any {v : Value} {T : String} {Q : Bool → Shared → Prop} (hT : s.TypeIs v T) (h1 : isSubtype (.type T) (.type "set") = pure false) (h2 : isSubtype (.type T) (.type "frozenset") = pure false) (h : Q false s) : wpAny (model prog w) A (isAnySet v) Q E s := by
  unfold isAnySet
  refine wpAny_bind (wpAny_isInstance hT h1 ?_)
  exact wpAny_isInstance hT h2 h
theorem from_dict {a d : Addr} {o : Obj} {ns : List Int} {vs : List (L2.Key × Value)} {ep : Nat} {id : String} {Q : Unit → Shared → Prop} (ho : s.heap.get? a = some o) (S : SObj prog w o []) (hd : s.heap.DictAt (L2.mixKind prog w) d vs ep) (hs : (d == sysModules) = false) (had : a ≠ d) (ek : vs.map (·.1) = ns.map Sum.inl) (hl : ns.length ≤ 60) (nd : ns.Nodup)
    (h : ∀ (h' : Heap) (o' : Obj) (ks' : List Int), Heap.SameBut a s.heap h' → h'.get? a = some o' → SObj prog w o' ks' → ks'.Perm ns → Q () { s with heap := h' }) :
    wpAny (model prog w) A (updateFrom id a (.ref d)) Q E s := by
  have hd0 := hd
  obtain ⟨od, des, hod, hex, hdd, hkeys, hpairs, _⟩ := hd0
  have hT : s.TypeIs (.ref d) "dict" := hd.dictOf.typeIs
  have hvl : vs.length = ns.length := by have := congrArg List.length ek; rw [List.length_map, List.length_map] at this; exact this
  have hdl : des.size = ns.length := by rw [← Array.length_toList, hpairs.length, hvl]
  unfold updateFrom
  refine wpAny_bind (not_any hT sub_dict_set sub_dict_frozenset ?_)
  rw [if_neg (by simp)]
  refine wpAny_bind (wpAny_typeOf hT ?_)
  rw [if_pos (by rfl)]
  refine wpAny_bind (wpAny_rule ?_)
  refine wpAny_bind (m := addrOf (.ref d)) (wpAny_pure ?_)
  rw [if_neg (by rw [hs]; simp)]
  refine wpAny_bind (wpAny_dictEpoch hod hdd ?_)
  refine wpAny_bind (wpAny_dictEntries hod hdd ?_)
  refine wpAny_bind (room_for ho S (by simp; omega) fun h1 o1 k1 sb1 g1 S1 p1 _ => ?_)
  have k10 : k1 = [] := List.perm_nil.mp p1
  subst k10
  have hod1 : h1.get? d = some od := (sb1.2 d had.symm).trans hod
  refine wpAny_bind (wpAny_dictEntries (s := { s with heap := h1 }) hod1 hdd ?_)
  refine wpAny_bind ?_
  rw [Std.Legacy.Range.forIn_eq_forIn_range']
  simp only [Std.Legacy.Range.size, Nat.sub_zero, Nat.add_sub_cancel, Nat.div_one]
  refine wpAny_forIn_list _ (fun rest _ s' => ∃ (i : Nat) (h' : Heap) (o' : Obj) (ks' : List Int), rest = List.range' i (des.size - i) ∧ i ≤ des.size ∧ s' = { s with heap := h' } ∧ Heap.SameBut a s.heap h' ∧ h'.get? a = some o' ∧ SObj prog w o' ks' ∧ ks'.Perm (ns.take i)) _ ?_ ?_ _ _
    ⟨0, h1, o1, [], by simp, Nat.zero_le _, rfl, sb1, g1, S1, List.Perm.refl _⟩
  · rintro x rest _ s' ⟨i, h', o', ks', hr, hi, rfl, sb', g', S', p'⟩
    have hlt : i < des.size := by
      rcases Nat.lt_or_ge i des.size with z | z
      · exact z
      · rw [Nat.sub_eq_zero_of_le z] at hr; simp at hr
    obtain ⟨rfl, hrest⟩ : x = i ∧ rest = List.range' (i + 1) (des.size - (i + 1)) := by
      rw [show des.size - i = (des.size - (i + 1)) + 1 from by omega, List.range'_succ] at hr
      injection hr with q1 q2
      exact ⟨q1, q2⟩
    have hodx : h'.get? d = some od := (sb'.2 d had.symm).trans hod
    refine wpAny_bind (wpAny_dictEntries (s := { s with heap := h' }) hodx hdd ?_)
    rw [Array.getElem?_eq_getElem hlt]
    dsimp only
    have hxv : x < vs.length := by omega
    have hxn : x < ns.length := by omega
    obtain ⟨hkey, _⟩ := hpairs.get? (i := x) (e := des[x]) (k := vs[x].1) (v := vs[x].2) (by rw [Array.getElem?_toList]; exact Array.getElem?_eq_getElem hlt) (by rw [List.getElem?_eq_getElem hxv])
    have ekx : vs[x].1 = Sum.inl ns[x] := by
      have := congrArg (fun l => l[x]?) ek
      simp only [List.getElem?_map, List.getElem?_eq_getElem hxv, List.getElem?_eq_getElem hxn, Option.map_some] at this
      exact Option.some.inj this
    rw [ekx] at hkey
    obtain ⟨k2, hk2, hh2⟩ := hkeys des[x] (Array.getElem_mem hlt)
    have e2 : k2 = Sum.inl ns[x] := (L2.mixKind prog w).inj _ _ _ hk2 hkey
    rw [e2] at hh2
    obtain ⟨tok, htok⟩ := Value.isInt_shape (show Value.isInt ns[x] des[x].key = true from hkey)
    have hh3 : des[x].hash = hashInt ns[x] := hh2
    rw [htok, hh3]
    have hpl := p'.length_eq
    rw [List.length_take] at hpl
    have hnew : ns[x] ∉ ks' := fun z => by
      have z2 := p'.mem_iff.mp z
      obtain ⟨j, hj, ej⟩ := List.getElem_of_mem z2
      rw [List.length_take] at hj
      rw [List.getElem_take] at ej
      have := (List.getElem_inj nd).mp ej
      omega
    refine wpAny_bind (wpAny_holding (add_one (s := { s with heap := h' }) g' S' (by omega) fun h2 o2 k2 sb2 g2 S2 p2 => ?_))
    have hod2 : h2.get? d = some od := (sb2.2 d had.symm).trans hodx
    refine wpAny_bind (wpAny_dictEpoch (s := { s with heap := h2 }) hod2 hdd ?_)
    rw [if_neg (by simp)]
    rw [if_neg hnew] at p2
    refine wpAny_pure ⟨x + 1, h2, o2, k2, hrest, hlt, rfl, sb'.trans sb2, g2, S2, p2.trans ?_⟩
    rw [List.take_add_one, List.getElem?_eq_getElem hxn]
    exact p'.append_right _
  · rintro _ s' ⟨i, h', o', ks', hr, hi, rfl, sb', g', S', p'⟩
    have e : i = des.size := by
      rcases Nat.lt_or_ge i des.size with z | z
      · rw [show des.size - i = (des.size - i - 1) + 1 from by omega, List.range'_succ] at hr
        cases hr
      · omega
    subst e
    rw [List.take_of_length_le (by omega)] at p'
    exact wpAny_pure (h h' o' ks' sb' g' S' p')
end
end SU

namespace SU
open PySem PySem.SetTable PySem.Builtin.Frozenset
theorem pick_go {α : Type} (next : Nat → Nat) : ∀ (fuel k : Nat) (left : List α) (out : Array α), left.length = fuel → (pickOrder.go next fuel k left out).toList.Perm (out.toList ++ left)
  | 0, _, left, out, h => by
    rw [List.length_eq_zero_iff.mp h, List.append_nil]
    exact List.Perm.refl _
  | fuel + 1, k, left, out, h => by
    have hlt : next k % left.length < left.length := Nat.mod_lt _ (by omega)
    unfold pickOrder.go
    rw [List.getElem?_eq_getElem hlt]
    dsimp only
    have ih := pick_go next fuel (k + 1) (left.eraseIdx (next k % left.length)) (out.push left[next k % left.length]) (by rw [List.length_eraseIdx_of_lt hlt]; omega)
    refine ih.trans ?_
    rw [Array.toList_push, List.append_assoc]
    refine List.Perm.append_left _ ?_
    generalize next k % left.length = i at hlt
    have e : left = left.take i ++ left[i] :: left.drop (i + 1) := by rw [← List.drop_eq_getElem_cons hlt, List.take_append_drop]
    rw [List.eraseIdx_eq_take_drop_succ]
    show (left[i] :: (left.take i ++ left.drop (i + 1))).Perm left
    refine List.perm_middle.symm.trans ?_
    rw [← e]
theorem pick_perm {α : Type} (next : Nat → Nat) (xs : Array α) : (pickOrder next xs).toList.Perm xs.toList := by
  have := pick_go next xs.size 0 xs.toList #[] (by rw [Array.length_toList])
  exact this
section
variable {prog : Program} {w : World} {A : Around} {E : Value → Shared → Prop} {s : Shared}
theorem text_ok {Q : Bool → Shared → Prop} (h : Q (byT w) s) : wpAny (model prog w) A setsByText Q E s := by
  unfold setsByText
  exact wpAny_bind (wpAny_askSetting (wpAny_pure h))
theorem walk_ok {a : Addr} {o : Obj} {es : Array (Int × Value)} {ep : Nat} {t : SetTable} {Q : Array (Int × Value) → Shared → Prop} (ho : s.heap.get? a = some o) (hd : o.data = .set es ep t) (T : Tab t es.size) (hl : byT w = true ∨ t.led = true)
    (h : ∀ es' : Array (Int × Value), es'.toList.Perm es.toList → Q es' s) : wpAny (model prog w) A (setWalk a) Q E s := by
  unfold setWalk
  refine wpAny_bind (wpAny_setState_of ho hd T.fits ?_)
  dsimp only
  refine wpAny_bind (text_ok ?_)
  by_cases hb : byT w = true
  · rw [if_pos hb]
    exact wpAny_bind (wpAny_askSetting (wpAny_pure (h _ (pick_perm _ _))))
  · rw [if_neg hb]
    have hled : t.led = true := by rcases hl with z | z; exact absurd z hb; exact z
    rw [if_neg (by show ¬ (!t.plain && decide (es.size > 1)) = true; rw [T.pl]; simp)]
    refine wpAny_bind ?_
    show wpAny _ _ (if (!t.led && decide (es.size > 1)) = true then _ else pure ()) _ _ _
    rw [if_neg (by rw [hled]; simp)]
    exact wpAny_pure (wpAny_pure (h es (List.Perm.refl _)))
theorem unseen_ok {a : Addr} {o : Obj} {es : Array (Int × Value)} {ep : Nat} {t : SetTable} {others : List Addr} {filled : Option Addr} {Q : Array (Int × Value) → Shared → Prop} (ho : s.heap.get? a = some o) (hd : o.data = .set es ep t) (T : Tab t es.size) (hl : byT w = true ∨ t.led = true)
    (h : ∀ es' : Array (Int × Value), es'.toList.Perm es.toList → Q es' s) : wpAny (model prog w) A (setWalkUnseen a others filled) Q E s := by
  unfold setWalkUnseen
  refine wpAny_bind (wpAny_setState_of ho hd T.fits ?_)
  dsimp only
  refine wpAny_bind (text_ok ?_)
  rw [if_pos (by rcases hl with z | z <;> simp [z, T.pl])]
  exact walk_ok ho hd T hl h
theorem merge_ok {a b : Addr} {oa ob : Obj} {ks ms : List Int} {each : Sem Unit} {Q : Unit → Shared → Prop} (hab : a ≠ b) (ha : s.heap.get? a = some oa) (hb : s.heap.get? b = some ob) (Sa : SObj prog w oa ks) (Sb : SObj prog w ob ms) {U : List Int} (hU : U.length < 60) (hk : ∀ k ∈ ks, k ∈ U) (hm : ∀ k ∈ ms, k ∈ U)
    (he : ∀ (s' : Shared) (Q' : Unit → Shared → Prop), s'.heap.get? b = some ob → Q' () s' → wpAny (model prog w) A each Q' E s')
    (h : ∀ (h' : Heap) (o' : Obj) (ks' : List Int), Heap.SameBut a s.heap h' → h'.get? a = some o' → SObj prog w o' ks' → (∀ k, k ∈ ks' ↔ k ∈ ks ∨ k ∈ ms) → Q () { s with heap := h' }) :
    wpAny (model prog w) A (setMerge a b each) Q E s := by
  obtain ⟨eb, epb, tb, hdb, helb, Tb, hledb, hkb⟩ := Sb.ex
  have hsb : eb.size = ms.length := by rw [← hkb, List.length_map, Array.length_toList]
  have hkU := sub_len Sa.nd hk
  have hmU := sub_len Sb.nd hm
  unfold setMerge
  rw [if_neg (by simpa using hab)]
  refine wpAny_bind (wpAny_setState_of hb hdb Tb.fits ?_)
  dsimp only
  by_cases hem : eb.isEmpty = true
  · rw [if_pos hem]
    have hm : ms = [] := List.length_eq_zero_iff.mp (by rw [← hsb]; simpa using hem)
    subst hm
    exact wpAny_pure (h s.heap oa ks (Heap.SameBut.refl a s.heap) ha Sa (fun k => by simp))
  rw [if_neg hem]
  refine wpAny_bind (room_for ha Sa (by omega) fun h1 o1 k1 sb1 g1 S1 p1 hrm => ?_)
  obtain ⟨e1, ep1, t1, hd1, hel1, T1, hled1, hk1⟩ := S1.ex
  have hb1 : h1.get? b = some ob := (sb1.2 b hab.symm).trans hb
  have hs1 : e1.size = k1.length := by rw [← hk1, List.length_map, Array.length_toList]
  have hkl := p1.length_eq
  refine wpAny_bind (wpAny_setState_of (s := { s with heap := h1 }) g1 hd1 T1.fits ?_)
  dsimp only
  have hfill : t1.fill = k1.length := by unfold SetTable.fill; rw [T1.sz, T1.du, hs1]; rfl
  have hszl : sizeLine ≥ 1000 := by decide
  have hled2 : byT w = true ∨ (t1.led && tb.led) = true := by
    rcases hled1 with z | z
    · exact .inl z
    · rcases hledb with y | y
      · exact .inl y
      · exact .inr (by rw [z, y]; rfl)
  unfold road
  by_cases hf : (t1.fill != 0) = true
  · -- one by one
    rw [if_pos hf]
    dsimp only
    refine wpAny_bind (unseen_ok (s := { s with heap := h1 }) hb1 hdb Tb hledb fun eb' hp => ?_)
    have hpl := hp.length_eq
    rw [Array.length_toList, Array.length_toList] at hpl
    refine wpAny_bind ?_
    refine wpAny_forIn_array' _ (fun rest _ s' => ∃ (h' : Heap) (o' : Obj) (ks' : List Int), s' = { s with heap := h' } ∧ Heap.SameBut a s.heap h' ∧ h'.get? a = some o' ∧ SObj prog w o' ks' ∧ (∀ e ∈ rest, e ∈ eb.toList) ∧ ∀ k, (k ∈ ks' ∨ k ∈ rest.map keyOf) ↔ (k ∈ ks ∨ k ∈ ms)) _ ?_ ?_ _ _ ?_
    · rintro e rest _ s' ⟨h', o', ks', rfl, sb', g', S', hmem, hiff⟩
      obtain ⟨tok, ee⟩ := el_int helb (hmem e List.mem_cons_self)
      have hbx : h'.get? b = some ob := (sb'.2 b hab.symm).trans hb
      have hl' := sub_len S'.nd (l := U) fun k z => ((hiff k).mp (.inl z)).elim (hk k) (hm k)
      generalize keyOf e = kx at ee
      subst ee
      dsimp only
      refine wpAny_bind (wpAny_holding (add_one (s := { s with heap := h' }) g' S' (by omega) fun h2 o2 k2 sb2 g2 S2 p2 => ?_))
      have hb2 : h2.get? b = some ob := (sb2.2 b hab.symm).trans hbx
      refine wpAny_bind (he _ _ hb2 ?_)
      refine wpAny_bind (wpAny_setState_of (s := { s with heap := h2 }) hb2 hdb Tb.fits ?_)
      dsimp only
      rw [if_neg (by simp)]
      refine wpAny_pure ⟨h2, o2, k2, rfl, sb'.trans sb2, g2, S2, fun e he => hmem e (List.mem_cons_of_mem _ he), fun k => ?_⟩
      · rw [← hiff k, p2.mem_iff]
        show _ ↔ (k ∈ ks' ∨ k ∈ kx :: rest.map keyOf)
        rw [List.mem_cons]
        by_cases hx : kx ∈ ks'
        · rw [if_pos hx]
          constructor
          · rintro (z | z)
            · exact .inl z
            · exact .inr (.inr z)
          · rintro (z | z | z)
            · exact .inl z
            · exact .inl (z ▸ hx)
            · exact .inr z
        · rw [if_neg hx, List.mem_append, List.mem_singleton]
          constructor
          · rintro ((z | z) | z)
            · exact .inl z
            · exact .inr (.inl z)
            · exact .inr (.inr z)
          · rintro (z | z | z)
            · exact .inl (.inl z)
            · exact .inl (.inr z)
            · exact .inr z
    · rintro _ s' ⟨h', o', ks', rfl, sb', g', S', _, hiff⟩
      exact wpAny_pure (h h' o' ks' sb' g' S' fun k => by have := hiff k; simpa using this)
    · refine ⟨h1, o1, k1, rfl, sb1, g1, S1, fun e he => hp.mem_iff.mp he, fun k => ?_⟩
      rw [p1.mem_iff, (hp.map keyOf).mem_iff, hkb]
  · rw [if_neg hf]
    have h0 : k1 = [] := List.length_eq_zero_iff.mp (by rw [← hfill]; simpa using hf)
    have hk0 : ks = [] := by rw [h0] at p1; exact List.nil_perm.mp p1
    subst hk0
    by_cases hr : (t1.mask == tb.mask && tb.dummies.isEmpty) = true
    · -- slot for slot
      rw [if_pos hr]
      dsimp only
      refine wpAny_storeSet_of (s := { s with heap := h1 }) g1 hd1 ?_ (by omega)
      refine h _ { o1 with data := .set eb (ep1 + 1) { tb with finger := t1.finger, led := t1.led && tb.led, moves := t1.moves, plain := t1.plain && tb.plain } } ms (sb1.trans (Heap.SameBut.update h1 a _)) (stored g1 hd1)
        ⟨S1.xs, ⟨eb, _, _, rfl, helb, ⟨Tb.ma, Tb.sz, Tb.du, Tb.up, Tb.fu, by show (t1.plain && tb.plain) = true; rw [T1.pl, Tb.pl]; rfl⟩, hled2, hkb⟩, Sb.nd⟩ fun k => by simp
    · -- laid anew
      rw [if_neg hr]
      dsimp only
      have hroom : eb.size * 5 < t1.mask * 3 := by
        have := hrm e1 ep1 t1 hd1
        rw [List.length_nil] at this
        omega
      obtain ⟨t', order, e, T', hl', _, hp⟩ := laid_ok (m := t1.mask) (fi := t1.finger) (mo := t1.moves) (led := t1.led && tb.led) (hs := eb.map (·.1)) T1.ma (by rw [Array.size_map]; exact hroom)
      rw [Array.size_map] at hp T'
      rw [show (t1.plain && tb.plain) = true from by rw [T1.pl, Tb.pl]; rfl, e]
      have hperm := re_perm hp
      have hs2 : (order.filterMap (eb[·]?)).size = eb.size := by rw [← Array.length_toList, hperm.length_eq, Array.length_toList]
      refine wpAny_bind ?_
      show wpAny _ _ (if ((order.filterMap (eb[·]?)).size != eb.size) = true then _ else pure (order.filterMap (eb[·]?), t')) _ _ _
      rw [if_neg (by rw [hs2]; simp)]
      refine wpAny_pure ?_
      dsimp only
      refine wpAny_storeSet_of (s := { s with heap := h1 }) g1 hd1 ?_ (by omega)
      refine h _ { o1 with data := .set (order.filterMap (eb[·]?)) (ep1 + 1) t' } ((order.filterMap (eb[·]?)).toList.map keyOf) (sb1.trans (Heap.SameBut.update h1 a _)) (stored g1 hd1)
        ⟨S1.xs, ⟨_, _, t', rfl, helb.perm hperm, by rw [hs2]; exact T', by rw [hl']; exact hled2, rfl⟩, (hperm.map keyOf).nodup_iff.mpr (by rw [hkb]; exact Sb.nd)⟩ fun k => ?_
      rw [(hperm.map keyOf).mem_iff, hkb]
      simp
end
end SU

namespace SU
open PySem PySem.SetTable PySem.Builtin.Frozenset
section
variable {prog : Program} {w : World} {A : Around} {E : Value → Shared → Prop} {s : Shared}
abbrev freshSet (w : World) : Obj := { cls := .type "set", dict := none, data := .set #[] 0 (.fresh 0 0 (!byT w)) }
theorem freshSet_ok (prog : Program) (w : World) : SObj prog w (freshSet w) [] := by
  refine ⟨⟨rfl, rfl, rfl⟩, ⟨#[], 0, .fresh 0 0 (!byT w), rfl, fun e he => by simp at he, ⟨.inl rfl, rfl, rfl, ?_, (by show 0 < 21; decide), rfl⟩, ?_, rfl⟩, List.nodup_nil⟩
  · exact List.Pairwise.nil
  · show byT w = true ∨ (!byT w) = true
    cases byT w
    · exact .inr rfl
    · exact .inl rfl
theorem new_set {Q : Value → Shared → Prop} (h : Q (.ref s.heap.objs.size) { s with heap := s.heap.push (freshSet w) }) : wpAny (model prog w) A (newSet (.type "set")) Q E s := by
  unfold newSet
  refine wpAny_bind (text_ok ?_)
  dsimp only
  simp only [newObj]
  exact wpAny_bind (wpAny_alloc (wpAny_pure h))
theorem base_set {a : Addr} {Q : Value → Shared → Prop} (hT : s.TypeIs (.ref a) "set") (h : Q (.type "set") s) : wpAny (model prog w) A (baseOf a) Q E s := by
  unfold baseOf
  refine wpAny_bind (wpAny_isInstance hT sub_set_self ?_)
  rw [if_pos rfl]
  exact wpAny_pure h
theorem is_any {a : Addr} {Q : Bool → Shared → Prop} (hT : s.TypeIs (.ref a) "set") (h : Q true s) : wpAny (model prog w) A (isAnySet (.ref a)) Q E s := by
  unfold isAnySet
  refine wpAny_bind (wpAny_isInstance hT sub_set_self ?_)
  exact wpAny_pure h
theorem set_or {a b : Addr} {oa ob : Obj} {ks ms : List Int} {Q : Value → Shared → Prop} (hab : a ≠ b) (ha : s.heap.get? a = some oa) (hb : s.heap.get? b = some ob) (Sa : SObj prog w oa ks) (Sb : SObj prog w ob ms) {U : List Int} (hU : U.length < 60) (hk : ∀ k ∈ ks, k ∈ U) (hm : ∀ k ∈ ms, k ∈ U)
    (h : ∀ (h' : Heap) (o' : Obj) (ks' : List Int), (∀ c o, s.heap.get? c = some o → h'.get? c = some o) → h'.get? s.heap.objs.size = some o' → SObj prog w o' ks' → (∀ k, k ∈ ks' ↔ k ∈ ks ∨ k ∈ ms) → Q (.ref s.heap.objs.size) { s with heap := h' }) :
    wpAny (model prog w) A (Builtin.«frozenset.__or__» ⟨[.ref a, .ref b], []⟩) (fun fin s' => ∃ v, fin = .done (.ret v) ∧ Q v s') E s := by
  have hTa : s.TypeIs (.ref a) "set" := ⟨oa, ha, Sa.xs.1⟩
  have hTb : s.TypeIs (.ref b) "set" := ⟨ob, hb, Sb.xs.1⟩
  have hla : a < s.heap.objs.size := Heap.lt_size ha
  have hlb : b < s.heap.objs.size := Heap.lt_size hb
  show wpAny _ _ (slot1 "__or__" ⟨[.ref a, .ref b], []⟩ >>= _) _ _ _
  refine wpAny_bind (m := slot1 "__or__" _) (wpAny_pure ?_)
  dsimp only
  refine wpAny_bind (wpAny_bind (is_any hTa ?_))
  refine is_any hTb ?_
  rw [if_neg (by simp)]
  refine wpAny_bind (m := addrOf (.ref a)) (wpAny_pure ?_)
  refine wpAny_bind ?_
  show wpAny _ _ (copyOf a >>= fun result => (if ((Value.ref b) != .ref a) = true then (addrOf result >>= fun r => holding [result] (updateFrom (toString "frozenset." ++ toString "__or__") r (.ref b)) >>= fun _ => pure result) else pure result)) _ _ _
  refine wpAny_bind ?_
  unfold copyOf
  refine wpAny_bind (base_set hTa (wpAny_bind (new_set (wpAny_bind (m := addrOf (.ref s.heap.objs.size)) (wpAny_pure ?_)))))
  have hr : (s.heap.push (freshSet w)).get? s.heap.objs.size = some (freshSet w) := Heap.get?_push_size _ rfl
  have ha1 : (s.heap.push (freshSet w)).get? a = some oa := Heap.get?_push_of_some _ ha
  have hb1 : (s.heap.push (freshSet w)).get? b = some ob := Heap.get?_push_of_some _ hb
  have nra : s.heap.objs.size ≠ a := Nat.ne_of_gt hla
  have nrb : s.heap.objs.size ≠ b := Nat.ne_of_gt hlb
  refine wpAny_bind (merge_ok (s := { s with heap := s.heap.push (freshSet w) }) nra hr ha1 (freshSet_ok prog w) Sa hU (fun k z => by cases z) hk (fun s' Q' _ q => wpAny_pure q) fun h1 o1 k1 sb1 g1 S1 e1 => ?_)
  refine wpAny_pure ?_
  have hb2 : h1.get? b = some ob := (sb1.2 b nrb.symm).trans hb1
  have hne : ((Value.ref b) != .ref a) = true := by simpa using fun z : b = a => hab z.symm
  rw [if_pos hne]
  have hTb2 : Shared.TypeIs { s with heap := h1 } (.ref b) "set" := ⟨ob, hb2, Sb.xs.1⟩
  obtain ⟨eb, epb, tb, hdb, helb, Tb, hledb, hkb⟩ := Sb.ex
  refine wpAny_bind (m := addrOf (.ref s.heap.objs.size)) (wpAny_pure ?_)
  refine wpAny_bind (wpAny_holding ?_)
  unfold updateFrom
  refine wpAny_bind (is_any hTb2 ?_)
  rw [if_pos rfl]
  refine wpAny_bind (m := addrOf (.ref b)) (wpAny_pure ?_)
  unfold merge
  refine wpAny_bind (wpAny_setEpoch_of (s := { s with heap := h1 }) hb2 hdb Tb.fits ?_)
  refine merge_ok (s := { s with heap := h1 }) nrb g1 hb2 S1 Sb hU (fun k z => ((e1 k).mp z).elim (fun z => by cases z) (hk k)) hm (fun s' Q' hb' q => ?_) fun h2 o2 k2 sb2 g2 S2 e2 => ?_
  · unfold unchanged
    refine wpAny_bind (wpAny_setEpoch_of hb' hdb Tb.fits ?_)
    rw [if_neg (by simp)]
    exact wpAny_pure q
  · refine wpAny_pure ?_
    refine wpAny_pure ⟨_, rfl, h h2 o2 k2 (fun c o e => ?_) g2 S2 fun k => ?_⟩
    · have nc : c ≠ s.heap.objs.size := Nat.ne_of_lt (Heap.lt_size e)
      rw [sb2.2 c nc, sb1.2 c nc]
      exact Heap.get?_push_of_some _ e
    · rw [e2 k, e1 k]
      simp
end
end SU

namespace SU
open PySem PySem.SetTable PySem.Builtin.Frozenset
set_option maxRecDepth 100000
theorem own_it : Manifest.owners.lookup (String.ofList ['r', 'o', 't', 'a', 'r', 'e', 't', 'i', '_', 't', 'e', 's'].reverse) = some Manifest.sig_set_iterator := by kernel_rfl
theorem sl_next : Slot "set_iterator" "__next__" "set_iterator.__next__" :=
  .of (n := "__next__") (owner := "set_iterator") (by rw [typeLookup_type, builtinLookup_eq_fast]; kernel_rfl) (by decide +kernel) (by decide +kernel) (by decide +kernel) (by first | exact .inl (by decide +kernel) | exact .inr (by decide +kernel)) (by rw [isSubtype_type]; kernel_rfl)
theorem ar_next (v : Value) : argsOk "set_iterator.__next__" ⟨[v], []⟩ := by
  unfold argsOk; rw [signature?_of (o := ['r', 'o', 't', 'a', 'r', 'e', 't', 'i', '_', 't', 'e', 's']) (n := ['_', '_', 't', 'x', 'e', 'n', '_', '_']) (id := "set_iterator.__next__") (by kernel_rfl) own_it]; kernel_rfl
theorem sl_iter : Slot "set_iterator" "__iter__" "set_iterator.__iter__" :=
  .of (n := "__iter__") (owner := "set_iterator") (by rw [typeLookup_type, builtinLookup_eq_fast]; kernel_rfl) (by decide +kernel) (by decide +kernel) (by decide +kernel) (by first | exact .inl (by decide +kernel) | exact .inr (by decide +kernel)) (by rw [isSubtype_type]; kernel_rfl)
theorem ar_iter (v : Value) : argsOk "set_iterator.__iter__" ⟨[v], []⟩ := by
  unfold argsOk; rw [signature?_of (o := ['r', 'o', 't', 'a', 'r', 'e', 't', 'i', '_', 't', 'e', 's']) (n := ['_', '_', 'r', 'e', 't', 'i', '_', '_']) (id := "set_iterator.__iter__") (by kernel_rfl) own_it]; kernel_rfl
theorem en_next : entryFor table "set_iterator.__next__" = some Builtin.«set_iterator.__next__» := entryFor_of_tree (by kernel_rfl)
theorem en_iter : entryFor table "set_iterator.__iter__" = some Builtin.«dict_keyiterator.__iter__» := entryFor_alias (id' := "dict_keyiterator.__iter__") (by kernel_rfl) (by first | rfl | decide +kernel) (by decide +kernel) (by kernel_rfl)
theorem en_set_iter : entryFor table "set.__iter__" = some Builtin.«frozenset.__iter__» := entryFor_alias (id' := "frozenset.__iter__") (by kernel_rfl) (by first | rfl | decide +kernel) (by decide +kernel) (by kernel_rfl)
theorem en_set_or : entryFor table "set.__or__" = some Builtin.«frozenset.__or__» := entryFor_alias (id' := "frozenset.__or__") (by kernel_rfl) (by first | rfl | decide +kernel) (by decide +kernel) (by kernel_rfl)
end SU

namespace SU
open PySem PySem.SetTable PySem.Builtin.Frozenset
theorem below_is {xs : Array Nat} {j i : Nat} (up : xs.toList.Pairwise (· < ·)) (hi : i ≤ xs.size) (h1 : ∀ k (h : k < xs.size), k < i → xs[k] < j) (h2 : ∀ h : i < xs.size, j ≤ xs[i]) : below xs j = i := by
  obtain ⟨b1, b2, b3⟩ := below_ok (j := j) up
  rcases Nat.lt_trichotomy (below xs j) i with z | z | z
  · have q := h1 _ (by omega) z
    have q2 := b3 _ (by omega) (Nat.le_refl _)
    omega
  · exact z
  · have q := b2 i (by omega) z
    have q2 := h2 (by omega)
    omega
def ord (w : World) (a : Addr) (es : Array (Int × Value)) (ep : Nat) : Array (Int × Value) := if byT w = true then pickOrder (w.params.setOrder a ep) es else es
def slotAt (w : World) (t : SetTable) (i : Nat) : Nat := if byT w = true then 0 else if i = 0 then 0 else t.place.getD (i - 1) 0 + 1
theorem ord_perm (w : World) (a : Addr) (es : Array (Int × Value)) (ep : Nat) : (ord w a es ep).toList.Perm es.toList := by
  unfold ord
  split
  · exact pick_perm _ _
  · exact List.Perm.refl _
theorem ord_size (w : World) (a : Addr) (es : Array (Int × Value)) (ep : Nat) : (ord w a es ep).size = es.size := by
  have := (ord_perm w a es ep).length_eq
  rw [Array.length_toList, Array.length_toList] at this
  exact this
section
variable {prog : Program} {w : World} {A : Around} {E : Value → Shared → Prop} {s : Shared}
theorem slot_below {t : SetTable} {n : Nat} (T : Tab t n) (hb : ¬ byT w = true) {i : Nat} (hi : i ≤ n) : below t.place (slotAt w t i) = i := by
  have hs := T.sz
  have mono : ∀ a b (ha : a < t.place.size) (hb : b < t.place.size), a < b → t.place[a] < t.place[b] := fun a b ha hb hab => by
    have := List.pairwise_iff_getElem.mp T.up a b (by simpa using ha) (by simpa using hb) hab
    simpa using this
  unfold slotAt
  rw [if_neg hb]
  by_cases z : i = 0
  · rw [if_pos z]
    subst z
    exact below_is T.up (Nat.zero_le _) (fun k _ h => absurd h (Nat.not_lt_zero _)) fun _ => Nat.zero_le _
  · rw [if_neg z]
    have hlt : i - 1 < t.place.size := by omega
    have eg : t.place.getD (i - 1) 0 = t.place[i - 1] := by rw [Array.getD_eq_getD_getElem?, Array.getElem?_eq_getElem hlt]; rfl
    rw [eg]
    refine below_is T.up (by omega) (fun k hk hki => ?_) fun h => ?_
    · by_cases e : k = i - 1
      · subst e; omega
      · have := mono k (i - 1) hk hlt (by omega)
        omega
    · have := mono (i - 1) i hlt h (by omega)
      omega
theorem next_at {a : Addr} {o : Obj} {es : Array (Int × Value)} {ep : Nat} {t : SetTable} {i : Nat} {Q : Option (Value × Nat) → Shared → Prop} (ho : s.heap.get? a = some o) (hd : o.data = .set es ep t) (T : Tab t es.size) (hl : byT w = true ∨ t.led = true) (hi : i ≤ es.size)
    (h : Q ((ord w a es ep)[i]?.map fun e => (e.2, slotAt w t (i + 1))) s) : wpAny (model prog w) A (setNext a (slotAt w t i) i ep) Q E s := by
  unfold setNext
  refine wpAny_bind (wpAny_setState_of ho hd T.fits ?_)
  dsimp only
  refine wpAny_bind (text_ok ?_)
  by_cases hb : byT w = true
  · rw [if_pos hb, if_neg (by simp)]
    refine wpAny_bind ?_
    unfold setWalk
    refine wpAny_bind (wpAny_setState_of ho hd T.fits ?_)
    dsimp only
    refine wpAny_bind (text_ok ?_)
    rw [if_pos hb]
    refine wpAny_bind (wpAny_askSetting (wpAny_pure (wpAny_pure ?_)))
    have e1 : slotAt w t i = slotAt w t (i + 1) := by unfold slotAt; rw [if_pos hb, if_pos hb]
    have e2 : ord w a es ep = pickOrder (w.params.setOrder a ep) es := by unfold ord; rw [if_pos hb]
    rw [e2] at h
    rw [e1]
    exact h
  · rw [if_neg hb]
    have hled : t.led = true := by rcases hl with z | z; exact absurd z hb; exact z
    rw [if_neg (by show ¬ (!t.plain && decide (es.size > 1)) = true; rw [T.pl]; simp)]
    refine wpAny_bind ?_
    show wpAny _ _ (if (!t.led && !es.isEmpty) = true then _ else pure ()) _ _ _
    rw [if_neg (by rw [hled]; simp)]
    refine wpAny_pure ?_
    rw [slot_below T hb hi]
    have e2 : ord w a es ep = es := by unfold ord; rw [if_neg hb]
    rw [e2] at h
    by_cases hlt : i < es.size
    · have hlp : i < t.place.size := by rw [T.sz]; exact hlt
      rw [Array.getElem?_eq_getElem hlt] at h ⊢
      rw [Array.getElem?_eq_getElem hlp]
      have e3 : slotAt w t (i + 1) = t.place[i] + 1 := by
        unfold slotAt
        rw [if_neg hb, if_neg (by omega), Nat.add_sub_cancel, Array.getD_eq_getD_getElem?, Array.getElem?_eq_getElem hlp]
        rfl
      rw [Option.map_some, e3] at h
      exact wpAny_pure h
    · rw [Array.getElem?_eq_none (by omega)] at h ⊢
      exact wpAny_pure h
abbrev itObj (a : Addr) (slot i n ep : Nat) : Obj := { cls := .type "set_iterator", dict := none, data := .fields #[rawInt slot, rawInt i, .ref a, rawInt n, rawInt ep], slots := #[] }
theorem it_item {it a : Addr} {o : Obj} {es : Array (Int × Value)} {ep : Nat} {t : SetTable} {i : Nat} {Q : Option Value → Shared → Prop} (hit : s.heap.get? it = some (itObj a (slotAt w t i) i es.size ep)) (ho : s.heap.get? a = some o) (hd : o.data = .set es ep t) (T : Tab t es.size) (hl : byT w = true ∨ t.led = true) (hi : i < es.size)
    (h : ∀ h' e, (ord w a es ep)[i]? = some e → h'.get? it = some (itObj a (slotAt w t (i + 1)) (i + 1) es.size ep) → Heap.SameBut it s.heap h' → Q (some e.2) { s with heap := h' }) :
    wpAny (model prog w) A (pyNext (.ref it)) Q E s := by
  have hT : s.TypeIs (.ref it) "set_iterator" := ⟨_, hit, rfl⟩
  unfold pyNext
  refine wpAny_bind (wpAny_attempt (wpAny_callSpecial?_slot (name := Str.ofString "__next__") hT sl_next (wpAny_call_entry sl_next hT en_next ?_ (ar_next _))))
  unfold Builtin.«set_iterator.__next__»
  refine wpAny_bind (m := slotArgs "__next__" 0 _) (wpAny_pure ?_)
  refine wpAny_bind (wpAny_fieldsOf hit rfl ?_)
  dsimp only
  refine wpAny_bind (wpAny_setEntries_of ho hd T.fits ?_)
  rw [if_neg (by simp)]
  show wpAny _ _ (setNext a ((slotAt w t i : Nat) : Int).toNat ((i : Nat) : Int).toNat ((ep : Nat) : Int).toNat >>= _) _ _ _
  rw [Int.toNat_natCast, Int.toNat_natCast, Int.toNat_natCast]
  have hlo : i < (ord w a es ep).size := by rw [ord_size]; exact hi
  have ho1 : (ord w a es ep)[i]? = some (ord w a es ep)[i] := Array.getElem?_eq_getElem hlo
  refine wpAny_bind (next_at ho hd T hl (by omega) ?_)
  rw [ho1, Option.map_some]
  dsimp only
  refine wpAny_bind (wpAny_setField_rec hit (by simp) fun h1 g1 sb1 => ?_)
  refine wpAny_bind (wpAny_setField_rec (s := { s with heap := h1 }) g1 (by simp) fun h2 g2 sb2 => ?_)
  have g3 : h2.get? it = some (itObj a (slotAt w t (i + 1)) (i + 1) es.size ep) := g2
  exact wpAny_pure ⟨_, rfl, wpAny_pure (h h2 _ ho1 g3 (sb1.trans sb2))⟩
theorem it_end {it a : Addr} {o : Obj} {es : Array (Int × Value)} {ep : Nat} {t : SetTable} {Q : Option Value → Shared → Prop} (hh : A.handled = none) (hit : s.heap.get? it = some (itObj a (slotAt w t es.size) es.size es.size ep)) (ho : s.heap.get? a = some o) (hd : o.data = .set es ep t) (T : Tab t es.size) (hl : byT w = true ∨ t.led = true)
    (h : ∀ h', (∀ b o, b ≠ it → s.heap.get? b = some o → h'.get? b = some o) → Q none { s with heap := h' }) :
    wpAny (model prog w) A (pyNext (.ref it)) Q E s := by
  have hT : s.TypeIs (.ref it) "set_iterator" := ⟨_, hit, rfl⟩
  unfold pyNext
  refine wpAny_bind (wpAny_attempt (wpAny_callSpecial?_slot (name := Str.ofString "__next__") hT sl_next (wpAny_call_entry sl_next hT en_next ?_ (ar_next _))))
  unfold Builtin.«set_iterator.__next__»
  refine wpAny_bind (m := slotArgs "__next__" 0 _) (wpAny_pure ?_)
  refine wpAny_bind (wpAny_fieldsOf hit rfl ?_)
  dsimp only
  refine wpAny_bind (wpAny_setEntries_of ho hd T.fits ?_)
  rw [if_neg (by simp)]
  show wpAny _ _ (setNext a ((slotAt w t es.size : Nat) : Int).toNat ((es.size : Nat) : Int).toNat ((ep : Nat) : Int).toNat >>= _) _ _ _
  rw [Int.toNat_natCast, Int.toNat_natCast, Int.toNat_natCast]
  have ho1 : (ord w a es ep)[es.size]? = none := Array.getElem?_eq_none (by rw [ord_size]; exact Nat.le_refl _)
  refine wpAny_bind (next_at ho hd T hl (Nat.le_refl _) ?_)
  rw [ho1, Option.map_none]
  dsimp only
  refine wpAny_bind (wpAny_setField_rec hit (by simp) fun h1 g1 sb1 => ?_)
  refine wpAny_bind ?_
  simp only [newExc, newTuple]
  refine wpAny_bind (wpAny_newObj_type ?_ (by size_fits))
  refine wpAny_bind (m := firstArgMember _ _) (wpAny_of_eq (a := Value.none) (by first | rfl | (simp only [firstArgMember]; rfl)) ?_)
  refine wpAny_newObj_type ?_ (by size_fits)
  simp only [raiseNew]
  refine wpAny_bind (wpAny_handled ?_)
  rw [show A.in1.handled = none from hh]
  refine wpAny_bind (wpAny_pure (wpAny_throw ?_))
  refine wpAny_bind (wpAny_isInstance (T := "StopIteration") (b := true) ⟨_, Heap.get?_push_size _ rfl, rfl⟩ isSubtype_stop ?_)
  exact wpAny_pure (h _ fun b o nb e => Heap.get?_push_of_some _ (Heap.get?_push_of_some _ ((sb1.2 b nb).trans e)))
theorem it_self {it a : Addr} {sl i n ep : Nat} {Q : Value → Shared → Prop} (hit : s.heap.get? it = some (itObj a sl i n ep)) (h : Q (.ref it) s) : wpAny (model prog w) A (pyIter (.ref it)) Q E s := by
  have hT : s.TypeIs (.ref it) "set_iterator" := ⟨_, hit, rfl⟩
  refine wpAny_pyIter_slot hT sl_iter (wpAny_call_entry sl_iter hT en_iter ?_ (ar_iter _))
  show wpAny _ _ (ret (.ref it)) _ _ s
  exact wpAny_pure ⟨_, rfl, "set_iterator", _, hT, sl_next.lookup, h⟩
theorem set_it {a : Addr} {o : Obj} {es : Array (Int × Value)} {ep : Nat} {t : SetTable} {Q : Value → Shared → Prop} (ho : s.heap.get? a = some o) (hx : o.ExactSet) (hd : o.data = .set es ep t) (T : Tab t es.size)
    (h : Q (.ref s.heap.objs.size) { s with heap := s.heap.push (itObj a 0 0 es.size ep) }) : wpAny (model prog w) A (pyIter (.ref a)) Q E s := by
  have hT : s.TypeIs (.ref a) "set" := ⟨o, ho, hx.1⟩
  refine wpAny_pyIter_slot hT PySem.F.slot_set_iter (wpAny_call_entry PySem.F.slot_set_iter hT en_set_iter ?_ (PySem.F.args_set_iter_1 _))
  unfold Builtin.«frozenset.__iter__»
  refine wpAny_bind (m := slot0 "__iter__" _) (wpAny_pure ?_)
  refine wpAny_bind (wpAny_bind (wpAny_setEntries_of ho hd T.fits (wpAny_pure ?_)))
  refine wpAny_bind (m := setDrawn a) ?_
  unfold setDrawn
  refine wpAny_bind (wpAny_setState_of ho hd T.fits ?_)
  dsimp only
  refine wpAny_bind (text_ok (wpAny_pure ?_))
  rw [if_neg (by show ¬ (!byT w && (!t.plain && decide (es.size > 1))) = true; rw [T.pl]; simp)]
  refine wpAny_bind (wpAny_pure ?_)
  refine wpAny_bind (wpAny_setEpoch_of ho hd T.fits ?_)
  refine wpAny_bind ?_
  unfold newFields
  refine wpAny_newObj_type ?_ (by size_fits)
  exact wpAny_pure ⟨_, rfl, "set_iterator", _, ⟨_, Heap.get?_push_size _ rfl, rfl⟩, sl_next.lookup, h⟩
end
end SU

namespace SU
open PySem PySem.SetTable PySem.Builtin.Frozenset PyProof.Rows
section
variable {prog : Program} {w : World} {A : Around} {E : Value → Shared → Prop} {s : Shared}
theorem hint_set {a : Addr} {Q : Bool → Shared → Prop} (hT : s.TypeIs (.ref a) "set") (h : Q false s) : wpAny (model prog w) A (Builtin.List.listLengthHint (.ref a)) Q E s := by
  unfold Builtin.List.listLengthHint
  refine wpAny_bind (wpAny_specialOf hT PySem.F.slot_set_len.lookup ?_)
  generalize hq : ("set.__len__" : String) = q
  wp_delta
  rw [show splitId q = some ("set", "__len__") from by subst hq; decide +kernel]
  subst hq
  refine wpAny_bind (wpAny_isInstance (b := true) (T := "set") hT sub_set_self ?_)
  refine wpAny_ite_split (fun z => absurd z (by decide)) fun _ => ?_
  refine wpAny_ite_split (fun _ => ?_) fun z => absurd (by decide +kernel) z
  exact wpAny_bind (wpAny_typeOf hT (wpAny_pure h))
theorem src_set {a : Addr} {o : Obj} {es : Array (Int × Value)} {ep : Nat} {t : SetTable} (hx : o.ExactSet) (hd : o.data = .set es ep t) (T : Tab t es.size) (hl : byT w = true ∨ t.led = true) :
    PySem.W.KdlSrc prog w "set" a a es.size (fun i v => ∃ e, (ord w a es ep)[i]? = some e ∧ v = e.2) (fun h => h.get? a = some o) where
  type := fun _ h => ⟨o, h, hx.1⟩
  there := fun _ h => ⟨Heap.lt_size h, Heap.lt_size h⟩
  keep := fun _ _ h k => k a (.inl rfl) _ h
  notList := by decide
  notTuple := by decide
  hint := fun _ _ _ _ h q => hint_set ⟨o, h, hx.1⟩ q
  iter := fun A s hh h => by
    have hne : a ≠ s.heap.objs.size := Nat.ne_of_lt (Heap.lt_size h)
    refine ⟨itObj a 0 0 es.size ep, fun i h => h.get? s.heap.objs.size = some (itObj a (slotAt w t i) i es.size ep) ∧ h.get? a = some o, fun E Q q => set_it h hx hd T q, ?_, ?_⟩
    · refine ⟨fun b hb => ?_, fun i h h' st k => ⟨k _ (by simp) _ st.1, k a (by simp) _ st.2⟩, fun i s' Q E hi st q => ?_, fun s' Q E st q => ?_, fun i s' Q E st q => it_self st.1 q⟩
      · rw [List.mem_singleton.mp hb]; simp
      · refine it_item st.1 st.2 hd T hl hi fun h' e he g' sb => ?_
        exact q e.2 h' s'.toks ⟨e, he, rfl⟩ ⟨g', (sb.2 a hne).trans st.2⟩ fun b o nb e => (sb.2 b (fun z => nb (by simp [z]))).trans e
      · exact it_end hh st.1 st.2 hd T hl fun h' k => q h' s'.toks fun b o nb e => k b o (fun z => nb (by simp [z])) e
    · refine ⟨?_, Heap.get?_push_of_some _ h⟩
      rw [Heap.get?_push_size _ rfl]
      have e0 : slotAt w t 0 = 0 := by unfold slotAt; split; rfl; rfl
      rw [e0]
theorem set_sorted {a : Addr} {o : Obj} {ks : List Int} {Q : Value → Shared → Prop} (hh : A.handled = none) (ho : s.heap.get? a = some o) (S : SObj prog w o ks) (h64 : ks.length < 64)
    (h : ∀ (h1 h' : Heap) (tk : Nat) (l : Addr) (out : Array Value) (c : Nat) (ns' : List Int), (∀ b o, s.heap.get? b = some o → h1.get? b = some o) → (∀ b o, h1.get? b = some o → h'.get? b = some o) → h1.objs.size ≤ l → h'.get? l = some (seqObj "list" out c) → IntsAre out.toList ns' → ns'.Perm ks → ns'.Pairwise (· ≤ ·) → Q (.ref l) { s with heap := h', toks := tk }) :
    wpAny (model prog w) A (call (.builtin "sorted") [.ref a]) Q E s := by
  obtain ⟨es, ep, t, hd, hel, T, hl, hks⟩ := S.ex
  have hsz : es.size = ks.length := by rw [← hks, List.length_map, Array.length_toList]
  have hzl : sizeLine ≥ 1000 := by decide
  refine Calls.call_function_entry kind_sorted plain_sorted entry_sorted (args_sorted1 _) ?_
  unfold Builtin.«sorted»
  refine wpAny_bind (m := checkCount "sorted" 1 1 _) (wpAny_pure ?_)
  refine wpAny_bind (PySem.W.kdu_collect (A := A.in1) (src_set S.xs hd T hl) hh ho (by omega) fun h1 tk acc k1 hacc => ?_)
  obtain ⟨ha, hit⟩ := hacc
  have eq : acc.toList = (ord w a es ep).toList.map (·.2) := by
    refine List.ext_getElem? fun i => ?_
    rw [List.getElem?_map, Array.getElem?_toList, Array.getElem?_toList]
    by_cases z : i < es.size
    · have e1 : acc[i]? = some (acc[i]'(by omega)) := Array.getElem?_eq_getElem (by omega)
      obtain ⟨e, he, hv⟩ := hit i _ e1
      rw [e1, he, hv]
      rfl
    · rw [Array.getElem?_eq_none (by omega), Array.getElem?_eq_none (by rw [ord_size]; omega)]
      rfl
  have hpo := ord_perm w a es ep
  have hI : IntsAre acc.toList ((ord w a es ep).toList.map keyOf) := by
    rw [eq]
    have hel' := hel.perm hpo
    generalize (ord w a es ep).toList = l at hel'
    induction l with
    | nil => exact .nil
    | cons e l ih =>
      obtain ⟨tok, ee⟩ := el_int hel' List.mem_cons_self
      have : e.2 = .int (keyOf e) tok := by rw [ee]; rfl
      rw [List.map_cons, List.map_cons, this]
      exact .cons _ _ (ih hel'.tail)
  have hp2 : ((ord w a es ep).toList.map keyOf).Perm ks := by rw [← hks]; exact hpo.map keyOf
  have hlen : acc.toList.length = ks.length := by rw [Array.length_toList, ha, hsz]
  refine wpAny_bind (wpAny_newList ?_ (by omega))
  have g1 : (h1.push (seqObj "list" acc.toList.toArray 0)).get? h1.objs.size = some (seqObj "list" acc.toList.toArray 0) := Heap.get?_push_size _ rfl
  refine wpAny_bind (wpAny_holding (wpAny_call_entry slot_list_sort ⟨_, g1, rfl⟩ entry_list_sort (list_sort_tree g1 hI (by omega) fun out ns' a1 a2 a3 => ⟨_, rfl, ?_⟩) (args_list_sort _)))
  obtain ⟨c, hc⟩ := sortedHeap_at (h := h1.push (seqObj "list" acc.toList.toArray 0)) (out := out) g1
  refine wpAny_pure ⟨_, rfl, h h1 (sortedHeap (h1.push (seqObj "list" acc.toList.toArray 0)) h1.objs.size acc.toList out) tk h1.objs.size out c ns' k1 (fun b o e => ?_) (Nat.le_refl _) hc a1 (a2.trans hp2) a3⟩
  have hlt : b < h1.objs.size := Heap.lt_size e
  rw [sortedHeap_old (Nat.ne_of_lt hlt) (by rw [size_push']; exact Nat.lt_succ_of_lt hlt)]
  exact Heap.get?_push_of_some _ e
end
end SU
namespace L2
open PySem PySem.Spec PyProof.Rows
section
variable {X : Cx}
theorem call_sortedS (hc : X.calm = true) : CallR X (.builtin "sorted") (fun xs H Q => ∃ (p : Addr) (o : Obj) (u : HO) (ks : List Int), xs = [.ref p] ∧ H p = some (.frz o u) ∧ SU.SObj X.prog X.w o ks ∧ ks.length < 64 ∧
    ∀ (l : Addr) (ns' : List Int), H l = none → ns'.Perm ks → ns'.Pairwise (· ≤ ·) → Q (.ref l) (upd H l (.lst (ns'.map V.int)))) := by
  intro pins s σ H xs us Q I r h
  obtain ⟨p, o, u, ks, rfl, hH, S, h64, q⟩ := h
  obtain ⟨v, rfl, rx⟩ := vals1 r
  cases rx
  obtain ⟨ho, _⟩ := (show ObjOk X.prog X.w H s.heap p (.frz o u) from I.hok p _ hH)
  refine SU.set_sorted (I.ok.hd hc) ho S h64 fun h1 h' tk l out c ns' k1 k2 hl hg a1 a2 a3 => ?_
  have I1 : Inv X pins σ H { s with heap := h1, toks := tk } := I.kept k1
  refine ⟨.ref l, _, I1.laid (t' := tk) (o := .lst (ns'.map V.int)) k2 hl ⟨?_, out.toList, c, vals_of_ints a1, by simpa using hg⟩, rfl, q _ ns' (I1.hok.fresh hl) a2 a3⟩
  rw [List.length_map, a2.length_eq]
  exact Nat.le_of_lt (Nat.lt_trans h64 (by decide))
def rSetOr (prog : Program) (w : World) : R2 := fun x y H Q => ∃ (a b : Addr) (oa ob : Obj) (ua ub : HO) (ks ms : List Int), x = .ref a ∧ y = .ref b ∧ a ≠ b ∧ H a = some (.frz oa ua) ∧ H b = some (.frz ob ub) ∧ SU.SObj prog w oa ks ∧ SU.SObj prog w ob ms ∧ (∃ U : List Int, U.length < 60 ∧ (∀ k ∈ ks, k ∈ U) ∧ ∀ k ∈ ms, k ∈ U) ∧
  ∀ (l : Addr) (o : Obj) (js : List Int), H l = none → SU.SObj prog w o js → (∀ k, k ∈ js ↔ k ∈ ks ∨ k ∈ ms) → Q (.ref l) (upd H l (.frz o (.own 0)))
theorem op_setOr : OpR X (binaryOp .BitOr) (rSetOr X.prog X.w) := by
  intro pins s σ H x y v u Q I rx ry h
  obtain ⟨a, b, oa, ob, ua, ub, ks, ms, rfl, rfl, hab, ha, hb, Sa, Sb, ⟨U, hU, hk, hm⟩, q⟩ := h
  cases rx; cases ry
  obtain ⟨ga, _⟩ := (show ObjOk X.prog X.w H s.heap a (.frz oa ua) from I.hok a _ ha)
  obtain ⟨gb, _⟩ := (show ObjOk X.prog X.w H s.heap b (.frz ob ub) from I.hok b _ hb)
  have hTa : s.TypeIs (.ref a) "set" := ⟨oa, ga, Sa.xs.1⟩
  have hTb : s.TypeIs (.ref b) "set" := ⟨ob, gb, Sb.xs.1⟩
  refine wpAny_binaryOp_same hTa hTb PySem.F.fills_set_or PySem.F.slot_set_or (wpAny_call_entry PySem.F.slot_set_or hTa SU.en_set_or ?_ (PySem.F.args_set_or_2 _ _))
  refine wpAny_mono (SU.set_or (Q := fun v s' => v ≠ .notImplemented ∧ EP X pins σ Q v s') hab ga gb Sa Sb hU hk hm fun h' o' ks' k g S e => ⟨(by intro z; cases z), .ref s.heap.objs.size, _, I.laid (t' := s.toks) (o := .frz o' (.own 0)) k (Nat.le_refl _) ⟨g, o', g⟩, rfl, q _ o' ks' I.fresh S e⟩) (fun fin s' z => ?_) fun _ _ z => z
  obtain ⟨v, rfl, z⟩ := z
  exact ⟨v, rfl, z⟩
end
end L2

namespace SU
open PySem PySem.SetTable PySem.Builtin.Frozenset PyProof.Rows
section
variable {prog : Program} {w : World} {A : Around} {E : Value → Shared → Prop} {s : Shared}
theorem made_set (v : Value) {R : Value → Shared → Prop} (h : R (.ref s.heap.objs.size) { s with heap := s.heap.push (freshSet w) }) :
    codeAny (model prog w) A (.call (.builtin "set.__new__") ⟨[.type "set", v], []⟩) (wants R E) s := by
  refine codeAny_of_tree ?_
  show wpAny _ A.in1 (checkBuiltinCall "set.__new__" ⟨[.type "set", v], []⟩ >>= fun _ => again (.builtin "set.__new__" ⟨[.type "set", v], []⟩)) _ _ s
  refine wpAny_bind (wpAny_of_eq (PySem.F.newCall_set_1 v) (wpAny_pure ⟨plainId_quiet PySem.F.plain_set_new _, codeAny_builtin PySem.F.entry_set_new ?_⟩))
  rw [Around.under_plainId PySem.F.plain_set_new _]
  unfold Builtin.«set.__new__» Builtin.Frozenset.newClass
  have q := sub_set_self
  obtain ⟨hp, g, d, tk, os⟩ := s
  dsimp only
  wp_walk
  refine wpAny_askSetting (wpAny_pure ?_)
  dsimp only
  simp only [newObj]
  refine wpAny_bind (wpAny_alloc (wpAny_pure ?_))
  exact wpAny_pure h
set_option maxRecDepth 100000 in
set_option maxHeartbeats 3200000 in
theorem set_of_dict {d : Addr} {ns : List Int} {vs : List (L2.Key × Value)} {ep : Nat} {Q : Value → Shared → Prop} (hd : s.heap.DictAt (L2.mixKind prog w) d vs ep) (hs : (d == sysModules) = false) (ek : vs.map (·.1) = ns.map Sum.inl) (hl : ns.length ≤ 60) (nd : ns.Nodup)
    (h : ∀ (h' : Heap) (o' : Obj) (ks' : List Int), (∀ b o, s.heap.get? b = some o → h'.get? b = some o) → h'.get? s.heap.objs.size = some o' → SObj prog w o' ks' → ks'.Perm ns → Q (.ref s.heap.objs.size) { s with heap := h' }) :
    wpAny (model prog w) A (call (.type "set") [.ref d]) Q E s := by
  obtain ⟨c, tl, hmro⟩ := PySem.F.called_set.mro
  have hmade := PySem.F.called_set.made
  have hsub := PySem.F.called_set.sub
  refine wpAny_call (codeAny_of_tree ?_)
  show wpAny _ _ (callAny (.type "set") _) _ _ _
  refine wpAny_pure ⟨Code.quiet_builtin _ (by decide +kernel), codeAny_builtin PySem.F.entry_type_call ?_⟩
  rw [Around.under_plain (weight_type_call_type "set" [.ref d] []) rfl]
  have h1 := PySem.F.called_set.notType
  have h2 := PySem.F.called_set.canCreate
  have hct := PySem.F.typeCall_set_1 (.ref d)
  repeat (any_goals (first | assumption | wp_step))
  refine codeAny_mono (made_set (.ref d) (E := E) (R := fun obj s₁ => obj = .ref s.heap.objs.size ∧ s₁ = { s with heap := s.heap.push (freshSet w) }) ⟨rfl, rfl⟩) fun r s₁ hr => ?_
  cases r with
  | error e => exact hr
  | ok fl =>
    cases fl with
    | ret obj =>
      obtain ⟨rfl, rfl⟩ := hr
      have hS : (s.heap.push (freshSet w)).get? s.heap.objs.size = some (freshSet w) := Heap.get?_push_size _ rfl
      have hT : Shared.TypeIs { s with heap := s.heap.push (freshSet w) } (.ref s.heap.objs.size) "set" := ⟨_, hS, rfl⟩
      have hli := PySem.F.called_set.init.lookup
      have hbi := PySem.F.called_set.init.bind (.ref s.heap.objs.size)
      repeat (any_goals (first | assumption | wp_step))
      refine codeAny_mono (codeAny_call_builtin (R := wants (fun r s₂ => r = .none ∧ Q (.ref s.heap.objs.size) s₂) E) PySem.F.called_set.init.plain PySem.F.entry_set_init (check_set_init_1 hT ?_)) fun r₂ s₂ hr₂ => ?_
      · have hdp : (s.heap.push (freshSet w)).DictAt (L2.mixKind prog w) d vs ep := hd.push _
        have hne : s.heap.objs.size ≠ d := Nat.ne_of_gt hd.lt_size
        unfold Builtin.«set.__init__» noKeywords
        generalize hU : updateFrom = U
        have hus : wpAny (model prog w) A.in1.in1 (setUsed s.heap.objs.size) (fun b s' => b = false ∧ s' = { s with heap := s.heap.push (freshSet w) }) (fun e s' => wants (fun r s₂ => r = .none ∧ Q (.ref s.heap.objs.size) s₂) E (.error e) s') { s with heap := s.heap.push (freshSet w) } := by
          unfold setUsed
          exact wpAny_bind (wpAny_setState_of (s := { s with heap := s.heap.push (freshSet w) }) hS rfl (by rfl) (wpAny_pure ⟨rfl, rfl⟩))
        generalize hW : setUsed = W at hus
        wp_walk
        refine wpAny_mono hus (fun b s' z => ?_) fun _ _ z => z
        obtain ⟨rfl, rfl⟩ := z
        show wpAny _ _ (U "set.__init__" s.heap.objs.size (.ref d) >>= fun _ => ret Value.none) _ _ _
        subst hU
        refine wpAny_bind (from_dict (s := { s with heap := s.heap.push (freshSet w) }) hS (freshSet_ok prog w) hdp hs hne ek hl nd fun h' o' ks' sb g S p => ?_)
        exact wpAny_pure ⟨rfl, h h' o' ks' (fun b o e => (sb.2 b (Nat.ne_of_lt (Heap.lt_size e))).trans (Heap.get?_push_of_some _ e)) g S p⟩
      · cases r₂ with
        | error e => exact hr₂
        | ok fl₂ =>
          cases fl₂ with
          | ret r =>
            obtain ⟨rfl, hq⟩ := hr₂
            repeat (any_goals (first | assumption | wp_step))
          | _ => exact hr₂.elim
    | _ => exact hr.elim
end
end SU
namespace L2
open PySem PySem.Spec PyProof.Rows
section
variable {X : Cx}
theorem call_setD : CallR X (.type "set") (fun xs H Q => ∃ (p : Addr) (kvs : List (Key × V)) (ns : List Int), xs = [.ref p] ∧ H p = some (.dK kvs) ∧ kvs.map (·.1) = ns.map Sum.inl ∧ ns.Nodup ∧ ns.length ≤ 60 ∧
    ∀ (l : Addr) (o : Obj) (ks : List Int), H l = none → SU.SObj X.prog X.w o ks → ks.Perm ns → Q (.ref l) (upd H l (.frz o (.own 0)))) := by
  intro pins s σ H xs us Q I r h
  obtain ⟨p, kvs, ns, rfl, hH, ek, nd, hl, q⟩ := h
  obtain ⟨u, rfl, rx⟩ := vals1 r
  cases rx
  obtain ⟨hz, hs, vs, kv, hd⟩ := dk_of I.hok hH
  obtain ⟨ep, hat⟩ := hd.dictAt
  refine SU.set_of_dict hat hs (by rw [← kv.keys]; exact ek) hl nd fun h' o' ks' k g S pm => ?_
  exact ⟨.ref s.heap.objs.size, _, I.laid (t' := s.toks) (o := .frz o' (.own 0)) k (Nat.le_refl _) ⟨g, o', g⟩, rfl, q _ o' ks' I.fresh S pm⟩
end
end L2

namespace L2
open PySem PySem.Spec PyProof.Rows
section
variable {X : Cx} {pins : List (Addr × Obj)} {σ : St} {H : Hp} {s : Shared}
end
section
variable {X : Cx}
end
end L2

namespace L2
open PySem PySem.Spec PyProof.Rows
section
variable {X : Cx}
def TupsP (H : Hp) (ts : List Addr) (xs : List (List V)) : Prop := Paired (fun t n => H t = some (.tup n) ∧ n.all plainV = true) ts xs
theorem TupsP.get {H : Hp} : ∀ {ts : List Addr} {xs : List (List V)} {j : Nat} {t : Addr}, TupsP H ts xs → ts[j]? = some t → ∃ n, xs[j]? = some n ∧ H t = some (.tup n) ∧ n.all plainV = true
  | _, _, _, _, .nil, e => by simp at e
  | _, _, 0, _, .cons r _, e => by simp at e; subst e; exact ⟨_, rfl, r⟩
  | _, _, j + 1, t, .cons _ q, e => by
    obtain ⟨n, h1, h2⟩ := TupsP.get (j := j) (t := t) q (by simpa using e)
    exact ⟨n, by simpa using h1, h2⟩
def rEqTP (K : PySem.W.Frag) : R2 := fun x y H Q => ∃ a b ts us ns, x = .ref a ∧ y = .ref b ∧ SqL K H a (ts.map V.ref) ∧ SqL K H b (us.map V.ref) ∧ TupsP H ts ns ∧ TupsP H us ns ∧ Q (.bl true) H
theorem op_eqTP (hu : X.A.units + 1 < cLine) : OpR X (compareOp .Eq) (rEqTP X.K) := by
  intro pins s σ H x y v u Q I rx ry h
  obtain ⟨a, b, ts, us, ns, rfl, rfl, ha, hb, p1, p2, q⟩ := h
  cases rx; cases ry
  obtain ⟨its, r1, pl1, _⟩ := I.list ha
  obtain ⟨its2, r2, pl2, _⟩ := I.list hb
  have e1 := vals_refs r1
  have e2 := vals_refs r2
  have l1 : ts.length = ns.length := Paired.length p1
  have l2 : us.length = ns.length := Paired.length p2
  subst e1 e2
  refine SeqAt.eq_listAt (e := fun _ => true) pl1.isList pl2.isList (by simp; omega) (by omega) (fun j h1 h2 => ?_) ⟨.bl _, H, I, rfl, ?_⟩
  · have h1' : j < ts.length := by simpa using h1
    have h2' : j < us.length := by simpa using h2
    obtain ⟨n, n1, n2, n3⟩ := p1.get (j := j) (t := ts[j]) (by simp [h1'])
    obtain ⟨n', m1, m2, m3⟩ := p2.get (j := j) (t := us[j]) (by simp [h2'])
    rw [n1] at m1; cases m1
    have g1 : (ts.map Value.ref).toArray[j] = .ref ts[j] := by simp
    have g2 : (us.map Value.ref).toArray[j] = .ref us[j] := by simp
    rw [g1, g2]
    by_cases z : ts[j] = us[j]
    · rw [z]; exact SeqAt.EqAt.same _
    · obtain ⟨i1, v1, t1, _⟩ := I.tuple (SqT.of (K := X.K) n2)
      obtain ⟨i2, v2, t2, _⟩ := I.tuple (SqT.of (K := X.K) m2)
      have key := SeqAt.RcAt.tuples (A := X.A.in1) (s := s) (e := fun j => decide (n.getD j .non = n.getD j .non)) t1 t2 (show X.A.units + 1 < cLine from hu) fun j h1 h2 => eqAt_pl v1 v2 n3 n3 j h1 h2
      have ev : ((List.range (min i1.toArray.size i2.toArray.size)).all (fun j => decide (n.getD j .non = n.getD j .non)) && i1.toArray.size == i2.toArray.size) = true := by
        have a1 := v1.length
        have a2 := v2.length
        simp; omega
      rw [ev] at key
      exact SeqAt.EqAt.of_refs z key
  · have : (List.range (ts.map Value.ref).toArray.size).all (fun _ => true) = true := by simp
    rw [this]; exact q
def rEqNil (K : PySem.W.Frag) : R2 := fun x y H Q => ∃ a b xs, x = .ref a ∧ y = .ref b ∧ SqL K H a xs ∧ SqL K H b [] ∧ Q (.bl xs.isEmpty) H
theorem op_eqNil (hu : X.A.units < cLine) : OpR X (compareOp .Eq) (rEqNil X.K) := by
  intro pins s σ H x y v u Q I rx ry h
  obtain ⟨a, b, xs, rfl, rfl, ha, hb, q⟩ := h
  cases rx; cases ry
  obtain ⟨its, r1, pl1, _⟩ := I.list ha
  obtain ⟨its2, r2, pl2, _⟩ := I.list hb
  have l1 := r1.length
  have l2 := r2.length
  rw [List.length_nil] at l2
  by_cases z : xs = []
  · subst z
    refine SeqAt.eq_listAt (e := fun _ => true) pl1.isList pl2.isList (by rw [List.length_nil] at l1; simp; omega) hu (fun j h1 h2 => absurd h2 (by simp; omega)) ⟨.bl _, H, I, rfl, ?_⟩
    have : (List.range its.toArray.size).all (fun _ => true) = true := by simp
    rw [this]; exact q
  · have hp : 0 < xs.length := List.length_pos_iff.mpr z
    have e : xs.isEmpty = false := by simpa using z
    rw [e] at q
    exact SeqAt.eq_list_lengthsAt pl1.isList pl2.isList (by simp; omega) hu ⟨.bl false, H, I, rfl, q⟩
end
end L2

namespace L2
open PySem PySem.Spec PyProof.Rows
section
variable {X : Cx}
def CellV (H : Hp) (x : V) : Option (List Int) → Prop
  | none => x = .non
  | some ns => ∃ t, x = .ref t ∧ H t = some (.tup (ns.map V.int))
def CellsAt (H : Hp) (xs : List V) (cs : List (Option (List Int))) : Prop := Paired (CellV H) xs cs
theorem CellsAt.get {H : Hp} : ∀ {xs : List V} {cs : List (Option (List Int))} {j : Nat} {x : V}, CellsAt H xs cs → xs[j]? = some x → ∃ c, cs[j]? = some c ∧ CellV H x c
  | _, _, _, _, .nil, e => by simp at e
  | _, _, 0, _, .cons r _, e => by simp at e; subst e; exact ⟨_, rfl, r⟩
  | _, _, j + 1, x, .cons _ q, e => by
    obtain ⟨n, h1, h2⟩ := CellsAt.get (j := j) (x := x) q (by simpa using e)
    exact ⟨n, by simpa using h1, h2⟩
theorem all_getD {α : Type} [DecidableEq α] {d : α} : ∀ {as bs : List α}, as.length = bs.length → (List.range as.length).all (fun j => decide (as.getD j d = bs.getD j d)) = decide (as = bs) := by
  intro as bs hl
  rw [Bool.eq_iff_iff, List.all_eq_true, decide_eq_true_iff]
  constructor
  · intro h
    refine List.ext_getElem hl fun i h1 h2 => ?_
    have := of_decide_eq_true (h i (List.mem_range.mpr h1))
    rw [List.getD_eq_getElem?_getD, List.getD_eq_getElem?_getD, List.getElem?_eq_getElem h1, List.getElem?_eq_getElem h2] at this
    exact this
  · intro h j _
    rw [h]
    simp
theorem cell_eq {pins : List (Addr × Obj)} {σ : St} {H : Hp} {s : Shared} (I : Inv X pins σ H s) (hu : X.A.units + 1 < cLine) {x y : V} {u v : Value} {c d : Option (List Int)} (rx : RelV x u) (ry : RelV y v) (hx : CellV H x c) (hy : CellV H y d) : SeqAt.EqAt X.A.in1 s u v (decide (c = d)) := by
  cases c with
  | none =>
    have ex : x = .non := hx
    subst ex
    cases rx
    cases d with
    | none =>
      have ey : y = .non := hy
      subst ey
      cases ry
      rw [decide_eq_true rfl]
      exact SeqAt.EqAt.same _
    | some ms =>
      obtain ⟨t, rfl, ht⟩ := hy
      cases ry
      obtain ⟨i2, v2, t2, _⟩ := I.tuple (SqT.of (K := X.K) ht)
      rw [decide_eq_false (by intro z; cases z)]
      exact SeqAt.EqAt.none_tuple t2 (by exact hu)
  | some ns =>
    obtain ⟨t, rfl, ht⟩ := hx
    cases rx
    obtain ⟨i1, v1, t1, _⟩ := I.tuple (SqT.of (K := X.K) ht)
    cases d with
    | none =>
      have ey : y = .non := hy
      subst ey
      cases ry
      rw [decide_eq_false (by intro z; cases z)]
      exact SeqAt.EqAt.tuple_none t1 (by exact hu)
    | some ms =>
      obtain ⟨t', rfl, ht'⟩ := hy
      cases ry
      by_cases z : t = t'
      · subst z
        rw [ht] at ht'
        have e : ns = ms := by
          have e0 := Option.some.inj ht'
          injection e0 with this
          exact List.map_inj_right (fun _ _ h => V.int.inj h) |>.mp this
        subst e
        rw [decide_eq_true rfl]
        exact SeqAt.EqAt.same _
      · obtain ⟨i2, v2, t2, _⟩ := I.tuple (SqT.of (K := X.K) ht')
        have key := SeqAt.RcAt.tuples (A := X.A.in1) (s := s) (e := fun j => decide ((ns.map V.int).getD j .non = (ms.map V.int).getD j .non)) t1 t2 (show X.A.units + 1 < cLine from hu) fun j h1 h2 => eqAt_ints v1 v2 j h1 h2
        have a1 := v1.length
        have a2 := v2.length
        have ev : ((List.range (min i1.toArray.size i2.toArray.size)).all (fun j => decide ((ns.map V.int).getD j .non = (ms.map V.int).getD j .non)) && i1.toArray.size == i2.toArray.size) = decide (some ns = some ms) := by
          rw [List.size_toArray, List.size_toArray, ← a1, ← a2]
          by_cases hl : (ns.map V.int).length = (ms.map V.int).length
          · rw [hl, Nat.min_self, ← hl, all_getD hl, hl, BEq.rfl, Bool.and_true, Bool.eq_iff_iff, decide_eq_true_iff, decide_eq_true_iff]
            exact ⟨fun h => by rw [List.map_inj_right (fun _ _ h => V.int.inj h) |>.mp h], fun h => by rw [Option.some.inj h]⟩
          · rw [show ((ns.map V.int).length == (ms.map V.int).length) = false from by simpa using hl, Bool.and_false]
            exact (decide_eq_false fun h => hl (by rw [Option.some.inj h])).symm
        rw [ev] at key
        exact SeqAt.EqAt.of_refs z key
def rEqC (K : PySem.W.Frag) : R2 := fun x y H Q => ∃ (a b : Addr) (xs ys : List V) (cs ds : List (Option (List Int))), x = .ref a ∧ y = .ref b ∧ SqL K H a xs ∧ SqL K H b ys ∧ CellsAt H xs cs ∧ CellsAt H ys ds ∧ Q (.bl (decide (cs = ds))) H
theorem op_eqC (hu : X.A.units + 1 < cLine) : OpR X (compareOp .Eq) (rEqC X.K) := by
  intro pins s σ H x y v u Q I rx ry h
  obtain ⟨a, b, xs, ys, cs, ds, rfl, rfl, ha, hb, p1, p2, q⟩ := h
  cases rx; cases ry
  obtain ⟨its, r1, pl1, _⟩ := I.list ha
  obtain ⟨its2, r2, pl2, _⟩ := I.list hb
  have l1 := r1.length
  have l2 := r2.length
  have m1 : xs.length = cs.length := Paired.length p1
  have m2 : ys.length = ds.length := Paired.length p2
  by_cases hl : cs.length = ds.length
  · refine SeqAt.eq_listAt (e := fun j => decide (cs.getD j none = ds.getD j none)) pl1.isList pl2.isList (by simp; omega) (by omega) (fun j h1 h2 => ?_) ⟨.bl _, H, I, rfl, ?_⟩
    · have h1' : j < its.length := by simpa using h1
      have h2' : j < its2.length := by simpa using h2
      have ex : xs[j]? = some (xs[j]'(by omega)) := List.getElem?_eq_getElem (by omega)
      have ey : ys[j]? = some (ys[j]'(by omega)) := List.getElem?_eq_getElem (by omega)
      obtain ⟨c, c1, c2⟩ := p1.get ex
      obtain ⟨d, d1, d2⟩ := p2.get ey
      obtain ⟨u1, hu1, ru1⟩ := r1.get ex
      obtain ⟨u2, hu2, ru2⟩ := r2.get ey
      rw [List.getElem?_eq_getElem h1'] at hu1
      rw [List.getElem?_eq_getElem h2'] at hu2
      cases hu1; cases hu2
      have g1 : its.toArray[j] = its[j] := by simp
      have g2 : its2.toArray[j] = its2[j] := by simp
      have e1 : cs.getD j none = c := by rw [List.getD_eq_getElem?_getD, c1]; rfl
      have e2 : ds.getD j none = d := by rw [List.getD_eq_getElem?_getD, d1]; rfl
      rw [g1, g2, e1, e2]
      exact cell_eq I hu ru1 ru2 c2 d2
    · rw [List.size_toArray, ← l1, m1, all_getD hl]
      exact q
  · refine SeqAt.eq_list_lengthsAt pl1.isList pl2.isList (by simp; omega) (by omega) ⟨.bl false, H, I, rfl, ?_⟩
    have : decide (cs = ds) = false := decide_eq_false fun z => hl (by rw [z])
    rw [← this]; exact q
def rNeTP (K : PySem.W.Frag) : R2 := fun x y H Q => ∃ a b ts us ns, x = .ref a ∧ y = .ref b ∧ SqL K H a (ts.map V.ref) ∧ SqL K H b (us.map V.ref) ∧ TupsP H ts ns ∧ TupsP H us ns ∧ Q (.bl false) H
theorem op_neTP (hu : X.A.units + 1 < cLine) : OpR X (compareOp .NotEq) (rNeTP X.K) := by
  intro pins s σ H x y v u Q I rx ry h
  obtain ⟨a, b, ts, us, ns, rfl, rfl, ha, hb, p1, p2, q⟩ := h
  cases rx; cases ry
  obtain ⟨its, r1, pl1, _⟩ := I.list ha
  obtain ⟨its2, r2, pl2, _⟩ := I.list hb
  have e1 := vals_refs r1
  have e2 := vals_refs r2
  have l1 : ts.length = ns.length := Paired.length p1
  have l2 : us.length = ns.length := Paired.length p2
  subst e1 e2
  refine SeqAt.RcNeAt.lists (e := fun _ => true) pl1.isList pl2.isList (by simp; omega) (by omega) (fun j h1 h2 => ?_) X.prog X.w _ _ ⟨.bl _, H, I, rfl, ?_⟩
  · have h1' : j < ts.length := by simpa using h1
    have h2' : j < us.length := by simpa using h2
    obtain ⟨n, n1, n2, n3⟩ := p1.get (j := j) (t := ts[j]) (by simp [h1'])
    obtain ⟨n', m1, m2, m3⟩ := p2.get (j := j) (t := us[j]) (by simp [h2'])
    rw [n1] at m1; cases m1
    have g1 : (ts.map Value.ref).toArray[j] = .ref ts[j] := by simp
    have g2 : (us.map Value.ref).toArray[j] = .ref us[j] := by simp
    rw [g1, g2]
    by_cases z : ts[j] = us[j]
    · rw [z]; exact SeqAt.EqAt.same _
    · obtain ⟨i1, v1, t1, _⟩ := I.tuple (SqT.of (K := X.K) n2)
      obtain ⟨i2, v2, t2, _⟩ := I.tuple (SqT.of (K := X.K) m2)
      have key := SeqAt.RcAt.tuples (A := X.A.in1) (s := s) (e := fun j => decide (n.getD j .non = n.getD j .non)) t1 t2 (show X.A.units + 1 < cLine from hu) fun j h1 h2 => eqAt_pl v1 v2 n3 n3 j h1 h2
      have ev : ((List.range (min i1.toArray.size i2.toArray.size)).all (fun j => decide (n.getD j .non = n.getD j .non)) && i1.toArray.size == i2.toArray.size) = true := by
        have a1 := v1.length
        have a2 := v2.length
        simp; omega
      rw [ev] at key
      exact SeqAt.EqAt.of_refs z key
  · have : (List.range (ts.map Value.ref).toArray.size).all (fun _ => true) = true := by simp
    rw [this]; exact q
end
end L2

namespace Y
open PySem L2 Yd
def alikeT (a b : Tb) : Bool := decide (a.length = b.length) && a.all fun p => decide (valT b p.1 = some p.2)
theorem valT_self {tb : Tb} (nd : (ky tb).Nodup) : ∀ {p : Int × Int}, p ∈ tb → valT tb p.1 = some p.2 := by
  induction tb with
  | nil => intro p h; cases h
  | cons q tb ih =>
    intro p h
    have nd' : (q.1 :: ky tb).Nodup := nd
    obtain ⟨nq, nd2⟩ := List.nodup_cons.mp nd'
    rcases List.mem_cons.mp h with e | h
    · subst e
      simp [valT]
    · have hne : ¬ q.1 = p.1 := fun e => nq (by rw [e]; exact List.mem_map.mpr ⟨p, h, rfl⟩)
      have := ih nd2 h
      unfold valT at this ⊢
      rw [List.find?_cons, decide_eq_false hne]
      exact this
theorem valT_pair {tb : Tb} {n x : Int} (h : valT tb n = some x) : (n, x) ∈ tb := by
  unfold valT at h
  cases e : tb.find? fun p => decide (p.1 = n) with
  | none => rw [e] at h; cases h
  | some p =>
    rw [e] at h
    cases h
    have h1 := List.mem_of_find?_eq_some e
    have h2 : p.1 = n := by simpa using List.find?_some e
    rw [← h2]
    exact h1
theorem alike_iff {a b : Tb} (na : (ky a).Nodup) (nb : (ky b).Nodup) : alikeT a b = true ↔ ∀ k, valT a k = valT b k := by
  unfold alikeT
  rw [Bool.and_eq_true, decide_eq_true_iff, List.all_eq_true]
  constructor
  · rintro ⟨hl, h⟩ k
    have hsub : ∀ k ∈ ky a, k ∈ ky b := fun k hk => by
      obtain ⟨p, hp, e⟩ := List.mem_map.mp hk
      have := of_decide_eq_true (h p hp)
      rw [← e]
      exact valT_mem this
    cases e : valT a k with
    | some x =>
      have := of_decide_eq_true (h (k, x) (valT_pair e))
      exact this.symm
    | none =>
      by_cases hb : k ∈ ky b
      · have hka := valT_none.mp e
        have h2 := SU.sub_len (r := k :: ky a) (l := ky b) (List.nodup_cons.mpr ⟨hka, na⟩) fun x hx => by
          rcases List.mem_cons.mp hx with z | z
          · rw [z]; exact hb
          · exact hsub x z
        rw [List.length_cons, ky_len, ky_len] at h2
        omega
      · exact (valT_none.mpr hb).symm
  · intro h
    have h1 : ∀ k, k ∈ ky a ↔ k ∈ ky b := fun k => by
      constructor
      · intro z
        obtain ⟨x, e⟩ := valT_some z
        rw [h k] at e
        exact valT_mem e
      · intro z
        obtain ⟨x, e⟩ := valT_some z
        rw [← h k] at e
        exact valT_mem e
    have h2 := SU.sub_len (r := ky a) (l := ky b) na fun x hx => (h1 x).mp hx
    have h3 := SU.sub_len (r := ky b) (l := ky a) nb fun x hx => (h1 x).mpr hx
    rw [ky_len, ky_len] at h2 h3
    exact ⟨by omega, fun p hp => decide_eq_true (by rw [← h]; exact valT_self na hp)⟩
end Y
namespace L2
open PySem PySem.Spec PyProof.Rows Y
section
variable {X : Cx}
theorem eqAt_one {A : Around} {s : Shared} {i j : Int} {u v : Value} (ri : RelV (.int i) u) (rj : RelV (.int j) v) : SeqAt.EqAt A s u v (decide (i = j)) := by
  have := eqAt_ints (A := A) (s := s) (ns := [i]) (ms := [j]) (.cons ri .nil) (.cons rj .nil) 0 (by simp) (by simp)
  have e : decide (([i].map V.int).getD 0 .non = ([j].map V.int).getD 0 .non) = decide (i = j) := by
    rw [Bool.eq_iff_iff, decide_eq_true_iff, decide_eq_true_iff]
    exact ⟨fun h => V.int.inj h, fun h => by rw [h]⟩
  rw [e] at this
  exact this
theorem hits_of {A : Around} {s : Shared} {b : Tb} {kb : List (Key × Value)} (hb : KV (kvs b) kb) : ∀ {a : Tb} {ka : List (Key × Value)}, KV (kvs a) ka → PySem.W.KeqHits A s kb ka (a.all fun p => decide (valT b p.1 = some p.2))
  | [], _, .nil => .nil
  | p :: a, _, .cons (b := (k, v)) ⟨e1, e2⟩ r => by
    have ih := hits_of (A := A) (s := s) hb r
    have hk := hb.val (Sum.inl p.1)
    rw [valV_kvs] at hk
    have ek : k = Sum.inl p.1 := e1.symm
    subst ek
    rw [List.all_cons]
    cases e : valT b p.1 with
    | none =>
      rw [e] at hk
      have hn : valueAt kb (Sum.inl p.1) = none := by
        cases q : valueAt kb (Sum.inl p.1) with
        | none => rfl
        | some y => rw [q] at hk; exact hk.elim
      exact .miss hn
    | some x =>
      rw [e] at hk
      cases q : valueAt kb (Sum.inl p.1) with
      | none => rw [q] at hk; exact hk.elim
      | some y =>
        rw [q] at hk
        have ee : decide (some x = some p.2) = decide (p.2 = x) := by
          rw [Bool.eq_iff_iff, decide_eq_true_iff, decide_eq_true_iff]
          exact ⟨fun h => (Option.some.inj h).symm, fun h => by rw [h]⟩
        rw [ee]
        exact .hit q (eqAt_one e2 hk) ih
def rEqD : R2 := fun x y H Q => ∃ (a b : Addr) (ta tb : Tb), x = .ref a ∧ y = .ref b ∧ H a = some (.dK (kvs ta)) ∧ H b = some (.dK (kvs tb)) ∧ Q (.bl (alikeT ta tb)) H
theorem op_eqD (hu : X.A.units < cLine) : OpR X (compareOp .Eq) rEqD := by
  intro pins s σ H x y v u Q I rx ry h
  obtain ⟨a, b, ta, tb, rfl, rfl, ha, hb, q⟩ := h
  cases rx; cases ry
  obtain ⟨_, hs, va, kva, da⟩ := dk_of I.hok ha
  obtain ⟨_, hs2, vb, kvb, db⟩ := dk_of I.hok hb
  have l1 := kva.length
  have l2 := kvb.length
  rw [kvs_len] at l1 l2
  refine PySem.W.keq_eq hs hs2 da db hu (fun _ => hits_of kvb kva) ⟨.bl (alikeT ta tb), H, I, ?_, q⟩
  show Value.bool _ = Value.bool _
  unfold alikeT
  rw [← l1, ← l2]
  congr 1
end
end L2

namespace Y
open PySem L2 Yd
def oW (o : Option Int) : V := (o.map V.int).getD .non
def rowT (a b : Tb) (k : Int) : List V := [.int k, oW (valT a k), oW (valT b k)]
def chg (a b : Tb) (ns : List Int) : List Int := ns.filter fun k => decide (valT a k ≠ valT b k)
theorem oW_inj {a b : Option Int} : oW a = oW b ↔ a = b := by
  constructor
  · intro h
    cases a with
    | none => cases b with
      | none => rfl
      | some y => cases h
    | some x => cases b with
      | none => cases h
      | some y => cases h; rfl
  · intro h; rw [h]
theorem oW_scal (a b : Option Int) : scal (oW a) (oW b) = true := by cases a <;> cases b <;> rfl
theorem oW_plain (a : Option Int) : plainV (oW a) = true := by cases a <;> rfl
theorem row_plain (a b : Tb) (k : Int) : (rowT a b k).all plainV = true := by
  unfold rowT
  rw [List.all_cons, List.all_cons, List.all_cons, oW_plain, oW_plain]
  rfl
theorem tupsP_same {H H' : Hp} (s : ∀ b xs, H b = some (.tup xs) → H' b = some (.tup xs)) : ∀ {ts : List Addr} {xs : List (List V)}, TupsP H ts xs → TupsP H' ts xs
  | _, _, .nil => .nil
  | _, _, .cons r t => .cons ⟨s _ _ r.1, r.2⟩ (tupsP_same s t)
theorem tupsP_snoc {H : Hp} : ∀ {ts : List Addr} {xs : List (List V)} {t : Addr} {n : List V}, TupsP H ts xs → H t = some (.tup n) → n.all plainV = true → TupsP H (ts ++ [t]) (xs ++ [n])
  | _, _, _, _, .nil, h, p => .cons ⟨h, p⟩ .nil
  | _, _, _, _, .cons r t, h, p => .cons r (tupsP_snoc t h p)
def Few (a b : Tb) : Prop := ∃ U : List Int, U.length < 60 ∧ (∀ k ∈ ky a, k ∈ U) ∧ ∀ k ∈ ky b, k ∈ U
def spAlike (C CB : Addr) : Sp := fun vs H Q _ => ∃ (b y ca d b2 y2 ca2 d2 : Addr) (r r2 : Int) (c c2 : Lay) (tb tb2 : Tb), vs = [.ref b, .ref b2] ∧ BookAt C CB H b y ca d r c tb ∧ BookAt C CB H b2 y2 ca2 d2 r2 c2 tb2 ∧ Q (.bl (alikeT tb tb2)) H
def spChanges (C CB : Addr) : Sp := fun vs H Q _ => ∃ (b y ca d b2 y2 ca2 d2 : Addr) (r r2 : Int) (c c2 : Lay) (tb tb2 : Tb), vs = [.ref b, .ref b2] ∧ BookAt C CB H b y ca d r c tb ∧ BookAt C CB H b2 y2 ca2 d2 r2 c2 tb2 ∧ Few tb tb2 ∧
  ∀ (l : Addr) (ts : List Addr) (ns : List Int) (H' : Hp), H l = none → Same H H' → ns.Pairwise (· ≤ ·) → ns.Nodup → (∀ k, k ∈ ns ↔ k ∈ ky tb ∨ k ∈ ky tb2) → H' l = some (.lst (ts.map V.ref)) → TupsP H' ts ((chg tb tb2 ns).map (rowT tb tb2)) → Q (.ref l) H'
end Y

namespace Y
open PySem L2 Yd
def top (i : Nat) : Stmt := PySem.Challenge.pw_stallyard_k11_whole_books_stand_alike.main.body.getD i (.Pass ⟨0, 0, 0, 0⟩)
abbrev sWay : Stmt := top 10
abbrev sPasses : Stmt := top 11
abbrev sKeeps : Stmt := top 12
abbrev sSize : Stmt := top 16
abbrev sInit : Stmt := inClass (top 17) 0
abbrev sPut : Stmt := inClass (top 17) 1
abbrev sTake : Stmt := inClass (top 17) 2
abbrev sLooked : Stmt := inClass (top 17) 3
abbrev sWhere : Stmt := inClass (top 17) 4
abbrev sStalls : Stmt := inClass (top 17) 5
abbrev sNames : Stmt := inClass (top 17) 6
abbrev sHow : Stmt := inClass (top 17) 7
abbrev sWish : Stmt := inClass (top 17) 9
abbrev sBehind : Stmt := inClass (top 17) 10
abbrev sStand : Stmt := inClass (top 17) 11
abbrev sLeads : Stmt := inClass (top 17) 12
abbrev sNear : Stmt := inClass (top 17) 13
abbrev sMoved : Stmt := top 19
abbrev sMissing : Stmt := top 20
abbrev sBInit : Stmt := inClass (top 24) 0
abbrev sBWrite : Stmt := inClass (top 24) 1
abbrev sBWorth : Stmt := inClass (top 24) 2
abbrev sBDrop : Stmt := inClass (top 24) 3
abbrev sBHow : Stmt := inClass (top 24) 4
abbrev sBLayout : Stmt := inClass (top 24) 5
abbrev sBBring : Stmt := inClass (top 24) 6
abbrev sBFit : Stmt := inClass (top 24) 7
abbrev sWanted : Stmt := top 25
abbrev sAlike : Stmt := top 26
abbrev sChanges : Stmt := top 27
abbrev sCell : Stmt := top 29
abbrev sMixed : Stmt := top 31
abbrev sLSize : Stmt := top 32
abbrev sLOther : Stmt := top 33
abbrev sLTaken : Stmt := top 34
abbrev sLTruth : Stmt := top 35
abbrev sLaw : Stmt := top 36

section
variable {P : Program} {w : World} {K : PySem.W.Frag} {mg : Str → Option Value} {base : Heap}

theorem scWay : FnScope ["name", "at", "many"] ["name", "at", "many"] (defScope sWay) := ⟨rfl, rfl, rfl, by decide +kernel, rfl, by decide +kernel, by decide +kernel⟩
theorem ok_way {f : Addr} {fd : FuncData} (F : Fun K "way" "way" sWay f fd) : FnOk P w K mg base CX0 1 f fd ["name", "at", "many"] spWay := by
  refine F.ok scWay (fun vs H Q E h => ?_) (fun cdv A outer s H vs Q E hr h => ?_)
  · obtain ⟨n, a, m, rfl, _⟩ := h
    rfl
  · obtain ⟨n, a, m, rfl, hm, k⟩ := h
    refine ⟨_, pss_one (ps_ret (pe_op op_mod (pe_op op_sub (pv 1) (pv 0)) (pv 2))), ?_⟩
    exact ⟨_, rfl, _, rfl, _, _, rfl, rfl, _, rfl, _, _, rfl, rfl, hm, k⟩

theorem scKeeps : FnScope ["rule", "one", "other", "at", "many", "longer"] ["rule", "one", "other", "at", "many"] (defScope sKeeps) := ⟨rfl, rfl, rfl, by decide +kernel, rfl, by decide +kernel, by decide +kernel⟩
theorem ok_keeps {f : Addr} {fd : FuncData} (F : Fun K "keeps" "keeps" sKeeps f fd) (Tf : ∃ t, mg "FIRST" = some (.int 0 t)) (Tr : ∃ t, mg "FAR" = some (.int 2 t)) (GW : FnG P w K mg base "way" ["name", "at", "many"] 1 spWay) : FnOk P w K mg base CX0 2 f fd ["rule", "one", "other", "at", "many"] spKeeps := by
  refine F.ok scKeeps (fun vs H Q E h => ?_) (fun cdv A outer s H vs Q E hr h => ?_)
  · obtain ⟨r, a, b, q, m, rfl, _⟩ := h
    rfl
  · obtain ⟨r, a, b, q, m, rfl, hq, k⟩ := h
    obtain ⟨t0, h0⟩ := Tf
    obtain ⟨t2, h2⟩ := Tr
    have hm : (0 : Int) < (m : Int) := by omega
    refine ⟨_, pss_cons (ps_if (pt_cmpR op_eq (pv 0) (pe_glob (v := .int 0) rfl h0 ⟨_, rfl⟩) (nomark _)) (pss_one (ps_ret pe_bl)) pss_nil)
      (pss_cons (ps_if (pt_cmpR op_eq (pv 0) (pe_glob (v := .int 2) rfl h2 ⟨_, rfl⟩) (nomark _))
        (pss_cons (ps_set (i := 5) scKeeps.nd rfl (Or.inl rfl) (pe_op op_sub (pe_fn GW hr (pa_cons (pv 1) (pa_cons (pv 3) (pa_cons (pv 4) pa_nil)))) (pe_fn GW hr (pa_cons (pv 2) (pa_cons (pv 3) (pa_cons (pv 4) pa_nil))))))
          (pss_one (ps_if (pt_cmpR op_ne (pv 5) pe_int (nomark _)) (pss_one (ps_ret (pe_cmpR op_gt (pv 5) pe_int (nomark _)))) pss_nil)))
        pss_nil)
      (pss_one (ps_ret (pe_cmpR op_lt (pv 1) (pv 2) (nomark _))))), ?_⟩
    refine ⟨_, rfl, rfl, _, rfl, iteI (fun e => ?_) (fun e => ?_)⟩
    · rw [kp_zero e] at k
      exact k
    · refine ⟨_, rfl, rfl, _, rfl, iteI (fun e2 => ?_) (fun e2 => ?_)⟩
      · refine ⟨_, rfl, _, rfl, _, rfl, _, _, _, rfl, hm, _, rfl, _, rfl, _, rfl, _, _, _, rfl, hm, _, _, rfl, rfl, _, rfl, rfl, _, rfl, iteNI (fun e3 => ?_) (fun e3 => ?_)⟩
        · rw [kp_far hq e2 e3] at k
          exact ⟨_, rfl, _, _, rfl, rfl, k⟩
        · rw [kp_far0 hq e2 e3] at k
          exact ⟨_, rfl, _, rfl, _, _, rfl, rfl, k⟩
      · rw [kp_name e e2] at k
        exact ⟨_, rfl, _, rfl, _, _, rfl, rfl, k⟩

def spSize : Sp := fun vs H Q _ => ∃ z : Int, vs = [.int z] ∧ Q (.bl (decide (2 ≤ z ∧ z ≤ 200))) H
theorem scSize : FnScope ["many"] ["many"] (defScope sSize) := ⟨rfl, rfl, rfl, by decide +kernel, rfl, by decide +kernel, by decide +kernel⟩
theorem ok_size {f C : Addr} {fd : FuncData} (F : Fun K "is_size" "is_size" sSize f fd) (T : Txt K mg C) : FnOk P w K mg base CX0 1 f fd ["many"] spSize := by
  refine F.ok scSize (fun vs H Q E h => ?_) (fun cdv A outer s H vs Q E hr h => ?_)
  · obtain ⟨z, rfl, _⟩ := h
    rfl
  · obtain ⟨z, rfl, k⟩ := h
    obtain ⟨tl, hlo⟩ := T.lo
    obtain ⟨th, hhi⟩ := T.hi
    refine ⟨_, pss_one (ps_ret (pe_and (pe_cmpR op_ge (pv 0) (pe_glob (v := .int 2) rfl hlo ⟨_, rfl⟩) (nomark _)) (pe_one (pe_cmpR op_le (pv 0) (pe_glob (v := .int 200) rfl hhi ⟨_, rfl⟩) (nomark _))))), ?_⟩
    by_cases h2 : 2 ≤ z
    · refine ⟨_, rfl, _, _, rfl, rfl, _, rfl, iteD (fun _ => ?_) (fun q => absurd h2 q)⟩
      refine ⟨_, rfl, _, _, rfl, rfl, ?_⟩
      have e : decide (2 ≤ z ∧ z ≤ 200) = decide (z ≤ 200) := by simp [h2]
      rw [e] at k
      exact k
    · refine ⟨_, rfl, _, _, rfl, rfl, _, rfl, iteD (fun q => absurd q h2) (fun _ => ?_)⟩
      have e : decide (2 ≤ z ∧ z ≤ 200) = false := by simp [h2]
      rw [e] at k
      exact k

theorem scInit : FnScope ["self", "many", "rule"] ["self", "many", "rule"] (defScope sInit) := ⟨rfl, rfl, rfl, by decide +kernel, rfl, by decide +kernel, by decide +kernel⟩
theorem ok_init {f C : Addr} {fd : FuncData} (F : Fun K "__init__" "Yard.__init__" sInit f fd) (T : Txt K mg C) (GSz : FnG P w K mg base "is_size" ["many"] 1 spSize) : FnOk P w K mg base CX0 2 f fd ["self", "many", "rule"] (spInit C) := by
  refine F.ok scInit (fun vs H Q E h => ?_) (fun cdv A outer s H vs Q E hr h => ?_)
  · obtain ⟨y, dx, m, rule, rfl, _⟩ := h
    rfl
  · obtain ⟨y, dx, m, rule, rfl, h2, h200, hy, k⟩ := h
    refine ⟨_, pss_cons (ps_if (pt_not (pt_val (pe_fn GSz (hr.mono (by decide)) (pa_cons (pv 1) pa_nil)))) pss_never pss_nil)
      (pss_cons (ps_fld (pv 0) (pv 1) rfl) (pss_cons (ps_fld (pv 0) (pv 2) rfl) (pss_one (ps_fld (pv 0) (pe_op op_rep (pe_lst (pa_cons pe_non pa_nil)) (pv 1)) rfl)))), ?_⟩
    refine ⟨_, rfl, _, rfl, _, rfl, iteNB (fun z => ?_) (fun _ => ?_)⟩
    · have := of_decide_eq_false z
      omega
    refine ⟨_, rfl, _, rfl, y, C, dx, [], rfl, hy, T.cl, T.nM, (by show 0 < 1000; decide), ?_⟩
    refine ⟨_, rfl, _, rfl, y, C, dx, _, rfl, upd_same, T.cl, T.nR, (by show 1 < 1000; decide), ?_⟩
    refine ⟨(by show 1 ≤ sizeLine; decide), fun l hl => ?_⟩
    have nyl : y ≠ l := fun z => by subst z; rw [upd_same] at hl; cases hl
    refine ⟨_, rfl, l, m, [.non], rfl, rfl, upd_same, by omega, by omega, ?_, fun ca hca => ?_⟩
    · have : sizeLine ≥ 1000 := by decide
      simp; omega
    have nyc : y ≠ ca := fun z => by
      subst z
      rw [upd_ne nyl, upd_same] at hca; cases hca
    have nlc : l ≠ ca := fun z => by subst z; rw [upd_same] at hca; cases hca
    refine ⟨_, rfl, y, C, dx, _, rfl, (by rw [upd_ne nyc, upd_ne nyl, upd_same]), T.cl, T.nC, ?_, ?_⟩
    · have := length_putF "rule" (.int rule) (putF "many" (V.int (m : Int)) [])
      have := length_putF "many" (V.int (m : Int)) []
      simp only [List.length_nil] at this
      omega
    have hca0 : H ca = none := by rw [upd_ne nlc.symm, upd_ne nyc.symm, upd_ne nyc.symm] at hca; exact hca
    have hl0 : H l = none := by rw [upd_ne nyl.symm, upd_ne nyl.symm] at hl; exact hl
    refine k ca _ hca0 ⟨⟨dx, upd_same⟩, ?_, List.length_replicate .., h200⟩ fun b o e hb => ?_
    · rw [upd_ne nyc.symm, upd_same, Int.toNat_natCast, layV_empty]
    · rw [upd_ne hb, upd_ne (ne_of_none e hca0), upd_ne (ne_of_none e hl0), upd_ne hb, upd_ne hb]
      exact e

theorem scWish : FnScope ["self", "name"] ["self", "name"] (defScope sWish) := ⟨rfl, rfl, rfl, by decide +kernel, rfl, by decide +kernel, by decide +kernel⟩
theorem ok_wish {f C : Addr} {fd : FuncData} (F : Fun K "wish" "Yard.wish" sWish f fd) (T : Txt K mg C) : FnOk P w K mg base CX0 1 f fd ["self", "name"] (spWish C) := by
  refine F.ok scWish (fun vs H Q E h => ?_) (fun cdv A outer s H vs Q E hr h => ?_)
  · obtain ⟨y, ca, m, rule, c, n, rfl, _⟩ := h
    rfl
  · obtain ⟨y, ca, m, rule, c, n, rfl, Y, hm, k⟩ := h
    obtain ⟨dx, h1⟩ := Y.ob
    rw [ws_int hm] at k
    refine ⟨_, pss_one (ps_ret (pe_op op_mod (pv 1) (pe_fld (pv 0) rfl))), ?_⟩
    exact ⟨_, rfl, _, rfl, y, C, dx, _, _, rfl, h1, T.cl, T.nM, flds_many _ _ _, _, _, rfl, rfl, (by show (0 : Int) < (m : Int); omega), k⟩

theorem scBehind : FnScope ["self", "at"] ["self", "at"] (defScope sBehind) := ⟨rfl, rfl, rfl, by decide +kernel, rfl, by decide +kernel, by decide +kernel⟩
theorem ok_behind {f C : Addr} {fd : FuncData} (F : Fun K "behind" "Yard.behind" sBehind f fd) (T : Txt K mg C) : FnOk P w K mg base CX0 1 f fd ["self", "at"] (spBehind C) := by
  refine F.ok scBehind (fun vs H Q E h => ?_) (fun cdv A outer s H vs Q E hr h => ?_)
  · obtain ⟨y, ca, m, rule, c, n, rfl, _⟩ := h
    rfl
  · obtain ⟨y, ca, m, rule, c, p, rfl, Y, hp, k⟩ := h
    obtain ⟨dx, h1⟩ := Y.ob
    rw [← nx_int hp] at k
    refine ⟨_, pss_one (ps_ret (pe_op op_mod (pe_op op_add (pv 1) pe_int) (pe_fld (pv 0) rfl))), ?_⟩
    exact ⟨_, rfl, _, _, rfl, rfl, _, rfl, y, C, dx, _, _, rfl, h1, T.cl, T.nM, flds_many _ _ _, _, _, rfl, rfl, (by show (0 : Int) < (m : Int); omega), k⟩

theorem scStand : FnScope ["self", "name", "at"] ["self", "name", "at"] (defScope sStand) := ⟨rfl, rfl, rfl, by decide +kernel, rfl, by decide +kernel, by decide +kernel⟩
theorem ok_stand {f C : Addr} {fd : FuncData} (F : Fun K "stand" "Yard.stand" sStand f fd) (T : Txt K mg C) : FnOk P w K mg base CX0 1 f fd ["self", "name", "at"] (spStand C) := by
  refine F.ok scStand (fun vs H Q E h => ?_) (fun cdv A outer s H vs Q E hr h => ?_)
  · obtain ⟨y, ca, m, rule, c, n, p, rfl, _⟩ := h
    rfl
  · obtain ⟨y, ca, m, rule, c, n, p, rfl, Y, hp, k⟩ := h
    obtain ⟨dx, h1⟩ := Y.ob
    have hp' : p < c.length := by rw [Y.len]; exact hp
    refine ⟨_, pss_cons (ps_asg (pv 1) (pg_sub (pe_fld (pv 0) rfl) (pv 2) set_list)) (pss_one (ps_ret (pe_tup (pa_cons (pv 1) (pa_cons (pv 2) pa_nil))))), ?_⟩
    refine ⟨_, rfl, _, rfl, y, C, dx, _, _, rfl, h1, T.cl, T.nC, flds_cells _ _ _, _, rfl, ca, _, _, p, rfl, rfl, Y.ls, layV_ix hp', ?_⟩
    refine ⟨_, rfl, _, rfl, (by show 2 ≤ sizeLine; decide), fun t ht => ?_⟩
    have ntc : t ≠ ca := fun z => by subst z; rw [upd_same] at ht; cases ht
    have ht0 : H t = none := by rw [upd_ne ntc] at ht; exact ht
    refine k t _ ht0 ⟨⟨dx, ?_⟩, ?_, by rw [List.length_set]; exact Y.len, Y.few⟩ (fun b o e hb => ?_) upd_same
    · rw [upd_ne (ne_of_none h1 ht0), upd_ne Y.ne]; exact h1
    · rw [upd_ne ntc.symm, upd_same, layV_set]; rfl
    · rw [upd_ne (ne_of_none e ht0), upd_ne hb]; exact e

theorem scLeads : FnScope ["self", "name", "at", "standing"] ["self", "name", "at"] (defScope sLeads) := ⟨rfl, rfl, rfl, by decide +kernel, rfl, by decide +kernel, by decide +kernel⟩
theorem ok_leads {f C : Addr} {fd : FuncData} (F : Fun K "leads_on" "Yard.leads_on" sLeads f fd) (T : Txt K mg C) (GK : FnG P w K mg base "keeps" ["rule", "one", "other", "at", "many"] 2 spKeeps) : FnOk P w K mg base CX0 3 f fd ["self", "name", "at"] (spLeads C) := by
  refine F.ok scLeads (fun vs H Q E h => ?_) (fun cdv A outer s H vs Q E hr h => ?_)
  · obtain ⟨y, ca, m, rule, c, n, p, rfl, _⟩ := h
    rfl
  · obtain ⟨y, ca, m, rule, c, n, p, rfl, Y, hp, k⟩ := h
    obtain ⟨dx, h1⟩ := Y.ob
    have hp' : p < c.length := by rw [Y.len]; exact hp
    have hat := layV_at hp'
    refine ⟨_, pss_cons (ps_set (i := 3) scLeads.nd rfl (Or.inl rfl) (pe_ix ix_list (pe_fld (pv 0) rfl) (pv 2) (fun _ _ => rfl)))
      (pss_cons (ps_if (PW.pt (pw_or (pt_cmp (pc_isN (pv 3))) (pw_or1 (pt_cmpR op_eq (pv 3) (pv 1) (nomark _))))) (pss_one (ps_ret pe_bl)) pss_nil)
      (pss_one (ps_ret (pe_fn GK hr (pa_cons (pe_fld (pv 0) rfl) (pa_cons (pv 3) (pa_cons (pv 1) (pa_cons (pv 2) (pa_cons (pe_fld (pv 0) rfl) pa_nil))))))))), ?_⟩
    unfold leads at k
    cases e : g c p with
    | none =>
      rw [e] at hat k
      refine ⟨_, rfl, y, C, dx, _, _, rfl, h1, T.cl, T.nC, flds_cells _ _ _, _, rfl, ca, _, _, _, rfl, rfl, SqL.of Y.ls, hat, ?_⟩
      refine ⟨_, rfl, _, rfl, iteT ?_⟩
      exact iteT k
    | some st =>
      rw [e] at hat k
      refine ⟨_, rfl, y, C, dx, _, _, rfl, h1, T.cl, T.nC, flds_cells _ _ _, _, rfl, ca, _, _, _, rfl, rfl, SqL.of Y.ls, hat, ?_⟩
      refine ⟨_, rfl, _, rfl, iteF ?_⟩
      refine ⟨_, rfl, _, rfl, rfl, _, rfl, iteI (fun z => ?_) (fun z => ?_)⟩
      · simp only [z, if_true] at k
        exact k
      · simp only [if_neg z] at k
        exact ⟨_, rfl, y, C, dx, _, _, rfl, h1, T.cl, T.nR, flds_rule _ _ _, _, rfl, _, rfl, _, rfl, _, rfl, y, C, dx, _, _, rfl, h1, T.cl, T.nM, flds_many _ _ _, _, _, _, _, _, rfl, hp, k⟩

theorem scLooked : FnScope ["self", "name", "at", "seen"] ["self", "name"] (defScope sLooked) := ⟨rfl, rfl, rfl, by decide +kernel, rfl, by decide +kernel, by decide +kernel⟩
theorem ok_looked {f C : Addr} {fd : FuncData} (F : Fun K "looked" "Yard.looked" sLooked f fd) (T : Txt K mg C) (GWi : MtG P w K mg base C "wish" ["self", "name"] 1 (spWish C)) (GB : MtG P w K mg base C "behind" ["self", "at"] 1 (spBehind C))
    (GL : MtG P w K mg base C "leads_on" ["self", "name", "at"] 3 (spLeads C)) : FnOk P w K mg base CX0 4 f fd ["self", "name"] (spLooked C) := by
  refine F.ok scLooked (fun vs H Q E h => ?_) (fun cdv A outer s H vs Q E hr h => ?_)
  · obtain ⟨y, ca, m, rule, c, n, f, rfl, _⟩ := h
    rfl
  · obtain ⟨y, ca, m, rule, c, n, f, rfl, Y, hf, h0, k⟩ := h
    obtain ⟨dx, h1⟩ := Y.ob
    have hr1 : Room 1 _ := hr.mono (by decide)
    have hm : 0 < m := by omega
    have nf : ∀ {x : Str}, ¬ x = "cells" → ¬ x = "rule" → ¬ x = "many" → (flds m rule ca).lookup x = none := fun a b d => flds_no m rule ca a b d
    refine ⟨_, pss_cons (ps_set (i := 2) scLooked.nd rfl (Or.inl rfl) (pe_mt T.cl GWi hr1 (pv 0) (pa_cons (pv 1) pa_nil)))
      (pss_cons (ps_set (i := 3) scLooked.nd rfl (Or.inl rfl) (pe_lst (pa_cons (pv 2) pa_nil)))
      (pss_cons (ps_while PassesOwn.never (pt_val (pe_mt T.cl GL hr (pv 0) (pa_cons (pv 1) (pa_cons (pv 2) pa_nil))))
        (pss_cons (ps_set (i := 2) scLooked.nd rfl (Or.inl rfl) (pe_mt T.cl GB hr1 (pv 0) (pa_cons (pv 2) pa_nil)))
        (pss_one (ps_expr (pe_bm PySem.F.plainAttrs_list PySem.F.slot_list_append PySem.F.type_list_append mt_append (pv 3) (pa_cons (pv 2) pa_nil))))))
      (pss_one (ps_ret (pv 3))))), ?_⟩
    refine ⟨_, rfl, y, dx, _, rfl, h1, nf (by decide +kernel) (by decide +kernel) (by decide +kernel), _, rfl, y, ca, m, rule, c, n, rfl, Y, hm, ?_⟩
    refine ⟨_, rfl, (by show 1 ≤ sizeLine; decide), fun l hl => ?_⟩
    have hszl : sizeLine ≥ 1000 := by decide
    have h200 := Y.few
    refine ⟨fun j σ H2 => ∃ (p : Nat) (pre : List Nat), σ = [some (.ref y), some (.int n), some (.int (p : Int)), some (.ref l)] ∧ p < m ∧ dist m p f < j ∧ j ≤ m ∧ pre.length + j = m ∧ Same H H2 ∧ H2 l = some (.lst (nV (pre ++ [p]))) ∧
      pre ++ lookL m rule c n j p = lookL m rule c n m (ws m n), ⟨m, ws m n, [], rfl, ws_lt hm n, dist_lt (ws_lt hm n) hf, Nat.le_refl _, by simp, same_upd hl, upd_same, rfl⟩, ?_⟩
    rintro j σ H2 ⟨p, pre, rfl, hp, hd, hj, hpl, s2, hl2, htot⟩
    obtain ⟨j, rfl⟩ : ∃ i, j = i + 1 := ⟨j - 1, by omega⟩
    have Y2 := Y.same s2
    obtain ⟨dy, g1⟩ := Y2.ob
    refine ⟨_, rfl, y, dy, _, rfl, g1, nf (by decide +kernel) (by decide +kernel) (by decide +kernel), _, rfl, _, rfl, y, ca, m, rule, c, n, p, rfl, Y2, hp, _, rfl, iteB (fun hb => ?_) (fun hb => ?_)⟩
    · have npf : p ≠ f := fun z => by subst z; unfold leads at hb; rw [h0] at hb; cases hb
      have d2 := dist_to hp hf npf
      have e2 : lookL m rule c n (j + 1) p = p :: lookL m rule c n j (nx m p) := by
        show (if leads m rule c n p = true then _ else _) = _
        rw [if_pos hb]
      refine ⟨_, fun σ' H' w' => ⟨j, Nat.lt_succ_self _, w'⟩, ?_⟩
      refine ⟨_, rfl, y, dy, _, rfl, g1, nf (by decide +kernel) (by decide +kernel) (by decide +kernel), _, rfl, y, ca, m, rule, c, p, rfl, Y2, hp, ?_⟩
      refine ⟨_, rfl, .inl ⟨rfl, _, SqL.of hl2⟩, _, rfl, l, _, _, rfl, rfl, hl2, ?_, ?_⟩
      · unfold nV
        rw [List.length_map, List.length_append, List.length_singleton]
        omega
      · refine ⟨nx m p, pre ++ [p], rfl, nx_lt hp, by omega, by omega, by rw [List.length_append, List.length_singleton]; omega, fun b o e => ?_, ?_, ?_⟩
        · rw [upd_ne (ne_of_none e hl)]
          exact s2 b o e
        · rw [upd_same]
          unfold nV
          rw [List.map_append (l₁ := pre ++ [p])]
          rfl
        · rw [← htot, e2, List.append_assoc]
          rfl
    · have e2 : lookL m rule c n (j + 1) p = [p] := by
        show (if leads m rule c n p = true then _ else _) = _
        rw [if_neg (by rw [hb]; exact Bool.false_ne_true)]
      rw [e2] at htot
      rw [htot] at hl2
      exact ⟨_, rfl, k l H2 hl s2 hl2⟩

theorem scWhere : FnScope ["self", "name", "seen", "last"] ["self", "name"] (defScope sWhere) := ⟨rfl, rfl, rfl, by decide +kernel, rfl, by decide +kernel, by decide +kernel⟩
theorem ok_where {f C : Addr} {fd : FuncData} (F : Fun K "where" "Yard.where" sWhere f fd) (T : Txt K mg C) (GLo : MtG P w K mg base C "looked" ["self", "name"] 4 (spLooked C)) : FnOk P w K mg base CX0 5 f fd ["self", "name"] (spWhere C) := by
  refine F.ok scWhere (fun vs H Q E h => ?_) (fun cdv A outer s H vs Q E hr h => ?_)
  · obtain ⟨y, ca, m, rule, c, n, f, rfl, _⟩ := h
    rfl
  · obtain ⟨y, ca, m, rule, c, n, f, rfl, Y, hf, h0, k⟩ := h
    obtain ⟨dx, h1⟩ := Y.ob
    have hm : 0 < m := by omega
    refine ⟨_, pss_cons (ps_set (i := 2) scWhere.nd rfl (Or.inl rfl) (pe_mt T.cl GLo hr (pv 0) (pa_cons (pv 1) pa_nil)))
      (pss_cons (ps_set (i := 3) scWhere.nd rfl (Or.inl rfl) (pe_ix ix_list (pv 2) (pe_un un_neg pe_int) (fun _ _ => rfl)))
      (pss_one (ps_ret (pe_ifExp (pt_cmpR op_eq (pe_ix ix_list (pe_fld (pv 0) rfl) (pv 3) (fun _ _ => rfl)) (pv 1) (nomark _)) (pv 3) pe_non)))), ?_⟩
    refine ⟨_, rfl, y, dx, _, rfl, h1, flds_no m rule ca (by decide +kernel) (by decide +kernel) (by decide +kernel), _, rfl, y, ca, m, rule, c, n, f, rfl, Y, hf, h0, fun l H' hl s2 hl2 => ?_⟩
    have Y2 := Y.same s2
    obtain ⟨dy, g1⟩ := Y2.ob
    obtain ⟨r, er⟩ := lookL_last (m := m) (rule := rule) (c := c) (x := n) m (ws m n)
    have hlast := lastL_lt (rule := rule) (c := c) (x := n) m (ws m n) (ws_lt hm n)
    have eat : atI (nV (lookL m rule c n m (ws m n))) (-1) = some (V.int (lastL m rule c n m (ws m n) : Nat)) := by
      rw [er]
      unfold nV
      rw [List.map_append]
      exact atI_last _ _
    refine ⟨_, rfl, _, rfl, l, _, _, _, rfl, rfl, SqL.of hl2, eat, ?_⟩
    have hat := layV_at (c := c) (p := lastL m rule c n m (ws m n)) (by rw [Y.len]; exact hlast)
    have kk := k H' s2
    unfold whr at kk
    cases e : g c (lastL m rule c n m (ws m n)) with
    | none =>
      rw [e] at hat kk
      refine ⟨_, rfl, y, C, dy, _, _, rfl, g1, T.cl, T.nC, flds_cells _ _ _, _, rfl, ca, _, _, _, rfl, rfl, SqL.of Y2.ls, hat, _, rfl, rfl, _, rfl, ?_⟩
      exact iteF kk
    | some st =>
      rw [e] at hat kk
      refine ⟨_, rfl, y, C, dy, _, _, rfl, g1, T.cl, T.nC, flds_cells _ _ _, _, rfl, ca, _, _, _, rfl, rfl, SqL.of Y2.ls, hat, _, rfl, rfl, _, rfl, iteI (fun z => ?_) (fun z => ?_)⟩
      · rw [if_pos (by rw [z])] at kk
        exact ⟨_, rfl, kk⟩
      · rw [if_neg (by intro q; cases q; exact z rfl)] at kk
        exact kk

theorem scStalls : FnScope ["self"] ["self"] (defScope sStalls) := ⟨rfl, rfl, rfl, by decide +kernel, rfl, by decide +kernel, by decide +kernel⟩
theorem ok_stalls {f C : Addr} {fd : FuncData} (F : Fun K "stalls" "Yard.stalls" sStalls f fd) (T : Txt K mg C) : FnOk P w K mg base CX0 1 f fd ["self"] (spStalls C) := by
  refine F.ok scStalls (fun vs H Q E h => ?_) (fun cdv A outer s H vs Q E hr h => ?_)
  · obtain ⟨y, ca, m, rule, c, rfl, _⟩ := h
    rfl
  · obtain ⟨y, ca, m, rule, c, rfl, Y, k⟩ := h
    obtain ⟨dx, h1⟩ := Y.ob
    refine ⟨_, pss_one (ps_ret (pe_callTy call_list_of (by rfl) T.list PyProof.Rows.boot_list (pa_cons (pe_fld (pv 0) rfl) pa_nil))), ?_⟩
    exact ⟨_, rfl, y, C, dx, _, _, rfl, h1, T.cl, T.nC, flds_cells _ _ _, ca, _, rfl, .inl (SqL.of Y.ls), fun l hl => k l hl⟩

theorem scNamesW : FnScope ["self"] ["self"] (defScope sNames) := ⟨rfl, rfl, rfl, by decide +kernel, rfl, by decide +kernel, by decide +kernel⟩
theorem ok_namesW {f C : Addr} {fd : FuncData} (F : Fun K "names" "Yard.names" sNames f fd) (T : Txt K mg C) : FnOk P w K mg base CX0 1 f fd ["self"] (spNamesW C) := by
  refine F.ok scNamesW (fun vs H Q E h => ?_) (fun cdv A outer s H vs Q E hr h => ?_)
  · obtain ⟨y, ca, m, rule, c, rfl, _⟩ := h
    rfl
  · obtain ⟨y, ca, m, rule, c, rfl, Y, k⟩ := h
    obtain ⟨dx, h1⟩ := Y.ob
    refine ⟨_, pss_one (ps_ret (pe_callB call_sortedM (by rfl) T.sorted PyProof.Rows.boot_sorted (pa_cons (pe_compN rfl (pe_fld (pv 0) rfl)) pa_nil))), ?_⟩
    refine ⟨_, rfl, y, C, dx, _, _, rfl, h1, T.cl, T.nC, flds_cells _ _ _, ca, _, rfl, SqL.of Y.ls, fun l hl => ?_⟩
    refine ⟨l, nm c, rfl, SqL.of (by rw [layV_nm, upd_same]), (by have := free_nm c; have := Y.len; have := Y.few; omega), fun l' ns hl' hp _ => ?_⟩
    have nll : l' ≠ l := fun z => by subst z; rw [upd_same] at hl'; cases hl'
    have hl0 : H l' = none := by rw [upd_ne nll] at hl'; exact hl'
    exact k l' ns _ hl0 ((same_upd hl).trans (same_upd hl')) hp upd_same

theorem scHowW : FnScope ["self"] ["self"] (defScope sHow) := ⟨rfl, rfl, rfl, by decide +kernel, rfl, by decide +kernel, by decide +kernel⟩
theorem ok_howW {f C : Addr} {fd : FuncData} (F : Fun K "how_many" "Yard.how_many" sHow f fd) (T : Txt K mg C) (GN : MtG P w K mg base C "names" ["self"] 1 (spNamesW C)) : FnOk P w K mg base CX0 2 f fd ["self"] (spHowW C) := by
  refine F.ok scHowW (fun vs H Q E h => ?_) (fun cdv A outer s H vs Q E hr h => ?_)
  · obtain ⟨y, ca, m, rule, c, rfl, _⟩ := h
    rfl
  · obtain ⟨y, ca, m, rule, c, rfl, Y, k⟩ := h
    obtain ⟨dx, h1⟩ := Y.ob
    refine ⟨_, pss_one (ps_ret (pe_callB call_len_seq (by rfl) T.len PySem.boot_len (pa_cons (pe_mt0 T.cl GN hr (pv 0)) pa_nil))), ?_⟩
    refine ⟨_, rfl, y, dx, _, rfl, h1, flds_no m rule ca (by decide +kernel) (by decide +kernel) (by decide +kernel), y, ca, m, rule, c, rfl, Y, fun l ns H' hl s2 hp hl2 => ?_⟩
    refine ⟨l, _, rfl, .inl (SqL.of hl2), ?_⟩
    rw [List.length_map, hp]
    exact k H' s2

theorem scPutW : FnScope ["self", "name", "told", "coming", "at", "standing"] ["self", "name"] (defScope sPut) := ⟨rfl, rfl, rfl, by decide +kernel, rfl, by decide +kernel, by decide +kernel⟩
theorem ok_putW {f C : Addr} {fd : FuncData} (F : Fun K "put" "Yard.put" sPut f fd) (T : Txt K mg C) (GWh : MtG P w K mg base C "where" ["self", "name"] 5 (spWhere C)) (GH : MtG P w K mg base C "how_many" ["self"] 2 (spHowW C))
    (GWi : MtG P w K mg base C "wish" ["self", "name"] 1 (spWish C)) (GB : MtG P w K mg base C "behind" ["self", "at"] 1 (spBehind C)) (GS : MtG P w K mg base C "stand" ["self", "name", "at"] 1 (spStand C))
    (GK : FnG P w K mg base "keeps" ["rule", "one", "other", "at", "many"] 2 spKeeps) : FnOk P w K mg base CX0 6 f fd ["self", "name"] (spPutW C) := by
  refine F.ok scPutW (fun vs H Q E h => ?_) (fun cdv A outer s H vs Q E hr h => ?_)
  · obtain ⟨y, ca, m, rule, c, n, rfl, _⟩ := h
    rfl
  · obtain ⟨y, ca, m, rule, c, n, rfl, Y, hm, R, hnew, hroom, k⟩ := h
    obtain ⟨dx, h1⟩ := Y.ob
    have hr1 : Room 1 _ := hr.mono (by decide)
    have hr2 : Room 2 _ := hr.mono (by decide)
    have nf : ∀ {x : Str}, ¬ x = "cells" → ¬ x = "rule" → ¬ x = "many" → (flds m rule ca).lookup x = none := fun a b d => flds_no m rule ca a b d
    obtain ⟨f0, hf, h0⟩ := R.fre
    have hw : whr m rule c n = none := (whr_none hm R).mpr hnew
    refine ⟨_, pss_cons (ps_if (pt_cmp (pc_notN (pe_mt T.cl GWh hr (pv 0) (pa_cons (pv 1) pa_nil)))) pss_never pss_nil)
      (pss_cons (ps_if (pt_cmpR op_ge (pe_mt0 T.cl GH hr2 (pv 0)) (pe_op op_sub (pe_fld (pv 0) rfl) pe_int) (nomark _)) pss_never pss_nil)
      (pss_cons (ps_set (i := 2) scPutW.nd rfl (Or.inl rfl) (pe_lst pa_nil))
      (pss_cons (ps_set (i := 3) scPutW.nd rfl (Or.inl rfl) (pv 1))
      (pss_cons (ps_set (i := 4) scPutW.nd rfl (Or.inl rfl) (pe_mt T.cl GWi hr1 (pv 0) (pa_cons (pv 1) pa_nil)))
      (pss_cons (ps_while PassesOwn.never (pt_cmp (pc_notN (pe_ix ix_list (pe_fld (pv 0) rfl) (pv 4) (fun _ _ => rfl))))
        (pss_cons (ps_set (i := 5) scPutW.nd rfl (Or.inl rfl) (pe_ix ix_list (pe_fld (pv 0) rfl) (pv 4) (fun _ _ => rfl)))
        (pss_cons (ps_if (pt_not (pt_val (pe_fn GK hr2 (pa_cons (pe_fld (pv 0) rfl) (pa_cons (pv 5) (pa_cons (pv 3) (pa_cons (pv 4) (pa_cons (pe_fld (pv 0) rfl) pa_nil))))))))
          (pss_cons (ps_expr (pe_bm PySem.F.plainAttrs_list PySem.F.slot_list_append PySem.F.type_list_append mt_append (pv 2) (pa_cons (pe_mt T.cl GS hr1 (pv 0) (pa_cons (pv 3) (pa_cons (pv 4) pa_nil))) pa_nil)))
            (pss_one (ps_set (i := 3) scPutW.nd rfl (Or.inl rfl) (pv 5)))) pss_nil)
        (pss_one (ps_set (i := 4) scPutW.nd rfl (Or.inl rfl) (pe_mt T.cl GB hr1 (pv 0) (pa_cons (pv 4) pa_nil)))))))
      (pss_cons (ps_expr (pe_bm PySem.F.plainAttrs_list PySem.F.slot_list_append PySem.F.type_list_append mt_append (pv 2) (pa_cons (pe_mt T.cl GS hr1 (pv 0) (pa_cons (pv 3) (pa_cons (pv 4) pa_nil))) pa_nil)))
      (pss_one (ps_ret (pv 2))))))))), ?_⟩
    -- not there yet
    refine ⟨_, rfl, y, dx, _, rfl, h1, nf (by decide +kernel) (by decide +kernel) (by decide +kernel), _, rfl, y, ca, m, rule, c, n, f0, rfl, Y, hf, h0, fun H1 s1 => ?_⟩
    rw [hw]
    refine ⟨_, rfl, iteF ?_⟩
    -- there is room
    have Y1 := Y.same s1
    obtain ⟨d1, g1⟩ := Y1.ob
    refine ⟨_, rfl, y, d1, _, rfl, g1, nf (by decide +kernel) (by decide +kernel) (by decide +kernel), y, ca, m, rule, c, rfl, Y1, fun H2 s2 => ?_⟩
    have Y2 := Y1.same s2
    obtain ⟨d2, g2⟩ := Y2.ob
    refine ⟨_, rfl, y, C, d2, _, _, rfl, g2, T.cl, T.nM, flds_many _ _ _, _, _, rfl, rfl, _, _, rfl, rfl, _, rfl, iteD (fun z => by omega) (fun _ => ?_)⟩
    -- told = []; coming = name; at = self.wish(name)
    refine ⟨(by show 0 ≤ sizeLine; decide), fun l hl => ?_⟩
    have s12 : Same H H2 := s1.trans s2
    have hl0 : H l = none := s12.free hl
    have Y3 : YardAt C (upd H2 l (.lst [])) y ca m rule c := Y2.same (same_upd hl)
    obtain ⟨d3, g3⟩ := Y3.ob
    have nlc : l ≠ ca := ne_of_none Y2.ls hl |>.symm
    refine ⟨_, rfl, ?_⟩
    refine ⟨_, rfl, y, d3, _, rfl, g3, nf (by decide +kernel) (by decide +kernel) (by decide +kernel), _, rfl, y, ca, m, rule, c, n, rfl, Y3, hm, ?_⟩
    have hszl : sizeLine ≥ 1000 := by decide
    have h200 := Y.few
    -- the walk
    generalize htot : putL m rule m c n (ws m n) = tot at k
    refine ⟨fun j σ H' => ∃ (c' : Lay) (x : Int) (p : Nat) (pre : List (Int × Nat)) (st : Option V), σ = [some (.ref y), some (.int n), some (.ref l), some (.int x), some (.int (p : Int)), st] ∧ YardAt C H' y ca m rule c' ∧ Told H' l pre ∧
        pre ++ (putL m rule j c' x p).1 = tot.1 ∧ (putL m rule j c' x p).2 = tot.2 ∧ p < m ∧ g c' f0 = none ∧ dist m p f0 < j ∧ pre.length + j ≤ m ∧ m ≤ m ∧ SameX ca H H',
      ⟨m, c, n, ws m n, [], none, rfl, Y3, ⟨⟨[], upd_same, .nil⟩⟩, by rw [htot]; rfl, by rw [htot], ws_lt hm n, h0, dist_lt (ws_lt hm n) hf, by simp, Nat.le_refl _, sx_of (s12.trans (same_upd hl))⟩, ?_⟩
    rintro j σ H' ⟨c', x, p, pre, st, rfl, Y', T', e1, e2, hp, hf0, hd, hlen, _, sx⟩
    obtain ⟨j, rfl⟩ : ∃ i, j = i + 1 := ⟨j - 1, by omega⟩
    obtain ⟨d', g'⟩ := Y'.ob
    have hp' : p < c'.length := by rw [Y'.len]; exact hp
    have hat := layV_at hp'
    unfold putL at e1 e2
    cases e : g c' p with
    | none =>
      rw [e] at hat e1 e2
      refine ⟨_, rfl, y, C, d', _, _, rfl, g', T.cl, T.nC, flds_cells _ _ _, _, rfl, ca, _, _, _, rfl, rfl, SqL.of Y'.ls, hat, _, rfl, iteF ?_⟩
      -- it comes to stand
      obtain ⟨ts, t1, t2⟩ := T'.ex
      refine ⟨_, rfl, .inl ⟨rfl, _, SqL.of t1⟩, _, rfl, y, d', _, rfl, g', nf (by decide +kernel) (by decide +kernel) (by decide +kernel), _, rfl, _, rfl, y, ca, m, rule, c', x, p, rfl, Y', hp, fun t H4 ht Y4 s4 t4 => ?_⟩
      have T4 : Told H4 l pre := T'.samex Y'.ls nlc s4
      obtain ⟨ts4, u1, u2⟩ := T4.ex
      have hll := u2.length
      rw [List.length_map] at hll
      refine ⟨l, _, _, rfl, rfl, u1, ?_, ?_⟩
      · rw [List.length_map, hll]
        omega
      · have T5 := Told.snoc u1 u2 t4
        refine ⟨_, rfl, k l _ hl0 ?_ ?_ fun b o eb nb => ?_⟩
        · rw [← e1]; exact T5
        · rw [← e2]
          obtain ⟨d4, g4⟩ := Y4.ob
          exact ⟨⟨d4, by rw [upd_ne (ne_of g4 u1 (by intro z; cases z))]; exact g4⟩, by rw [upd_ne nlc.symm]; exact Y4.ls, Y4.len, Y4.few⟩
        · rw [upd_ne (ne_of_none eb hl0)]
          exact s4 b o (sx b o eb nb) nb
    | some sd =>
      rw [e] at hat e1 e2
      have npf : p ≠ f0 := fun z => by subst z; rw [hf0] at e; cases e
      have dd := dist_to hp hf npf
      refine ⟨_, rfl, y, C, d', _, _, rfl, g', T.cl, T.nC, flds_cells _ _ _, _, rfl, ca, _, _, _, rfl, rfl, SqL.of Y'.ls, hat, _, rfl, iteT ?_⟩
      refine ⟨_, fun σ' H'' w' => ⟨j, Nat.lt_succ_self _, w'⟩, ?_⟩
      refine ⟨_, rfl, y, C, d', _, _, rfl, g', T.cl, T.nC, flds_cells _ _ _, _, rfl, ca, _, _, _, rfl, rfl, SqL.of Y'.ls, hat, ?_⟩
      refine ⟨_, rfl, y, C, d', _, _, rfl, g', T.cl, T.nR, flds_rule _ _ _, _, rfl, _, rfl, _, rfl, _, rfl, y, C, d', _, _, rfl, g', T.cl, T.nM, flds_many _ _ _, _, _, _, _, _, rfl, hp, _, rfl, iteNB (fun hb => ?_) (fun hb => ?_)⟩
      · -- the one that stood there goes on
        simp only [hb, Bool.false_eq_true, if_false] at e1 e2
        obtain ⟨ts, t1, t2⟩ := T'.ex
        refine ⟨_, rfl, .inl ⟨rfl, _, SqL.of t1⟩, _, rfl, y, d', _, rfl, g', nf (by decide +kernel) (by decide +kernel) (by decide +kernel), _, rfl, _, rfl, y, ca, m, rule, c', x, p, rfl, Y', hp, fun t H4 ht Y4 s4 t4 => ?_⟩
        have T4 : Told H4 l pre := T'.samex Y'.ls nlc s4
        obtain ⟨ts4, u1, u2⟩ := T4.ex
        have hll := u2.length
        rw [List.length_map] at hll
        obtain ⟨d4, g4⟩ := Y4.ob
        have nyl : y ≠ l := ne_of g4 u1 (by intro z; cases z)
        refine ⟨l, _, _, rfl, rfl, u1, ?_, ?_⟩
        · rw [List.length_map, hll]
          omega
        · have T5 := Told.snoc u1 u2 t4
          have Y5 : YardAt C (upd H4 l (.lst (ts4.map V.ref ++ [.ref t]))) y ca m rule (c'.set p (some x)) := ⟨⟨d4, by rw [upd_ne nyl]; exact g4⟩, by rw [upd_ne nlc.symm]; exact Y4.ls, Y4.len, Y4.few⟩
          obtain ⟨d5, g5⟩ := Y5.ob
          refine ⟨_, rfl, _, rfl, y, d5, _, rfl, g5, nf (by decide +kernel) (by decide +kernel) (by decide +kernel), _, rfl, y, ca, m, rule, _, p, rfl, Y5, hp, ?_⟩
          refine ⟨c'.set p (some x), sd, nx m p, pre ++ [(x, p)], _, rfl, Y5, T5, ?_, e2, nx_lt hp, ?_, by omega, by rw [List.length_append, List.length_singleton]; omega, Nat.le_refl _, fun b o eb nb => ?_⟩
          · rw [← e1, List.append_assoc]
            rfl
          · rw [g_set_ne hp' (Ne.symm npf)]; exact hf0
          · rw [upd_ne (ne_of_none eb hl0)]
            exact s4 b o (sx b o eb nb) nb
      · -- it goes on itself
        simp only [hb, if_true] at e1 e2
        refine ⟨_, rfl, y, d', _, rfl, g', nf (by decide +kernel) (by decide +kernel) (by decide +kernel), _, rfl, y, ca, m, rule, _, p, rfl, Y', hp, ?_⟩
        exact ⟨c', x, nx m p, pre, _, rfl, Y', T', e1, e2, nx_lt hp, hf0, by omega, by omega, Nat.le_refl _, sx⟩

theorem scPasses : FnScope ["name", "passed", "at", "many"] ["name", "passed", "at", "many"] (defScope sPasses) := ⟨rfl, rfl, rfl, by decide +kernel, rfl, by decide +kernel, by decide +kernel⟩
theorem ok_passes {f : Addr} {fd : FuncData} (F : Fun K "passes" "passes" sPasses f fd) (GW : FnG P w K mg base "way" ["name", "at", "many"] 1 spWay) : FnOk P w K mg base CX0 2 f fd ["name", "passed", "at", "many"] spPasses := by
  refine F.ok scPasses (fun vs H Q E h => ?_) (fun cdv A outer s H vs Q E hr h => ?_)
  · obtain ⟨n, gap, q, m, rfl, _⟩ := h
    rfl
  · obtain ⟨n, gap, q, m, rfl, hg, hq, k⟩ := h
    have hm : (0 : Int) < (m : Int) := by omega
    have hm' : 0 < m := by omega
    refine ⟨_, pss_one (ps_ret (pe_cmpR op_lt (pe_fn GW hr (pa_cons (pv 0) (pa_cons (pv 1) (pa_cons (pv 3) pa_nil)))) (pe_fn GW hr (pa_cons (pv 0) (pa_cons (pv 2) (pa_cons (pv 3) pa_nil)))) (nomark _))), ?_⟩
    refine ⟨_, rfl, _, rfl, _, rfl, _, _, _, rfl, hm, _, rfl, _, rfl, _, rfl, _, _, _, rfl, hm, _, _, rfl, rfl, ?_⟩
    have : decide (((gap : Int) - n) % (m : Int) < ((q : Int) - n) % (m : Int)) = passes m n gap q := by
      unfold passes
      rw [way_eq hm' n hg, way_eq hm' n hq, Bool.eq_iff_iff, decide_eq_true_iff, decide_eq_true_iff]
      omega
    rw [← this] at k; exact k

theorem scNear : FnScope ["self", "gap", "at"] ["self", "gap"] (defScope sNear) := ⟨rfl, rfl, rfl, by decide +kernel, rfl, by decide +kernel, by decide +kernel⟩
theorem ok_near {f C : Addr} {fd : FuncData} (F : Fun K "nearest_passing" "Yard.nearest_passing" sNear f fd) (T : Txt K mg C) (GB : MtG P w K mg base C "behind" ["self", "at"] 1 (spBehind C))
    (GP : FnG P w K mg base "passes" ["name", "passed", "at", "many"] 2 spPasses) : FnOk P w K mg base CX0 3 f fd ["self", "gap"] (spNear C) := by
  refine F.ok scNear (fun vs H Q E h => ?_) (fun cdv A outer s H vs Q E hr h => ?_)
  · obtain ⟨y, ca, m, rule, c, gap, rfl, _⟩ := h
    rfl
  · obtain ⟨y, ca, m, rule, c, gap, rfl, Y, hg, h0, k⟩ := h
    obtain ⟨dx, h1⟩ := Y.ob
    have hr1 : Room 1 _ := hr.mono (by decide)
    have nf : ∀ {x : Str}, ¬ x = "cells" → ¬ x = "rule" → ¬ x = "many" → (flds m rule ca).lookup x = none := fun a b d => flds_no m rule ca a b d
    refine ⟨_, pss_cons (ps_set (i := 2) scNear.nd rfl (Or.inl rfl) (pe_mt T.cl GB hr1 (pv 0) (pa_cons (pv 1) pa_nil)))
      (pss_cons (ps_while PassesOwn.never (pt_cmp (pc_notN (pe_ix ix_list (pe_fld (pv 0) rfl) (pv 2) (fun _ _ => rfl))))
        (pss_cons (ps_if (pt_val (pe_fn GP hr (pa_cons (pe_ix ix_list (pe_fld (pv 0) rfl) (pv 2) (fun _ _ => rfl)) (pa_cons (pv 1) (pa_cons (pv 2) (pa_cons (pe_fld (pv 0) rfl) pa_nil)))))) (pss_one (ps_ret (pv 2))) pss_nil)
        (pss_one (ps_set (i := 2) scNear.nd rfl (Or.inl rfl) (pe_mt T.cl GB hr1 (pv 0) (pa_cons (pv 2) pa_nil))))))
      (pss_one (ps_ret pe_non))), ?_⟩
    refine ⟨_, rfl, y, dx, _, rfl, h1, nf (by decide +kernel) (by decide +kernel) (by decide +kernel), _, rfl, y, ca, m, rule, c, gap, rfl, Y, hg, ?_⟩
    refine ⟨fun j σ H' => ∃ (p : Nat), σ = [some (.ref y), some (.int (gap : Int)), some (.int (p : Int))] ∧ H' = H ∧ p < m ∧ dist m p gap < j ∧ nearL m c gap j p = near m c gap,
      ⟨m, nx m gap, rfl, rfl, nx_lt hg, dist_lt (nx_lt hg) hg, rfl⟩, ?_⟩
    rintro j σ H' ⟨p, rfl, rfl, hp, hd, en⟩
    obtain ⟨j, rfl⟩ : ∃ i, j = i + 1 := ⟨j - 1, by omega⟩
    have hp' : p < c.length := by rw [Y.len]; exact hp
    have hat := layV_at hp'
    unfold nearL at en
    cases e : g c p with
    | none =>
      rw [e] at hat en
      refine ⟨_, rfl, y, C, dx, _, _, rfl, h1, T.cl, T.nC, flds_cells _ _ _, _, rfl, ca, _, _, _, rfl, rfl, SqL.of Y.ls, hat, _, rfl, iteF ?_⟩
      rw [← en] at k
      exact k
    | some st =>
      rw [e] at hat en
      have npf : p ≠ gap := fun z => by subst z; rw [h0] at e; cases e
      have dd := dist_to hp hg npf
      refine ⟨_, rfl, y, C, dx, _, _, rfl, h1, T.cl, T.nC, flds_cells _ _ _, _, rfl, ca, _, _, _, rfl, rfl, SqL.of Y.ls, hat, _, rfl, iteT ?_⟩
      refine ⟨_, fun σ' H'' w' => ⟨j, Nat.lt_succ_self _, w'⟩, ?_⟩
      refine ⟨_, rfl, y, C, dx, _, _, rfl, h1, T.cl, T.nC, flds_cells _ _ _, _, rfl, ca, _, _, _, rfl, rfl, SqL.of Y.ls, hat, _, rfl, _, rfl, _, rfl, y, C, dx, _, _, rfl, h1, T.cl, T.nM, flds_many _ _ _, _, _, _, _, rfl, hg, hp, _, rfl, iteB (fun hb => ?_) (fun hb => ?_)⟩
      · simp only [hb, if_true] at en
        rw [← en] at k
        exact ⟨_, rfl, k⟩
      · simp only [hb, Bool.false_eq_true, if_false] at en
        refine ⟨_, rfl, y, dx, _, rfl, h1, nf (by decide +kernel) (by decide +kernel) (by decide +kernel), _, rfl, y, ca, m, rule, c, p, rfl, Y, hp, ?_⟩
        exact ⟨nx m p, rfl, rfl, nx_lt hp, by omega, en⟩

theorem scTake : FnScope ["self", "name", "gap", "told", "left"] ["self", "name"] (defScope sTake) := ⟨rfl, rfl, rfl, by decide +kernel, rfl, by decide +kernel, by decide +kernel⟩
theorem ok_take {f C : Addr} {fd : FuncData} (F : Fun K "take" "Yard.take" sTake f fd) (T : Txt K mg C) (GWh : MtG P w K mg base C "where" ["self", "name"] 5 (spWhere C)) (GN : MtG P w K mg base C "nearest_passing" ["self", "gap"] 3 (spNear C))
    (GS : MtG P w K mg base C "stand" ["self", "name", "at"] 1 (spStand C)) : FnOk P w K mg base CX0 6 f fd ["self", "name"] (spTake C) := by
  refine F.ok scTake (fun vs H Q E h => ?_) (fun cdv A outer s H vs Q E hr h => ?_)
  · obtain ⟨y, ca, m, rule, c, n, p0, rfl, _⟩ := h
    rfl
  · obtain ⟨y, ca, m, rule, c, n, p0, rfl, Y, hm, h200, R, hp0, k⟩ := h
    obtain ⟨dx, h1⟩ := Y.ob
    have hr1 : Room 1 _ := hr.mono (by decide)
    have hr3 : Room 3 _ := hr.mono (by decide)
    have nf : ∀ {x : Str}, ¬ x = "cells" → ¬ x = "rule" → ¬ x = "many" → (flds m rule ca).lookup x = none := fun a b d => flds_no m rule ca a b d
    obtain ⟨f0, hf, h0⟩ := R.fre
    have hw : whr m rule c n = some p0 := (whr_some hm R).mpr hp0
    have hpl : p0 < c.length := g_lt hp0
    have hpm : p0 < m := by rw [← R.len]; exact hpl
    refine ⟨_, pss_cons (ps_set (i := 2) scTake.nd rfl (Or.inl rfl) (pe_mt T.cl GWh hr (pv 0) (pa_cons (pv 1) pa_nil)))
      (pss_cons (ps_if (pt_cmp (pc_isN (pv 2))) pss_never pss_nil)
      (pss_cons (ps_set (i := 3) scTake.nd rfl (Or.inl rfl) (pe_lst pa_nil))
      (pss_cons (ps_asg pe_non (pg_sub (pe_fld (pv 0) rfl) (pv 2) set_list))
      (pss_cons (ps_set (i := 4) scTake.nd rfl (Or.inl rfl) (pe_mt T.cl GN hr3 (pv 0) (pa_cons (pv 2) pa_nil)))
      (pss_cons (ps_while PassesOwn.never (pt_cmp (pc_notN (pv 4)))
        (pss_cons (ps_expr (pe_bm PySem.F.plainAttrs_list PySem.F.slot_list_append PySem.F.type_list_append mt_append (pv 3) (pa_cons (pe_mt T.cl GS hr1 (pv 0) (pa_cons (pe_ix ix_list (pe_fld (pv 0) rfl) (pv 4) (fun _ _ => rfl)) (pa_cons (pv 2) pa_nil))) pa_nil)))
        (pss_cons (ps_asg pe_non (pg_sub (pe_fld (pv 0) rfl) (pv 4) set_list))
        (pss_cons (ps_set (i := 2) scTake.nd rfl (Or.inl rfl) (pv 4))
        (pss_one (ps_set (i := 4) scTake.nd rfl (Or.inl rfl) (pe_mt T.cl GN hr3 (pv 0) (pa_cons (pv 2) pa_nil))))))))
      (pss_one (ps_ret (pv 3)))))))), ?_⟩
    refine ⟨_, rfl, y, dx, _, rfl, h1, nf (by decide +kernel) (by decide +kernel) (by decide +kernel), _, rfl, y, ca, m, rule, c, n, f0, rfl, Y, hf, h0, fun H1 s1 => ?_⟩
    rw [hw]
    refine ⟨_, rfl, _, rfl, iteF ?_⟩
    -- told = []
    refine ⟨(by show 0 ≤ sizeLine; decide), fun l hl => ?_⟩
    have hl0 : H l = none := s1.free hl
    have Y1 := Y.same s1
    have nlc : l ≠ ca := (ne_of_none Y1.ls hl).symm
    have Y2 : YardAt C (upd H1 l (.lst [])) y ca m rule c := Y1.same (same_upd hl)
    obtain ⟨d2, g2⟩ := Y2.ob
    have nyl : y ≠ l := ne_of_none (s1 _ _ h1) hl
    -- the gap is laid
    refine ⟨_, rfl, y, C, d2, _, _, rfl, g2, T.cl, T.nC, flds_cells _ _ _, _, rfl, ca, _, _, p0, rfl, rfl, Y2.ls, layV_ix hpl, ?_⟩
    have Y3 : YardAt C (upd (upd H1 l (.lst [])) ca (.lst ((layV c).set p0 .non))) y ca m rule (c.set p0 none) :=
      ⟨⟨d2, by rw [upd_ne Y2.ne]; exact g2⟩, by rw [upd_same, layV_set]; rfl, by rw [List.length_set]; exact Y.len, Y.few⟩
    have T3 : Told (upd (upd H1 l (.lst [])) ca (.lst ((layV c).set p0 .non))) l [] := ⟨⟨[], by rw [upd_ne nlc, upd_same]; rfl, .nil⟩⟩
    have sx3 : SameX ca H (upd (upd H1 l (.lst [])) ca (.lst ((layV c).set p0 .non))) := fun b o e nb => by
      rw [upd_ne nb, upd_ne (ne_of_none e hl0)]
      exact s1 b o e
    obtain ⟨d3, g3⟩ := Y3.ob
    have O3 := R.gap hp0
    have z3 : g (c.set p0 none) p0 = none := g_set_self hpl
    refine ⟨_, rfl, y, d3, _, rfl, g3, nf (by decide +kernel) (by decide +kernel) (by decide +kernel), _, rfl, y, ca, m, rule, _, p0, rfl, Y3, hpm, z3, ?_⟩
    have hszl : sizeLine ≥ 100000 := by decide
    refine ⟨fun j σ H' => ∃ (c' : Lay) (gap : Nat) (pre : List (Int × Nat)), σ = [some (.ref y), some (.int n), some (.int (gap : Int)), some (.ref l), some (oV (near m c' gap))] ∧ YardAt C H' y ca m rule c' ∧ Told H' l pre ∧ Okay m rule c' (some gap) ∧ gap < m ∧ g c' gap = none ∧
        pre ++ (takeL m j c' gap).1 = (takenL m c p0).1 ∧ (takeL m j c' gap).2 = (takenL m c p0).2 ∧ steps m c' < j ∧ pre.length + j ≤ steps m (c.set p0 none) + 1 ∧ SameX ca H H',
      ⟨steps m (c.set p0 none) + 1, c.set p0 none, p0, [], rfl, Y3, T3, O3, hpm, z3, rfl, rfl, Nat.lt_succ_self _, by simp, sx3⟩, ?_⟩
    rintro j σ H' ⟨c', gap, pre, rfl, Y', T', O', hg, hg0, e1, e2, hj, hlen, sx⟩
    obtain ⟨j, rfl⟩ : ∃ i, j = i + 1 := ⟨j - 1, by omega⟩
    obtain ⟨d', g'⟩ := Y'.ob
    unfold takeL at e1 e2
    cases e : near m c' gap with
    | none =>
      rw [e] at e1 e2
      refine ⟨_, rfl, _, rfl, iteF ?_⟩
      refine ⟨_, rfl, k l H' hl0 ?_ ?_ sx⟩
      · rw [← e1, List.append_nil]; exact T'
      · rw [← e2]; exact Y'
    | some q =>
      obtain ⟨hq, nqg, ⟨z, hz, hpz⟩, _⟩ := near_some hg hg0 e
      simp only [e, hz] at e1 e2
      have hql : q < c'.length := g_lt hz
      have hat := layV_at hql
      rw [hz] at hat
      have st := steps_move O'.len hg hg0 hq nqg hz hpz
      have O2 := O'.move hm hg hg0 e hz
      obtain ⟨ts, t1, t2⟩ := T'.ex
      refine ⟨_, rfl, _, rfl, iteT ?_⟩
      refine ⟨_, fun σ' H'' w' => ⟨j, Nat.lt_succ_self _, w'⟩, ?_⟩
      refine ⟨_, rfl, .inl ⟨rfl, _, SqL.of t1⟩, _, rfl, y, d', _, rfl, g', nf (by decide +kernel) (by decide +kernel) (by decide +kernel), _, rfl, y, C, d', _, _, rfl, g', T.cl, T.nC, flds_cells _ _ _, _, rfl, ca, _, _, _, rfl, rfl, SqL.of Y'.ls, hat,
        _, rfl, y, ca, m, rule, c', z, gap, rfl, Y', hg, fun t H4 ht Y4 s4 t4 => ?_⟩
      have T4 : Told H4 l pre := T'.samex Y'.ls nlc s4
      obtain ⟨ts4, u1, u2⟩ := T4.ex
      have hll := u2.length
      rw [List.length_map] at hll
      obtain ⟨d4, g4⟩ := Y4.ob
      refine ⟨l, _, _, rfl, rfl, u1, ?_, ?_⟩
      · rw [List.length_map, hll]
        have h40 := steps_le (c := c.set p0 none) hm h200
        omega
      · have T5 := Told.snoc u1 u2 t4
        have Y5 : YardAt C (upd H4 l (.lst (ts4.map V.ref ++ [.ref t]))) y ca m rule (c'.set gap (some z)) := ⟨⟨d4, by rw [upd_ne nyl]; exact g4⟩, by rw [upd_ne nlc.symm]; exact Y4.ls, Y4.len, Y4.few⟩
        obtain ⟨d5, g5⟩ := Y5.ob
        have hq5 : q < (c'.set gap (some z)).length := by rw [List.length_set]; exact hql
        refine ⟨_, rfl, y, C, d5, _, _, rfl, g5, T.cl, T.nC, flds_cells _ _ _, _, rfl, ca, _, _, q, rfl, rfl, Y5.ls, layV_ix hq5, ?_⟩
        have Y6 : YardAt C (upd (upd H4 l (.lst (ts4.map V.ref ++ [.ref t]))) ca (.lst ((layV (c'.set gap (some z))).set q .non))) y ca m rule ((c'.set gap (some z)).set q none) :=
          ⟨⟨d5, by rw [upd_ne Y5.ne]; exact g5⟩, by rw [upd_same, layV_set (c'.set gap (some z))]; rfl, by rw [List.length_set]; exact Y5.len, Y5.few⟩
        obtain ⟨d6, g6⟩ := Y6.ob
        have z6 : g ((c'.set gap (some z)).set q none) q = none := g_set_self hq5
        refine ⟨_, rfl, _, rfl, y, d6, _, rfl, g6, nf (by decide +kernel) (by decide +kernel) (by decide +kernel), _, rfl, y, ca, m, rule, _, q, rfl, Y6, hq, z6, ?_⟩
        refine ⟨(c'.set gap (some z)).set q none, q, pre ++ [(z, gap)], rfl, Y6, T5.samex (by rw [upd_ne nlc.symm]; exact Y4.ls) nlc samex_upd, O2, hq, z6, ?_, e2, by omega, by rw [List.length_append, List.length_singleton]; omega, fun b o eb nb => ?_⟩
        · rw [← e1, List.append_assoc]
          rfl
        · rw [upd_ne nb, upd_ne (ne_of_none eb hl0)]
          exact s4 b o (sx b o eb nb) nb

theorem ok_putXW {f C CH CF CY : Addr} {fd : FuncData} (F : Fun K "put" "Yard.put" sPut f fd) (T : Txt K mg C) (OH : ExcT K mg base "Here" CH CY) (OF : ExcT K mg base "Full" CF CY) (GWh : MtG P w K mg base C "where" ["self", "name"] 5 (spWhere C)) (GH : MtG P w K mg base C "how_many" ["self"] 2 (spHowW C)) :
    FnOk P w K mg base (CX1 P w) 6 f fd ["self", "name"] (spPutXW C CH CF) := by
  refine F.okX scPutW (fun vs H Q E h => ?_) (fun cdv A outer s H vs Q E hr h => ?_)
  · obtain ⟨y, ca, m, rule, c, n, rfl, _⟩ := h
    rfl
  · obtain ⟨y, ca, m, rule, c, n, rfl, Y, hm, R, hcase⟩ := h
    obtain ⟨dx, h1⟩ := Y.ob
    have hr2 : Room 2 _ := hr.mono (by decide)
    have nf : ∀ {x : Str}, ¬ x = "cells" → ¬ x = "rule" → ¬ x = "many" → (flds m rule ca).lookup x = none := fun a b d => flds_no m rule ca a b d
    obtain ⟨f0, hf, h0⟩ := R.fre
    refine ⟨_, pss_cons (ps_if (pt_cmp (pc_notN (pe_mt T.cl GWh hr (pv 0) (pa_cons (pv 1) pa_nil)))) (pss_one (ps_raise raisesX rfl rfl OH.own PySem.F.excBase_ValueError (pa_cons pe_str pa_nil))) pss_nil)
      (pss_cons (ps_if (pt_cmpR op_ge (pe_mt0 T.cl GH hr2 (pv 0)) (pe_op op_sub (pe_fld (pv 0) rfl) pe_int) (nomark _)) (pss_one (ps_raise raisesX rfl rfl OF.own PySem.F.excBase_ValueError (pa_cons pe_str pa_nil))) pss_nil)
      pss_never), ?_⟩
    refine ⟨_, rfl, y, dx, _, rfl, h1, nf (by decide +kernel) (by decide +kernel) (by decide +kernel), _, rfl, y, ca, m, rule, c, n, f0, rfl, Y, hf, h0, fun H1 s1 => ?_⟩
    rcases hcase with ⟨hin, k⟩ | ⟨hout, hfull, k⟩
    · obtain ⟨p, hp⟩ := mem_nm.mp hin
      rw [(whr_some hm R).mpr hp]
      exact ⟨_, rfl, iteT ⟨(by show 1 ≤ 100; decide), k H1 s1⟩⟩
    · rw [(whr_none hm R).mpr hout]
      refine ⟨_, rfl, iteF ?_⟩
      have Y1 := Y.same s1
      obtain ⟨d1, g1⟩ := Y1.ob
      refine ⟨_, rfl, y, d1, _, rfl, g1, nf (by decide +kernel) (by decide +kernel) (by decide +kernel), y, ca, m, rule, c, rfl, Y1, fun H2 s2 => ?_⟩
      obtain ⟨d2, g2⟩ := (Y1.same s2).ob
      refine ⟨_, rfl, y, C, d2, _, _, rfl, g2, T.cl, T.nM, flds_many _ _ _, _, _, rfl, rfl, _, _, rfl, rfl, _, rfl, iteD (fun _ => ⟨(by show 1 ≤ 100; decide), k H2 (s1.trans s2)⟩) (fun z => ?_)⟩
      exact absurd (by omega) z

theorem ok_initX {f C CN CY : Addr} {fd : FuncData} (F : Fun K "__init__" "Yard.__init__" sInit f fd) (T : Txt K mg C) (GSz : FnG P w K mg base "is_size" ["many"] 1 spSize) (ON : ExcT K mg base "NoSize" CN CY) : FnOk P w K mg base (CX1 P w) 2 f fd ["self", "many", "rule"] (spInitX CN) := by
  refine F.okX scInit (fun vs H Q E h => ?_) (fun cdv A outer s H vs Q E hr h => ?_)
  · obtain ⟨y, z, rule, rfl, _⟩ := h
    rfl
  · obtain ⟨y, z, rule, rfl, hz, k⟩ := h
    obtain ⟨tl, hlo⟩ := T.lo
    obtain ⟨th, hhi⟩ := T.hi
    refine ⟨_, pss_cons (ps_if (pt_not (pt_val (pe_fn GSz (hr.mono (by decide)) (pa_cons (pv 1) pa_nil))))
        (pss_one (ps_raise raisesX rfl rfl ON.own PySem.F.excBase_ValueError (pa_cons (pe_fstr (pj_cons pe_str (pj_cons (pe_fmt (pe_glob (v := .int 2) rfl hlo ⟨_, rfl⟩)) (pj_cons pe_str (pj_cons (pe_fmt (pe_glob (v := .int 200) rfl hhi ⟨_, rfl⟩)) (pj_cons pe_str pj_nil)))))) pa_nil))) pss_nil)
      pss_never, ?_⟩
    refine ⟨_, rfl, _, rfl, _, rfl, iteNB (fun _ => ?_) (fun q => ?_)⟩
    · exact ⟨_, rfl, by decide +kernel, _, rfl, by decide, _, rfl, by decide +kernel, _, rfl, by decide +kernel, _, rfl, by decide, _, rfl, by decide +kernel, _, rfl, by decide +kernel, by decide +kernel, (by show 1 ≤ 100; decide), k H (Same.refl H)⟩
    · have := of_decide_eq_true q
      omega

theorem passF {P : Program} {w : World} {X : Cx} : Passes (CX1 P w) X (fun _ _ _ => False) := fun _ _ _ _ _ _ _ h => by
  obtain ⟨_, _, _, _, _, _, _, _, _, _, h⟩ := h
  exact h.elim
def spMovedB (B : Nat) (C CN CF : Addr) : Sp := fun vs H Q E => ∃ (y ca : Addr) (m : Nat) (rule : Int) (c : Lay) (z : Int), vs = [.ref y, .int z] ∧ YardAt C H y ca m rule c ∧ 2 ≤ m ∧ Right m rule c ∧ 0 ≤ rule ∧ rule ≤ 2 ∧ (nm c).length < B ∧
  (((z < 2 ∨ 200 < z) ∧ ∀ H', Same H H' → E (.ref CN) none H') ∨
   (∃ q : Nat, z = (q : Int) ∧ 2 ≤ q ∧ q ≤ 200 ∧ q ≤ (nm c).length ∧ ∀ H', Same H H' → E (.ref CF) none H') ∨
   (∃ q : Nat, z = (q : Int) ∧ 2 ≤ q ∧ q ≤ 200 ∧ (nm c).length < q ∧ ∀ (y' ca' : Addr) (H' : Hp), H y' = none → H ca' = none → Same H H' → YardAt C H' y' ca' q rule (putAll q rule (nm c)) → Q (.ref y') H'))
theorem scMissing : FnScope ["yard", "layout", "name"] ["yard", "layout"] (defScope sMissing) := ⟨rfl, rfl, rfl, by decide +kernel, rfl, by decide +kernel, by decide +kernel⟩
theorem ok_missing {f C CF : Addr} {fd : FuncData} {B : Nat} (F : Fun K "put_missing" "put_missing" sMissing f fd) (T : Txt K mg C) (GWh : MtG P w K mg base C "where" ["self", "name"] 5 (spWhere C)) (GP : MtX P w K mg base C "put" ["self", "name"] 6 (spPutOr B C CF)) :
    FnOk P w K mg base (CX1 P w) 7 f fd ["yard", "layout"] (spMissing B C CF) := by
  refine F.okX scMissing (fun vs H Q E h => ?_) (fun cdv A outer s H vs Q E hr h => ?_)
  · obtain ⟨y, ca, a, m, rule, c, d, rfl, _⟩ := h
    rfl
  · obtain ⟨y, ca, a, m, rule, c, d, rfl, Y, hm, R, ha, nac, nd, hB, hcase⟩ := h
    have hr5 : Room 5 _ := hr.mono (by decide)
    have nf : ∀ {x : Str}, ¬ x = "cells" → ¬ x = "rule" → ¬ x = "many" → (flds m rule ca).lookup x = none := fun a b d => flds_no m rule ca a b d
    refine ⟨_, (pss_one (ps_for PassesOwn.leaving rfl (pi_list (pv 1)) (pg_name (i := 2) scMissing.nd rfl (Or.inl rfl)) (pss_one (ps_if (PW.pt (pw_and (pt_cmp (pc_notN (pv 2))) (pw_and1 (pt_cmp (pc_isN (pe_mt T.cl GWh hr5 (pv 0) (pa_cons (pv 2) pa_nil)))))))
          (pss_one (ps_expr (pe_mtX T.cl GP hr passX (pv 0) (pa_cons (pv 2) pa_nil)))) pss_nil)))), ?_⟩
    refine ⟨_, rfl, a, rfl, ⟨_, SqL.of ha⟩, for_list (K := K) (a := a) (xs := layV d) (fun i σ H' => ∃ (v : Option V), σ = [some (.ref y), some (.ref a), v] ∧ SameX ca H H' ∧ YardAt C H' y ca m rule (putOn m rule c (adds c (d.take i))) ∧
        Right m rule (putOn m rule c (adds c (d.take i))) ∧ (nm (putOn m rule c (adds c (d.take i)))).Perm (nm c ++ adds c (d.take i)))
      ⟨none, rfl, SameX.refl ca H, Y, R, by show (nm c).Perm (nm c ++ []); rw [List.append_nil]⟩ (fun i σ H' _ ⟨_, _, s2, _⟩ => SqL.of (s2 _ _ ha nac)) ?_ ?_⟩
    · rintro i x σ H' hi ⟨v, rfl, sx, Yi, Ri, Pi⟩
      have hil : i < d.length := by
        have := (List.getElem?_eq_some_iff.mp hi).1
        rw [layV_len] at this; exact this
      rw [layV_get hil] at hi
      have ex := Option.some.inj hi
      subst ex
      have eadd := adds_take (c := c) hil
      cases e : g d i with
      | none =>
        rw [e] at eadd
        refine ⟨_, rfl, _, rfl, iteF ?_⟩
        rw [show (Option.toList (none : Option Int)).filter (fun v => !decide (v ∈ nm c)) = [] from rfl, List.append_nil] at eadd
        exact ⟨_, rfl, sx, by rw [eadd]; exact Yi, by rw [eadd]; exact Ri, by rw [eadd]; exact Pi⟩
      | some n =>
        rw [e] at eadd
        obtain ⟨f0, hf, h0⟩ := Ri.fre
        obtain ⟨d1, o1⟩ := Yi.ob
        have hnew := nm_take_new nd e
        refine ⟨_, rfl, _, rfl, iteT ?_⟩
        refine ⟨_, rfl, y, d1, _, rfl, o1, nf (by decide +kernel) (by decide +kernel) (by decide +kernel), _, rfl, y, ca, m, rule, _, n, f0, rfl, Yi, hf, h0, fun H1 s1 => ?_⟩
        have Y1 := Yi.same s1
        by_cases hin : n ∈ nm c
        · have hin' : n ∈ nm (putOn m rule c (adds c (d.take i))) := Pi.mem_iff.mpr (List.mem_append_left _ hin)
          obtain ⟨p, hp⟩ := mem_nm.mp hin'
          rw [(whr_some hm Ri).mpr hp]
          rw [show (some n).toList.filter (fun v => !decide (v ∈ nm c)) = [] from by simp [hin], List.append_nil] at eadd
          refine ⟨_, rfl, iteF ?_⟩
          exact ⟨_, rfl, fun b o q nb => s1 b o (sx b o q nb), by rw [eadd]; exact Y1, by rw [eadd]; exact Ri, by rw [eadd]; exact Pi⟩
        · have hout : n ∉ nm (putOn m rule c (adds c (d.take i))) := fun z => by
            rcases List.mem_append.mp (Pi.mem_iff.mp z) with z | z
            · exact hin z
            · exact hnew (List.mem_filter.mp z).1
          rw [(whr_none hm Ri).mpr hout]
          rw [show (some n).toList.filter (fun v => !decide (v ∈ nm c)) = [n] from by simp [hin]] at eadd
          have hle := adds_le c d (i + 1)
          rw [eadd, List.length_append, List.length_singleton] at hle
          have hpl := Pi.length_eq
          rw [List.length_append] at hpl
          have hfn := free_nm (putOn m rule c (adds c (d.take i)))
          rw [Ri.len] at hfn
          have hfp := free_pos (c := putOn m rule c (adds c (d.take i))) (by rw [Ri.len]; exact hf) h0
          refine ⟨_, rfl, iteT ?_⟩
          obtain ⟨d2, o2⟩ := Y1.ob
          by_cases hroom : (nm (putOn m rule c (adds c (d.take i)))).length + 1 < m
          · obtain ⟨R4, P4⟩ := put_ok hm Ri hout hroom
            refine ⟨_, rfl, y, d2, _, rfl, o2, nf (by decide +kernel) (by decide +kernel) (by decide +kernel), _, rfl, y, ca, m, rule, _, n, rfl, Y1, hm, Ri, hout, by omega, .inl ⟨hroom, fun l H4 hl T4 Y4 s4 => ?_⟩⟩
            refine ⟨_, rfl, fun b o q nb => s4 b o (s1 b o (sx b o q nb)) nb, ?_, ?_, ?_⟩
            · rw [eadd, putOn_app, putOn_one]
              exact Y4
            · rw [eadd, putOn_app, putOn_one]
              exact R4
            · rw [eadd, putOn_app, putOn_one, ← List.append_assoc]
              exact P4.trans ((List.perm_append_singleton n _).symm.trans (Pi.append_right [n]))
          · refine ⟨_, rfl, y, d2, _, rfl, o2, nf (by decide +kernel) (by decide +kernel) (by decide +kernel), _, rfl, y, ca, m, rule, _, n, rfl, Y1, hm, Ri, hout, by omega, .inr ⟨by omega, fun H4 s4 => ?_⟩⟩
            rcases hcase with ⟨z, _⟩ | ⟨_, k⟩
            · omega
            · exact k H4 fun b o q nb => s4 b o (s1 b o (sx b o q nb))
    · rintro σ H' ⟨v, rfl, sx, Yi, Ri, Pi⟩
      rw [layV_len, List.take_of_length_le (Nat.le_refl _)] at Yi Ri Pi
      rcases hcase with ⟨_, k⟩ | ⟨z, _⟩
      · exact k H' sx Yi
      · have hpl := Pi.length_eq
        rw [List.length_append] at hpl
        obtain ⟨f0, hf, h0⟩ := Ri.fre
        have hfn := free_nm (putOn m rule c (adds c d))
        rw [Ri.len] at hfn
        have hfp := free_pos (c := putOn m rule c (adds c d)) (by rw [Ri.len]; exact hf) h0
        omega

theorem adds_empty (q : Nat) (c : Lay) : adds (List.replicate q none) c = nm c := by
  unfold adds
  rw [empty_nm]
  simp
theorem same_of {H H1 H2 : Hp} {a : Addr} (s : Same H H1) (h : H a = none) (x : SameX a H1 H2) : Same H H2 := fun b o e => x b o (s b o e) (ne_of_none e h)

theorem scMoved : FnScope ["yard", "many", "new"] ["yard", "many"] (defScope sMoved) := ⟨rfl, rfl, rfl, by decide +kernel, rfl, by decide +kernel, by decide +kernel⟩
theorem ok_moved {f C CN CF fI : Addr} {fd fdI : FuncData} {B : Nat} (F : Fun K "moved" "moved" sMoved f fd) (T : Txt K mg C) (M : Mk K C fI) (bI : Binds K fdI ["self", "many", "rule"] []) (mgY : mg "Yard" = some (.ref C))
    (GI : FnOk P w K mg base (CX1 P w) 2 fI fdI ["self", "many", "rule"] (fun vs H Q E => spInit C vs H Q E ∨ spInitX CN vs H Q E)) (GSt : MtG P w K mg base C "stalls" ["self"] 1 (spStalls C))
    (GMi : FnX P w K mg base "put_missing" ["yard", "layout"] 7 (spMissing B C CF)) : FnOk P w K mg base (CX1 P w) 8 f fd ["yard", "many"] (spMovedB B C CN CF) := by
  refine F.okX scMoved (fun vs H Q E h => ?_) (fun cdv A outer s H vs Q E hr h => ?_)
  · obtain ⟨y, ca, m, rule, c, z, rfl, _⟩ := h
    rfl
  · obtain ⟨y, ca, m, rule, c, z, rfl, Y, hm2, R, r0, r2, hB, hcase⟩ := h
    have hr1 : Room 1 _ := hr.mono (by decide)
    obtain ⟨dx, h1⟩ := Y.ob
    have nf : ∀ {x : Str}, ¬ x = "cells" → ¬ x = "rule" → ¬ x = "many" → (flds m rule ca).lookup x = none := fun a b d => flds_no m rule ca a b d
    refine ⟨_, (pss_cons (ps_set (i := 2) scMoved.nd rfl (Or.inl rfl) (pe_make M GI (hr.mono (by decide)) rfl mgY bI .nil passX (pa_cons (pv 1) (pa_cons (pe_fld (pv 0) rfl) pa_nil))))
      (pss_cons (ps_expr (pe_fnX GMi hr passX (pa_cons (pv 2) (pa_cons (pe_mt0 T.cl GSt hr1 (pv 0)) pa_nil))))
      (pss_one (ps_ret (pv 2))))), ?_⟩
    refine ⟨_, rfl, _, rfl, y, C, dx, _, _, rfl, h1, T.cl, T.nR, flds_rule _ _ _, fun y' dx' ny ndx nex => ?_⟩
    have s0 : Same H (upd (upd H dx' (.own y')) y' (.ins C dx' [])) := fun b o e => by
      rw [upd_ne (ne_of_none e ny), upd_ne (ne_of_none e ndx)]
      exact e
    by_cases hz : z < 2 ∨ 200 < z
    · refine .inr ⟨y', z, rule, rfl, hz, fun H' s' => ?_⟩
      rcases hcase with ⟨_, k⟩ | ⟨q, rfl, _, _, _⟩ | ⟨q, rfl, _, _, _⟩
      · exact k H' (s0.trans s')
      · omega
      · omega
    obtain ⟨q, rfl⟩ : ∃ q : Nat, z = (q : Int) := ⟨z.toNat, by omega⟩
    have hq2 : 2 ≤ q := by omega
    have hq : 0 < q := by omega
    refine .inl ⟨y', dx', q, rule, rfl, hq2, by omega, upd_same, fun ca' H1 hca Y1 kp1 => ⟨rfl, ?_⟩⟩
    have s1 : Same H H1 := fun b o e => kp1 b o (s0 b o e) (ne_of_none e ny)
    have hca0 : H ca' = none := s0.free hca
    have Yo := Y.same s1
    obtain ⟨d1, o1⟩ := Yo.ob
    refine ⟨_, rfl, _, rfl, y, d1, _, rfl, o1, nf (by decide +kernel) (by decide +kernel) (by decide +kernel), y, ca, m, rule, c, rfl, Yo, fun l hl => ?_⟩
    have s2 := same_upd (o := .lst (layV c)) hl
    have e0 := empty_nm q
    refine ⟨y', ca', l, q, rule, List.replicate q none, c, rfl, Y1.same s2, hq, empty_right hq rule, upd_same, ne_of_none Y1.ls hl |>.symm, nm_nodup R.inj, by rw [e0, adds_empty]; simpa using hB, ?_⟩
    rw [e0, adds_empty]
    rcases hcase with ⟨z, _⟩ | ⟨q', e, _, _, hle, k⟩ | ⟨q', e, _, _, hlt, k⟩
    · exact absurd z hz
    · have e' : q = q' := by omega
      subst e'
      exact .inr ⟨by simpa using hle, fun H' sx => k H' (same_of (s1.trans s2) hca0 sx)⟩
    · have e' : q = q' := by omega
      subst e'
      exact .inl ⟨by simpa using hlt, fun H' sx Y4 => ⟨_, rfl, k y' ca' H' ny hca0 (same_of (s1.trans s2) hca0 sx) Y4⟩⟩

def szS : List Int := [4, 8, 16, 32, 64, 128]
def szF (n : Nat) (l : List Int) : List Int := l.filter fun q => decide ((n : Int) * 4 ≤ q * 3)
theorem szF_min {n : Nat} (h : n ≤ 96) : ((szB n : Nat) : Int) ∈ szF n szS ∧ ∀ a ∈ szF n szS, ((szB n : Nat) : Int) ≤ a := by
  have key : ∀ k : Nat, k ≤ 96 → (((szB k : Nat) : Int) ∈ szF k szS ∧ ∀ a ∈ szF k szS, ((szB k : Nat) : Int) ≤ a) := by decide +kernel
  exact key n h
theorem scWanted : FnScope ["count"] ["count"] (defScope sWanted) := ⟨rfl, rfl, rfl, by decide +kernel, rfl, by decide +kernel, by decide +kernel⟩
theorem ok_wanted {f CB aS : Addr} {fd : FuncData} (F : Fun K "stalls_wanted" "stalls_wanted" sWanted f fd) (T : BTxt K mg CB aS) : FnOk P w K mg base CX0 1 f fd ["count"] spWanted := by
  refine F.ok scWanted (fun vs H Q E h => ?_) (fun cdv A outer s H vs Q E hr h => ?_)
  · obtain ⟨n, rfl, _⟩ := h
    rfl
  · obtain ⟨n, rfl, hn, k⟩ := h
    refine ⟨_, pss_one (ps_ret (pe_callB (call_minL (by rfl)) (by rfl) T.min PyProof.Rows.boot_min (pa_cons
      (pe_compG (CompOk.one (y := "count") (c := s.heap.objs.size + 1) (j := 0) (by rfl) (by decide +kernel) (by rfl) (by decide +kernel) (by rfl) (by rfl) (by rfl) (by rfl) (by exact .inr (.inl rfl)) (by rfl) (by rfl) (by decide +kernel)) (by rfl)
        (pi_tup (pe_glob (v := .ref aS) rfl T.szs rfl))
        (fun fp Cc s₀ H₀ => pf_one (pt_cmpR op_ge (pe_op op_mul (pv 0) pe_int) (pe_op op_mul (pv 1) pe_int) (nomark _)))
        (fun fp Cc s₀ H₀ => pv 0)) pa_nil))), ?_⟩
    refine ⟨aS, rfl, ⟨_, T.szt H⟩, fun D hD => ?_⟩
    refine ⟨fun i j H2 => i ≤ 6 ∧ j = 6 - i ∧ Same H H2 ∧ H2 D = some (.lst ((szF n (szS.take i)).map V.int)), ⟨6, by decide, rfl, same_upd hD, upd_same⟩, ?_⟩
    rintro i j H2 ⟨hi, rfl, s2, hD2⟩
    by_cases hlt : i < 6
    · have hg : (szS.map V.int)[i]? = some (.int (szS[i]'hlt)) := by rw [List.getElem?_map, List.getElem?_eq_getElem hlt]; rfl
      refine .inr ⟨⟨_, _, T.szt H2, hg⟩, fun H' => Same H H' ∧ H' D = some (.lst ((szF n (szS.take (i + 1))).map V.int)), fun H' h' => ⟨6 - (i + 1), by omega, hlt, rfl, h'.1, h'.2⟩, fun v H3 hv => ?_⟩
      obtain ⟨rfl, hv⟩ := hv
      have ev := hv _ (T.szt H3)
      rw [show ([4, 8, 16, 32, 64, 128] : List Int) = szS from rfl, hg] at ev
      cases ev
      intro fp Cc s₀ H₀
      have et : szF n (szS.take (i + 1)) = szF n (szS.take i) ++ (if (n : Int) * 4 ≤ (szS[i]'hlt) * 3 then [szS[i]'hlt] else []) := by
        unfold szF
        rw [List.take_add_one, List.getElem?_eq_getElem hlt, List.filter_append]
        congr 1
        show List.filter _ [szS[i]] = _
        rw [List.filter_cons, List.filter_nil]
        by_cases z : (n : Int) * 4 ≤ (szS[i]'hlt) * 3
        · rw [if_pos (by simpa using z), if_pos z]
        · rw [if_neg (by simpa using z), if_neg z]
      have hl6 : (szF n (szS.take i)).length ≤ 6 := Nat.le_trans (List.length_filter_le _ _) (Nat.le_trans (List.length_take_le' _ _) (by decide))
      have hszl : sizeLine ≥ 1000 := by decide
      refine ⟨_, rfl, _, _, rfl, rfl, .inr (by decide), _, rfl, _, _, rfl, rfl, .inr (by decide), _, _, rfl, rfl, _, rfl, iteD (fun z => ?_) (fun z => ?_)⟩
      · rw [if_pos z] at et
        refine ⟨_, rfl, _, hD2, by rw [List.length_map]; omega, fun b o e => ?_, ?_⟩
        · rw [upd_ne (ne_of_none e hD)]; exact s2 b o e
        · rw [upd_same, et, List.map_append]; rfl
      · rw [if_neg z, List.append_nil] at et
        exact ⟨s2, by rw [et]; exact hD2⟩
    · have e6 : i = 6 := by omega
      subst e6
      obtain ⟨m1, m2⟩ := szF_min hn
      exact .inl ⟨⟨_, T.szt H2, Nat.le_refl _⟩, D, _, _, rfl, SqL.of hD2, m1, m2, k H2 s2⟩
theorem scBHow : FnScope ["self"] ["self"] (defScope sBHow) := ⟨rfl, rfl, rfl, by decide +kernel, rfl, by decide +kernel, by decide +kernel⟩
theorem ok_bhow {f C CB aS : Addr} {fd : FuncData} (F : Fun K "how_many" "Book.how_many" sBHow f fd) (T : BTxt K mg CB aS) : FnOk P w K mg base CX0 1 f fd ["self"] (spBHow C CB) := by
  refine F.ok scBHow (fun vs H Q E h => ?_) (fun cdv A outer s H vs Q E hr h => ?_)
  · obtain ⟨b, y, d, dx, tb, rfl, _⟩ := h
    rfl
  · obtain ⟨b, y, d, dx, tb, rfl, hb, hd, k⟩ := h
    refine ⟨_, pss_one (ps_ret (pe_callB call_lenD (by rfl) T.len PySem.boot_len (pa_cons (pe_fld (pv 0) rfl) pa_nil))), ?_⟩
    refine ⟨_, rfl, b, CB, dx, _, _, rfl, hb, T.cl, T.nW, bf_worths _ _, d, _, rfl, hd, ?_⟩
    rw [kvs_len]
    exact k
theorem scBWorth : FnScope ["self", "name"] ["self", "name"] (defScope sBWorth) := ⟨rfl, rfl, rfl, by decide +kernel, rfl, by decide +kernel, by decide +kernel⟩
theorem ok_bworth {f C CB aS : Addr} {fd : FuncData} (F : Fun K "worth" "Book.worth" sBWorth f fd) (T : BTxt K mg CB aS) : FnOk P w K mg base CX0 1 f fd ["self", "name"] (spBWorth C CB) := by
  refine F.ok scBWorth (fun vs H Q E h => ?_) (fun cdv A outer s H vs Q E hr h => ?_)
  · obtain ⟨b, y, ca, d, rule, c, tb, n, rfl, _⟩ := h
    rfl
  · obtain ⟨b, y, ca, d, rule, c, tb, n, rfl, B, k⟩ := h
    obtain ⟨dx, hb⟩ := B.ob
    have hu := hu_of hr
    refine ⟨_, pss_one (ps_ret (pe_dget1 hu (pe_fld (pv 0) rfl) (pv 1) ⟨by rfl, by rfl, by rfl, by rfl⟩)), ?_⟩
    refine ⟨_, rfl, b, CB, dx, _, _, rfl, hb, T.cl, T.nW, bf_worths _ _, d, rfl, .inl ⟨_, .inl B.dc⟩, _, rfl, _, DGet.k (k := Sum.inl n) B.dc, ?_⟩
    rw [valV_kvs]
    exact k

theorem scBFit : FnScope ["self", "count", "many"] ["self", "count"] (defScope sBFit) := ⟨rfl, rfl, rfl, by decide +kernel, rfl, by decide +kernel, by decide +kernel⟩
theorem ok_bfit {f C CB CN CF aS : Addr} {fd : FuncData} (F : Fun K "fit" "Book.fit" sBFit f fd) (TY : Txt K mg C) (T : BTxt K mg CB aS) (GW : FnG P w K mg base "stalls_wanted" ["count"] 1 spWanted) (GMo : FnX P w K mg base "moved" ["yard", "many"] 8 (spMovedB 200 C CN CF)) :
    FnOk P w K mg base (CX1 P w) 9 f fd ["self", "count"] (spBFit C CB) := by
  refine F.okX scBFit (fun vs H Q E h => ?_) (fun cdv A outer s H vs Q E hr h => ?_)
  · obtain ⟨b, y, d, dx, ca, m, rule, c, n, rfl, _⟩ := h
    rfl
  · obtain ⟨b, y, d, dx, ca, m, rule, c, n, rfl, hb, Y, hm2, R, r0, r2, hn, hroom, k⟩ := h
    have hr1 : Room 1 _ := hr.mono (by decide)
    have h4 := szB_ge n
    have h128 := szB_le n
    refine ⟨_, (pss_cons (ps_set (i := 2) scBFit.nd rfl (Or.inl rfl) (pe_fn GW hr1 (pa_cons (pv 1) pa_nil)))
      (pss_one (ps_if (pt_cmpR op_ne (pv 2) (pe_fld (pe_fld (pv 0) rfl) rfl) (nomark _)) (pss_one (ps_fld (pv 0) (pe_fnX GMo hr passX (pa_cons (pe_fld (pv 0) rfl) (pa_cons (pv 2) pa_nil))) rfl)) pss_nil))), ?_⟩
    refine ⟨_, rfl, n, rfl, hn, fun H1 s1 => ?_⟩
    have Y1 := Y.same s1
    obtain ⟨dy, o1⟩ := Y1.ob
    have hb1 := s1 _ _ hb
    refine ⟨_, rfl, _, rfl, b, CB, dx, _, _, rfl, hb1, T.cl, T.nY, bf_yard _ _, y, C, dy, _, _, rfl, o1, TY.cl, TY.nM, flds_many _ _ _, rfl, _, rfl, iteNI (fun z => ?_) (fun z => ?_)⟩
    · have nz : ¬ szB n = m := fun e => z (by rw [e])
      refine ⟨_, rfl, b, CB, dx, _, _, rfl, hb1, T.cl, T.nY, bf_yard _ _, _, rfl, y, ca, m, rule, c, _, rfl, Y1, hm2, R, r0, r2, by omega, .inr (.inr ⟨szB n, rfl, by omega, by omega, hroom, fun y' ca' H2 ny nca s2 Y2 => ?_⟩)⟩
      have hb2 := s2 _ _ hb1
      have nyb : y' ≠ b := (ne_of_none hb1 ny).symm
      have ncb : ca' ≠ b := (ne_of_none hb1 nca).symm
      refine ⟨_, rfl, b, CB, dx, _, rfl, hb2, T.cl, T.nY, Nat.lt_of_le_of_lt (bf_len _ _) (by decide), ?_⟩
      rw [bf_put]
      refine k y' ca' _ (.inr ⟨s1.free ny, s1.free nca⟩) (fun a o e na => ?_) upd_same ?_
      · rw [upd_ne na]
        exact s2 a o (s1 a o e)
      · obtain ⟨d2, o2⟩ := Y2.ob
        unfold fitL
        rw [if_neg nz]
        exact ⟨⟨d2, by rw [upd_ne nyb]; exact o2⟩, by rw [upd_ne ncb]; exact Y2.ls, Y2.len, Y2.few⟩
    · have e : szB n = m := by omega
      refine k y ca H1 (.inl ⟨rfl, rfl⟩) (sx_of s1) hb1 ?_
      unfold fitL
      rw [e, if_pos rfl]
      exact Y1
theorem scBBring : FnScope ["self", "name"] ["self", "name"] (defScope sBBring) := ⟨rfl, rfl, rfl, by decide +kernel, rfl, by decide +kernel, by decide +kernel⟩
theorem ok_bbring {f C CB CF CE aS : Addr} {fd : FuncData} (F : Fun K "bring" "Book.bring" sBBring f fd) (TY : Txt K mg C) (T : BTxt K mg CB aS) (OF : ExcT K mg base "Full" CF CE) (GH : MtG P w K mg base CB "how_many" ["self"] 1 (spBHow C CB)) (GFi : MtX P w K mg base CB "fit" ["self", "count"] 9 (spBFit C CB))
    (GP : MtG P w K mg base C "put" ["self", "name"] 6 (spPutW C)) : FnOk P w K mg base (CX1 P w) 10 f fd ["self", "name"] (spBBring C CB CF) := by
  refine F.okX scBBring (fun vs H Q E h => ?_) (fun cdv A outer s H vs Q E hr h => ?_)
  · obtain ⟨b, y, ca, d, rule, c, tb, n, rfl, _⟩ := h
    rfl
  · obtain ⟨b, y, ca, d, rule, c, tb, n, rfl, B, hnew, hcase⟩ := h
    have hr1 : Room 1 _ := hr.mono (by decide)
    have hr6 : Room 6 _ := hr.mono (by decide)
    obtain ⟨dx, hb⟩ := B.ob
    obtain ⟨tM, hM⟩ := T.most
    obtain ⟨nbc, nbd, ncd, nyb, nyc, nyd⟩ := B.bca
    have nfb : ∀ {x : Str} (y d : Addr), ¬ x = "yard" → ¬ x = "worths" → (bflds y d).lookup x = none := fun y d a b => bf_no y d a b
    refine ⟨_, (pss_cons (ps_if (pt_cmpR op_ge (pe_mt0 T.cl GH hr1 (pv 0)) (pe_glob (v := .int 96) rfl hM ⟨_, rfl⟩) (nomark _)) (pss_one (ps_raise raisesX rfl rfl OF.own PySem.F.excBase_ValueError (pa_cons pe_str pa_nil))) pss_nil)
      (pss_cons (ps_expr (pe_mtX T.cl GFi hr passX (pv 0) (pa_cons (pe_op op_add (pe_mt0 T.cl GH hr1 (pv 0)) pe_int) pa_nil)))
      (pss_one (ps_expr (pe_mt TY.cl GP hr6 (pe_fld (pv 0) rfl) (pa_cons (pv 1) pa_nil)))))), ?_⟩
    refine ⟨_, rfl, b, dx, _, rfl, hb, nfb _ _ (by decide +kernel) (by decide +kernel), b, y, d, dx, tb, rfl, hb, B.dc, _, _, rfl, rfl, _, rfl, iteD (fun z => ?_) (fun z => ?_)⟩
    · rcases hcase with ⟨hl, _⟩ | ⟨_, k⟩
      · omega
      · exact ⟨(by show 1 ≤ 100; decide), k H (Same.refl H)⟩
    rcases hcase with ⟨hl, k⟩ | ⟨hl, _⟩
    rotate_left
    · omega
    have hnl := B.nml
    have hge := szB_ge tb.length
    have hrm := szB_room (n := tb.length + 1) (by omega)
    refine ⟨_, rfl, b, dx, _, rfl, hb, nfb _ _ (by decide +kernel) (by decide +kernel), _, rfl, b, dx, _, rfl, hb, nfb _ _ (by decide +kernel) (by decide +kernel), b, y, d, dx, tb, rfl, hb, B.dc, _, _, rfl, rfl, b, y, d, dx, ca, szB tb.length, rule, c, tb.length + 1, by simp, hb, B.yd, by omega, B.rt, B.r0, B.r2, by omega, by omega, fun y' ca' H1 hy s1 hb1 Y1 => ?_⟩
    obtain ⟨R1, P1⟩ := fit_ok (q := szB (tb.length + 1)) (by have := szB_ge (tb.length + 1); omega) B.rt (by omega)
    obtain ⟨d1, o1⟩ := Y1.ob
    have hl1 := P1.length_eq
    refine ⟨_, rfl, b, CB, dx, _, _, rfl, hb1, T.cl, T.nY, bf_yard _ _, y', d1, _, rfl, o1, flds_no _ _ _ (by decide +kernel) (by decide +kernel) (by decide +kernel), _, rfl, y', ca', _, rule, _, n, rfl, Y1, by omega, R1, fun z => hnew (B.pm.mem_iff.mp (P1.mem_iff.mp z)), ?_, fun l H2 hl2 T2 Y2 s2 => ?_⟩
    · have hx : (tb.length + 1) + 1 < szB (tb.length + 1) + 1 := by omega
      have : 4 * (tb.length + 1) ≤ 3 * szB (tb.length + 1) := szB_three (by omega)
      omega
    · have hbc : b ≠ ca' := by
        rcases hy with ⟨_, e⟩ | ⟨_, e⟩
        · rw [e]; exact nbc
        · exact (ne_of_none hb e)
      have hdc : d ≠ ca' := by
        rcases hy with ⟨_, e⟩ | ⟨_, e⟩
        · rw [e]; exact ncd.symm
        · exact (ne_of_none B.dc e)
      refine k y' ca' dx H2 hy ⟨fun a o e n1 n2 n3 => ?_, gr_of fun a o e => ?_⟩ (s2 _ _ hb1 hbc) (s2 _ _ (s1 _ _ B.dc nbd.symm) hdc) Y2
      · refine s2 a o (s1 a o e n1) ?_
        rcases hy with ⟨_, e'⟩ | ⟨_, e'⟩
        · rw [e']; exact n2
        · exact (ne_of_none e e')
      · by_cases z1 : a = b
        · subst z1; exact ⟨_, s2 _ _ hb1 hbc⟩
        · by_cases z2 : a = ca'
          · subst z2; exact ⟨_, Y2.ls⟩
          · exact ⟨_, s2 a o (s1 a o e z1) z2⟩

theorem scBWrite : FnScope ["self", "name", "worth", "there"] ["self", "name", "worth"] (defScope sBWrite) := ⟨rfl, rfl, rfl, by decide +kernel, rfl, by decide +kernel, by decide +kernel⟩
theorem putB_ok {C CB : Addr} {H : Hp} {b y ca d : Addr} {rule : Int} {c : Lay} {tb : Tb} {n : Int} (B : BookAt C CB H b y ca d rule c tb) (hnew : n ∉ ky tb) (hl : tb.length < 96) :
    Right (szB (tb.length + 1)) rule (putB rule c (szB tb.length) (tb.length + 1) n) ∧ (nm (putB rule c (szB tb.length) (tb.length + 1) n)).Perm (n :: ky tb) := by
  have h3 : 4 * (tb.length + 1) ≤ 3 * szB (tb.length + 1) := szB_three (by omega)
  have hnl := B.nml
  obtain ⟨R1, P1⟩ := fit_ok (q := szB (tb.length + 1)) (by omega) B.rt (by omega)
  have hl1 := P1.length_eq
  obtain ⟨R2, P2⟩ := put_ok (n := n) (by omega) R1 (fun z => hnew (B.pm.mem_iff.mp (P1.mem_iff.mp z))) (by omega)
  exact ⟨R2, P2.trans ((P1.trans B.pm).cons n)⟩
theorem ok_bwrite {f C CB CF aS : Addr} {fd : FuncData} (F : Fun K "write" "Book.write" sBWrite f fd) (T : BTxt K mg CB aS) (GB : MtX P w K mg base CB "bring" ["self", "name"] 10 (spBBring C CB CF)) : FnOk P w K mg base (CX1 P w) 11 f fd ["self", "name", "worth"] (spBWrite C CB CF) := by
  refine F.okX scBWrite (fun vs H Q E h => ?_) (fun cdv A outer s H vs Q E hr h => ?_)
  · obtain ⟨b, y, ca, d, rule, c, tb, n, x, rfl, _⟩ := h
    rfl
  · obtain ⟨b, y, ca, d, rule, c, tb, n, x, rfl, B, hcase⟩ := h
    have hu := hu_of hr
    obtain ⟨dx, hb⟩ := B.ob
    obtain ⟨nbc, nbd, ncd, nyb, nyc, nyd⟩ := B.bca
    have hszl : sizeLine ≥ 1000 := by decide
    refine ⟨_, (pss_cons (ps_set (i := 3) scBWrite.nd rfl (Or.inl rfl) (pe_cmp (pc_din hu (pv 1) (pe_fld (pv 0) rfl))))
      (pss_cons (ps_if (pt_not (pt_val (pv 3))) (pss_one (ps_expr (pe_mtX T.cl GB hr passX (pv 0) (pa_cons (pv 1) pa_nil)))) pss_nil)
      (pss_cons (ps_dput hu (pe_fld (pv 0) rfl) (pv 1) (pv 2) rfl)
      (pss_one (ps_ret (pv 3)))))), ?_⟩
    refine ⟨_, rfl, _, rfl, b, CB, dx, _, _, rfl, hb, T.cl, T.nW, bf_worths _ _, d, _, rfl, DGet.k (k := Sum.inl n) B.dc, ?_⟩
    rw [isSome_valT]
    refine ⟨_, rfl, _, rfl, iteND (fun z => ?_) (fun z => ?_)⟩
    · rw [decide_eq_false z]
      rcases hcase with ⟨h, _⟩ | ⟨_, hl, k⟩ | ⟨_, hl, k⟩
      · exact absurd h z
      · refine ⟨_, rfl, b, dx, _, rfl, hb, bf_no _ _ (by decide +kernel) (by decide +kernel), _, rfl, b, y, ca, d, rule, c, tb, n, rfl, B, z, .inl ⟨hl, fun y' ca' dx' H1 hy s1 hb1 hd1 Y1 => ?_⟩⟩
        refine ⟨_, rfl, _, rfl, b, CB, dx', _, _, rfl, hb1, T.cl, T.nW, bf_worths _ _, _, rfl, d, _, rfl, DPut.k (k := Sum.inl n) hd1 (by rw [kvs_len]; omega), _, rfl, ?_⟩
        obtain ⟨R2, P2⟩ := putB_ok B z hl
        obtain ⟨d1, o1⟩ := Y1.ob
        have el := len_put_new x z
        have ek := ky_put_new x z
        have hnd : y' ≠ d := by
          rcases hy with ⟨e, _⟩ | ⟨e, _⟩
          · rw [e]; exact nyd
          · exact (ne_of_none B.dc e).symm
        have hcd : ca' ≠ d := by
          rcases hy with ⟨_, e⟩ | ⟨_, e⟩
          · rw [e]; exact ncd
          · exact (ne_of_none B.dc e).symm
        refine k y' ca' _ hy ⟨fun a o e n1 n2 n3 => by rw [upd_ne n3]; exact s1.kp a o e n1 n2 n3, fun a e => s1.gr a (upd_gr e)⟩ ⟨⟨dx', by rw [upd_ne nbd]; exact hb1⟩, ?_, by rw [upd_same, kvs_put], ?_, ?_, ?_, by rw [el]; omega, B.r0, B.r2⟩
        · rw [el]
          exact ⟨⟨d1, by rw [upd_ne hnd]; exact o1⟩, by rw [upd_ne hcd]; exact Y1.ls, Y1.len, Y1.few⟩
        · rw [el]; exact R2
        · rw [ek]; exact P2.trans (List.perm_append_singleton n _).symm
        · rw [ek]; exact (List.perm_append_singleton n _).nodup_iff.mpr (List.nodup_cons.mpr ⟨z, B.nd⟩)
      · exact ⟨_, rfl, b, dx, _, rfl, hb, bf_no _ _ (by decide +kernel) (by decide +kernel), _, rfl, b, y, ca, d, rule, c, tb, n, rfl, B, z, .inr ⟨hl, k⟩⟩
    · rw [decide_eq_true z]
      rcases hcase with ⟨_, k⟩ | ⟨h, _⟩ | ⟨h, _⟩
      · refine ⟨_, rfl, _, rfl, b, CB, dx, _, _, rfl, hb, T.cl, T.nW, bf_worths _ _, _, rfl, d, _, rfl, DPut.k (k := Sum.inl n) B.dc (by rw [kvs_len]; have := B.le; omega), _, rfl, ?_⟩
        obtain ⟨dy, o1⟩ := B.yd.ob
        have el := len_put_in x z
        have ek := ky_put_in x z
        refine k _ samex_upd ⟨⟨dx, by rw [upd_ne nbd]; exact hb⟩, ?_, by rw [upd_same, kvs_put], ?_, ?_, ?_, by rw [el]; exact B.le, B.r0, B.r2⟩
        · rw [el]
          exact ⟨⟨dy, by rw [upd_ne nyd]; exact o1⟩, by rw [upd_ne ncd]; exact B.yd.ls, B.yd.len, B.yd.few⟩
        · rw [el]; exact B.rt
        · rw [ek]; exact B.pm
        · rw [ek]; exact B.nd
      · exact absurd z h
      · exact absurd z h
theorem scBDrop : FnScope ["self", "name", "gone"] ["self", "name"] (defScope sBDrop) := ⟨rfl, rfl, rfl, by decide +kernel, rfl, by decide +kernel, by decide +kernel⟩
theorem ok_bdrop {f C CB CN CE aS : Addr} {fd : FuncData} (F : Fun K "drop" "Book.drop" sBDrop f fd) (TY : Txt K mg C) (T : BTxt K mg CB aS) (ON : ExcT K mg base "NoCart" CN CE) (GH : MtG P w K mg base CB "how_many" ["self"] 1 (spBHow C CB)) (GFi : MtX P w K mg base CB "fit" ["self", "count"] 9 (spBFit C CB))
    (GT : MtG P w K mg base C "take" ["self", "name"] 6 (spTake C)) : FnOk P w K mg base (CX1 P w) 10 f fd ["self", "name"] (spBDrop C CB CN) := by
  refine F.okX scBDrop (fun vs H Q E h => ?_) (fun cdv A outer s H vs Q E hr h => ?_)
  · obtain ⟨b, y, ca, d, rule, c, tb, n, rfl, _⟩ := h
    rfl
  · obtain ⟨b, y, ca, d, rule, c, tb, n, rfl, B, hcase⟩ := h
    have hu := hu_of hr
    have hr1 : Room 1 _ := hr.mono (by decide)
    have hr6 : Room 6 _ := hr.mono (by decide)
    obtain ⟨dx, hb⟩ := B.ob
    obtain ⟨nbc, nbd, ncd, nyb, nyc, nyd⟩ := B.bca
    refine ⟨_, (pss_cons (ps_if (pt_cmp (pc_dnotin hu (pv 1) (pe_fld (pv 0) rfl))) (pss_one (ps_raise raisesX rfl rfl ON.own PySem.F.excBase_ValueError (pa_cons pe_str pa_nil))) pss_nil)
      (pss_cons (ps_set (i := 2) scBDrop.nd rfl (Or.inl rfl) (pe_dpop1 (pe_fld (pv 0) rfl) (pv 1) ⟨by rfl, by rfl, by rfl, by rfl⟩))
      (pss_cons (ps_expr (pe_mt TY.cl GT hr6 (pe_fld (pv 0) rfl) (pa_cons (pv 1) pa_nil)))
      (pss_cons (ps_expr (pe_mtX T.cl GFi hr passX (pv 0) (pa_cons (pe_mt0 T.cl GH hr1 (pv 0)) pa_nil)))
      (pss_one (ps_ret (pv 2))))))), ?_⟩
    refine ⟨_, rfl, _, rfl, b, CB, dx, _, _, rfl, hb, T.cl, T.nW, bf_worths _ _, d, _, rfl, DGet.k (k := Sum.inl n) B.dc, ?_⟩
    rw [isSome_valT]
    refine ⟨_, rfl, iteND (fun z => ?_) (fun z => ?_)⟩
    · rcases hcase with ⟨x, p, e, _⟩ | ⟨_, k⟩
      · exact absurd (valT_mem e) z
      · exact ⟨(by show 1 ≤ 100; decide), k H (Same.refl H)⟩
    rcases hcase with ⟨x, p, ev, hp, k⟩ | ⟨h, _⟩
    rotate_left
    · exact absurd z h
    refine ⟨_, rfl, b, CB, dx, _, _, rfl, hb, T.cl, T.nW, bf_worths _ _, d, rfl, .inl ⟨_, .inl B.dc⟩, _, rfl, _, Sum.inl n, .int x, B.dc, rfl, by rw [valV_kvs, ev]; rfl, ?_⟩
    have hb1 : upd H d (.dK (dropK (kvs tb) (Sum.inl n))) b = some (.ins CB dx (bflds y d)) := by rw [upd_ne nbd]; exact hb
    have Y1 : YardAt C (upd H d (.dK (dropK (kvs tb) (Sum.inl n)))) y ca (szB tb.length) rule c := by
      obtain ⟨dy, o1⟩ := B.yd.ob
      exact ⟨⟨dy, by rw [upd_ne nyd]; exact o1⟩, by rw [upd_ne ncd]; exact B.yd.ls, B.yd.len, B.yd.few⟩
    obtain ⟨d1, o1⟩ := Y1.ob
    have h4 := szB_ge tb.length
    have h128 := szB_le tb.length
    have hnl := B.nml
    obtain ⟨R2, P2⟩ := taken_ok (by omega) B.rt hp
    have hl2 := P2.length_eq
    rw [List.length_cons] at hl2
    have hdl := len_drop B.nd z
    refine ⟨_, rfl, b, CB, dx, _, _, rfl, hb1, T.cl, T.nY, bf_yard _ _, y, d1, _, rfl, o1, flds_no _ _ _ (by decide +kernel) (by decide +kernel) (by decide +kernel), _, rfl, y, ca, _, rule, c, n, p, rfl, Y1, by omega, by omega, B.rt, hp, fun l H2 hl T2 Y2 s2 => ?_⟩
    have hb2 := s2 _ _ hb1 nbc
    have hd2 : H2 d = some (.dK (kvs (dropT tb n))) := s2 _ _ (by rw [upd_same, kvs_drop]) ncd.symm
    have hrm := szB_room (n := (dropT tb n).length) (by have := B.le; omega)
    have hle := B.le
    refine ⟨_, rfl, b, dx, _, rfl, hb2, bf_no _ _ (by decide +kernel) (by decide +kernel), _, rfl, b, dx, _, rfl, hb2, bf_no _ _ (by decide +kernel) (by decide +kernel), b, y, d, dx, _, rfl, hb2, hd2, b, y, d, dx, ca, szB tb.length, rule, _, (dropT tb n).length, rfl, hb2, Y2, by omega, R2, B.r0, B.r2, by omega, by omega, fun y' ca' H3 hy s3 hb3 Y3 => ?_⟩
    have hy0 : y' = y ∧ ca' = ca ∨ H y' = none ∧ H ca' = none := by
      rcases hy with h | ⟨h1, h2⟩
      · exact .inl h
      · refine .inr ⟨?_, ?_⟩
        · cases q : H y' with
          | none => rfl
          | some o =>
            by_cases zd : y' = d
            · rw [zd, hd2] at h1; cases h1
            · by_cases zc : y' = ca
              · rw [zc, Y2.ls] at h1; cases h1
              · rw [s2 y' o (by rw [upd_ne zd]; exact q) zc] at h1; cases h1
        · cases q : H ca' with
          | none => rfl
          | some o =>
            by_cases zd : ca' = d
            · rw [zd, hd2] at h2; cases h2
            · by_cases zc : ca' = ca
              · rw [zc, Y2.ls] at h2; cases h2
              · rw [s2 ca' o (by rw [upd_ne zd]; exact q) zc] at h2; cases h2
    obtain ⟨R3, P3⟩ := fit_ok (q := szB (dropT tb n).length) (by have := szB_ge (dropT tb n).length; omega) R2 (by omega)
    have ed : tb.length - 1 = (dropT tb n).length := by omega
    refine ⟨_, rfl, k y' ca' H3 hy0 ⟨fun a o e n1 n2 n3 => ?_, gr_of fun a o e => ?_⟩ ⟨⟨dx, hb3⟩, ?_, s3 _ _ hd2 nbd.symm, ?_, ?_, ?_, by omega, B.r0, B.r2⟩⟩
    · exact s3 a o (s2 a o (by rw [upd_ne n3]; exact e) n2) n1
    · by_cases z1 : a = b
      · subst z1; exact ⟨_, hb3⟩
      · by_cases z2 : a = d
        · subst z2; exact ⟨_, s3 _ _ hd2 z1⟩
        · by_cases z3 : a = ca
          · subst z3; exact ⟨_, s3 _ _ Y2.ls z1⟩
          · exact ⟨_, s3 a o (s2 a o (by rw [upd_ne z2]; exact e) z3) z1⟩
    · unfold dropB
      rw [ed]
      exact Y3
    · unfold dropB
      rw [ed]
      exact R3
    · unfold dropB
      rw [ed]
      refine P3.trans ?_
      have := P2.trans (B.pm.trans (perm_drop B.nd z).symm)
      exact List.perm_cons n |>.mp this
    · rw [ky_drop]; exact B.nd.filter _

theorem scBLayout : FnScope ["self"] ["self"] (defScope sBLayout) := ⟨rfl, rfl, rfl, by decide +kernel, rfl, by decide +kernel, by decide +kernel⟩
theorem ok_blayout {f C CB aS : Addr} {fd : FuncData} (F : Fun K "layout" "Book.layout" sBLayout f fd) (TY : Txt K mg C) (T : BTxt K mg CB aS) (GSt : MtG P w K mg base C "stalls" ["self"] 1 (spStalls C)) : FnOk P w K mg base CX0 2 f fd ["self"] (spBLayout C CB) := by
  refine F.ok scBLayout (fun vs H Q E h => ?_) (fun cdv A outer s H vs Q E hr h => ?_)
  · obtain ⟨b, y, ca, d, rule, c, tb, rfl, _⟩ := h
    rfl
  · obtain ⟨b, y, ca, d, rule, c, tb, rfl, B, k⟩ := h
    have hu := hu_of hr
    have hr1 : Room 1 _ := hr.mono (by decide)
    obtain ⟨dx, hb⟩ := B.ob
    obtain ⟨dy, o1⟩ := B.yd.ob
    have hszl : sizeLine ≥ 1000 := by decide
    have h128 := szB_le tb.length
    have hcl := B.yd.len
    refine ⟨_, pss_one (ps_ret (pe_compG (CompOk.one (y := "self") (c := s.heap.objs.size + 1) (j := 0) (by rfl) (by decide +kernel) (by rfl) (by decide +kernel) (by rfl) (by rfl) (by rfl) (by rfl) (by exact .inr (.inl rfl)) (by rfl) (by rfl) (by decide +kernel)) (by rfl)
        (pi_list (pe_mt0 TY.cl GSt hr1 (pe_fld (pv 0) rfl))) (fun fp Cc s₀ H₀ => pf_nil)
        (fun fp Cc s₀ H₀ => pe_ifExp (pt_cmp (pc_isN (pv 0))) pe_non (pe_tup (pa_cons (pv 0) (pa_cons (pe_dget hu (pe_fld (pv 1) (by rfl)) (pv 0) (fun _ _ => rfl)) pa_nil)))))), ?_⟩
    refine ⟨_, rfl, b, CB, dx, _, _, rfl, hb, T.cl, T.nY, bf_yard _ _, y, dy, _, rfl, o1, flds_no _ _ _ (by decide +kernel) (by decide +kernel) (by decide +kernel), y, ca, _, rule, c, rfl, B.yd, fun l hl => ?_⟩
    refine ⟨l, rfl, ⟨_, SqL.of upd_same⟩, fun D hD => ?_⟩
    have nDl : D ≠ l := fun z => by subst z; rw [upd_same] at hD; cases hD
    have hD0 : H D = none := by rw [upd_ne nDl] at hD; exact hD
    refine ⟨fun i j H2 => i ≤ c.length ∧ j = c.length - i ∧ Same H H2 ∧ H2 l = some (.lst (layV c)) ∧ ∃ xs : List V, H2 D = some (.lst xs) ∧ xs.length = i ∧ ∀ p, p < i → (g c p = none → xs[p]? = some .non) ∧ ∀ n, g c p = some n → ∃ (t : Addr) (x : Int), xs[p]? = some (.ref t) ∧ H2 t = some (.tup [.int n, .int x]) ∧ valT tb n = some x,
      ⟨c.length, Nat.zero_le _, rfl, fun a o e => by rw [upd_ne (ne_of_none e hD0), upd_ne (ne_of_none e hl)]; exact e, by rw [upd_ne nDl.symm, upd_same], [], upd_same, rfl, fun p hp => absurd hp (Nat.not_lt_zero _)⟩, ?_⟩
    rintro i j H2 ⟨hi, rfl, s2, hl2, xs, hD2, hxl, hxs⟩
    by_cases hlt : i < c.length
    · refine .inr ⟨⟨_, _, SqL.of hl2, layV_get hlt⟩, fun H' => Same H H' ∧ H' l = some (.lst (layV c)) ∧ ∃ xs : List V, H' D = some (.lst xs) ∧ xs.length = i + 1 ∧ ∀ p, p < i + 1 → (g c p = none → xs[p]? = some .non) ∧ ∀ n, g c p = some n → ∃ (t : Addr) (x : Int), xs[p]? = some (.ref t) ∧ H' t = some (.tup [.int n, .int x]) ∧ valT tb n = some x,
        fun H' h' => ⟨c.length - (i + 1), by omega, hlt, rfl, h'.1, h'.2.1, h'.2.2⟩, fun v H3 hv => ?_⟩
      obtain ⟨rfl, hv⟩ := hv
      have ev := hv _ (SqL.of hl2)
      rw [layV_get hlt] at ev
      cases ev
      intro fp Cc s₀ H₀
      have old : ∀ (y : V) (p : Nat), p < i → (xs ++ [y])[p]? = xs[p]? := fun y p hp => List.getElem?_append_left (by omega)
      have new : ∀ y : V, (xs ++ [y])[i]? = some y := fun y => by rw [List.getElem?_append_right (by omega), hxl, Nat.sub_self]; rfl
      cases e : g c i with
      | none =>
        refine tAll_ok ⟨_, rfl, _, rfl, iteT ⟨_, hD2, by omega, fun a o q => ?_, ?_, _, upd_same, by rw [List.length_append, hxl]; rfl, fun p hp => ?_⟩⟩
        · rw [upd_ne (ne_of_none q hD0)]; exact s2 a o q
        · rw [upd_ne nDl.symm]; exact hl2
        · rcases Nat.lt_succ_iff_lt_or_eq.mp hp with hp | hp
          · rw [old _ p hp]
            refine ⟨(hxs p hp).1, fun n hn => ?_⟩
            obtain ⟨t, x, q1, q2, q3⟩ := (hxs p hp).2 n hn
            exact ⟨t, x, q1, by rw [upd_ne (ne_of q2 hD2 (by intro z; cases z))]; exact q2, q3⟩
          · subst hp
            refine ⟨fun _ => new _, fun n hn => ?_⟩
            rw [e] at hn; cases hn
      | some n =>
        have hn : n ∈ ky tb := B.pm.mem_iff.mp (mem_nm.mpr ⟨i, e⟩)
        obtain ⟨x, ex⟩ := valT_some hn
        have B2 := B.same s2
        obtain ⟨dx2, hb2⟩ := B2.ob
        refine tAll_ok ⟨_, rfl, _, rfl, iteF ⟨_, rfl, _, rfl, b, CB, dx2, _, _, rfl, hb2, T.cl, T.nW, bf_worths _ _, _, rfl, d, .int x, rfl, ?_, (by show 2 ≤ sizeLine; decide), fun t ht => ?_⟩⟩
        · have := DGet.k (k := Sum.inl n) B2.dc
          rw [valV_kvs, ex] at this
          exact this
        · have ntD : t ≠ D := (ne_of_none hD2 ht).symm
          have ntl : t ≠ l := (ne_of_none hl2 ht).symm
          refine ⟨xs, by rw [upd_ne ntD.symm]; exact hD2, by omega, fun a o q => ?_, ?_, _, upd_same, by rw [List.length_append, hxl]; rfl, fun p hp => ?_⟩
          · rw [upd_ne (ne_of_none q hD0), upd_ne (ne_of_none (s2 a o q) ht)]; exact s2 a o q
          · rw [upd_ne nDl.symm, upd_ne ntl.symm]; exact hl2
          · rcases Nat.lt_succ_iff_lt_or_eq.mp hp with hp | hp
            · rw [old _ p hp]
              refine ⟨(hxs p hp).1, fun n hn => ?_⟩
              obtain ⟨t', x', q1, q2, q3⟩ := (hxs p hp).2 n hn
              exact ⟨t', x', q1, by rw [upd_ne (ne_of q2 hD2 (by intro z; cases z)), upd_ne (ne_of_none q2 ht)]; exact q2, q3⟩
            · subst hp
              refine ⟨(fun z => by rw [e] at z; cases z), fun n' hn' => ?_⟩
              rw [e] at hn'; cases hn'
              exact ⟨t, x, new _, by rw [upd_ne ntD, upd_same]; rfl, ex⟩
    · have e6 : i = c.length := by omega
      subst e6
      exact .inl ⟨⟨_, SqL.of hl2, by rw [layV_len]; exact Nat.le_refl _⟩, k D xs H2 hD0 s2 hD2 ⟨hxl, hxs⟩⟩
theorem scBInit : FnScope ["self", "rule"] ["self", "rule"] (defScope sBInit) := ⟨rfl, rfl, rfl, by decide +kernel, rfl, by decide +kernel, by decide +kernel⟩
theorem ok_binit {f C CB fI aS : Addr} {fd fdI : FuncData} (F : Fun K "__init__" "Book.__init__" sBInit f fd) (T : BTxt K mg CB aS) (M : Mk K C fI) (bI : Binds K fdI ["self", "many", "rule"] []) (mgY : mg "Yard" = some (.ref C))
    (GI : FnOk P w K mg base CX0 2 fI fdI ["self", "many", "rule"] (spInit C)) (GW : FnG P w K mg base "stalls_wanted" ["count"] 1 spWanted) : FnOk P w K mg base CX0 4 f fd ["self", "rule"] (spBInit C CB) := by
  refine F.ok scBInit (fun vs H Q E h => ?_) (fun cdv A outer s H vs Q E hr h => ?_)
  · obtain ⟨b, dx, rule, rfl, _⟩ := h
    rfl
  · obtain ⟨b, dx, rule, rfl, r0, r2, hb, k⟩ := h
    have hr1 : Room 1 _ := hr.mono (by decide)
    refine ⟨_, (pss_cons (ps_fld (pv 0) (pe_make M GI hr rfl mgY bI .nil pass0 (pa_cons (pe_fn GW hr1 (pa_cons pe_int pa_nil)) (pa_cons (pv 1) pa_nil))) rfl)
      (pss_one (ps_fld (pv 0) pe_dnewK rfl))), ?_⟩
    refine ⟨0, rfl, by decide, fun H1 s1 => ⟨_, rfl, fun y dy ny ndy ney => ?_⟩⟩
    have hb1 := s1 _ _ hb
    refine ⟨y, dy, 4, rule, rfl, by decide, by decide, upd_same, fun ca H2 hca Y2 kp => ⟨rfl, ?_⟩⟩
    have nby : b ≠ y := ne_of_none hb1 ny
    have hb2 : H2 b = some (.ins CB dx []) := kp _ _ (by rw [upd_ne nby, upd_ne (ne_of_none hb1 ndy)]; exact hb1) nby
    obtain ⟨d2, o2⟩ := Y2.ob
    have hca1 : H1 ca = none := by
      cases q : H1 ca with
      | none => rfl
      | some o =>
        by_cases z1 : ca = y
        · rw [z1, ny] at q; cases q
        · by_cases z2 : ca = dy
          · rw [z2, ndy] at q; cases q
          · rw [upd_ne z1, upd_ne z2, q] at hca; cases hca
    have s2 : ∀ a o, H a = some o → H2 a = some o := fun a o e => kp a o (by rw [upd_ne (ne_of_none (s1 a o e) ny), upd_ne (ne_of_none (s1 a o e) ndy)]; exact s1 a o e) (ne_of_none (s1 a o e) ny)
    have nbc : b ≠ ca := ne_of hb2 Y2.ls (by intro z; cases z)
    refine ⟨_, rfl, b, CB, dx, _, rfl, hb2, T.cl, T.nY, (by show 0 < 1000; decide), ?_⟩
    refine fun d hd => ⟨_, rfl, b, CB, dx, putF "yard" (.ref y) [], rfl, ?_, T.cl, T.nW, ?_, ?_⟩
    · rw [upd_ne (fun z => by subst z; rw [upd_same] at hd; cases hd), upd_same]
    · have := length_putF "yard" (V.ref y) []
      simp only [List.length_nil] at this
      omega
    have ndb : d ≠ b := fun z => by subst z; rw [upd_same] at hd; cases hd
    rw [upd_ne ndb] at hd
    have nyd : y ≠ d := ne_of_none o2 hd
    have ncd : ca ≠ d := ne_of_none Y2.ls hd
    have hd0 : H d = none := by
      cases q : H d with
      | none => rfl
      | some o => rw [s2 d o q] at hd; cases hd
    refine k y ca d _ (s1.free ny) (s1.free hca1) hd0 ⟨⟨dx, upd_same⟩, ⟨⟨d2, ?_⟩, ?_, Y2.len, Y2.few⟩, ?_, empty_right (by decide) rule, ?_, List.nodup_nil, Nat.zero_le _, r0, r2⟩ fun a o e na => ?_
    · rw [upd_ne nby.symm, upd_ne nyd, upd_ne nby.symm]; exact o2
    · rw [upd_ne nbc.symm, upd_ne ncd, upd_ne nbc.symm]; exact Y2.ls
    · rw [upd_ne ndb, upd_same]; rfl
    · rw [empty_nm]; exact List.Perm.refl _
    · rw [upd_ne na, upd_ne (fun z => by subst z; rw [hd0] at e; cases e), upd_ne na]
      exact s2 a o e

theorem scCell : FnScope ["script", "k"] ["script", "k"] (defScope sCell) := ⟨rfl, rfl, rfl, by decide +kernel, rfl, by decide +kernel, by decide +kernel⟩
theorem ok_cell {f : Addr} {fd : FuncData} (F : Fun K "_law_cell" "_law_cell" sCell f fd) (L : LTxt K mg) : FnOk P w K mg base CX0 1 f fd ["script", "k"] (spCell K) := by
  refine F.ok scCell (fun vs H Q E h => ?_) (fun cdv A outer s H vs Q E hr h => ?_)
  · obtain ⟨a, ns, k, rfl, _⟩ := h
    rfl
  · obtain ⟨a, ns, i, rfl, hS, k⟩ := h
    refine ⟨_, pss_cons (ps_if (pt_cmpR op_lt (pv 1) (pe_callB call_len_seq (by rfl) L.len PySem.boot_len (pa_cons (pv 0) pa_nil)) (nomark _)) (pss_one (ps_ret (pe_ix ix_list (pv 0) (pv 1) (fun _ _ => rfl)))) pss_nil) (pss_one (ps_ret pe_int)), ?_⟩
    refine ⟨_, rfl, _, rfl, a, _, rfl, .inl hS, _, _, rfl, rfl, _, rfl, iteD (fun z => ?_) (fun z => ?_)⟩
    · rw [List.length_map] at z
      have hi : i < ns.length := by omega
      have e : (ns.map V.int)[i]? = some (.int (ns.getD i 0)) := by
        rw [List.getElem?_map, List.getD_eq_getElem?_getD, List.getElem?_eq_getElem hi]; rfl
      exact ⟨_, rfl, _, rfl, a, _, _, _, rfl, rfl, hS, atI_nat e, k⟩
    · rw [List.length_map] at z
      have e : ns.getD i 0 = 0 := by
        rw [List.getD_eq_getElem?_getD, List.getElem?_eq_none (by omega)]; rfl
      rw [e] at k
      exact k

theorem scMixed : FnScope ["cell", "row", "left", "mixed"] ["cell", "row"] (defScope sMixed) := ⟨rfl, rfl, rfl, by decide +kernel, rfl, by decide +kernel, by decide +kernel⟩
theorem ok_mixed {f : Addr} {fd : FuncData} (F : Fun K "_law_mixed" "_law_mixed" sMixed f fd) (L : LTxt K mg) : FnOk P w K mg base CX0 1 f fd ["cell", "row"] (spMixed K) := by
  refine F.ok scMixed (fun vs H Q E h => ?_) (fun cdv A outer s H vs Q E hr h => ?_)
  · obtain ⟨z, a, ns, rfl, _⟩ := h
    rfl
  · obtain ⟨z, a, ns, rfl, hS, hlen, k⟩ := h
    have hu := hu_of hr
    refine ⟨_, pss_cons (ps_set (i := 2) scMixed.nd rfl (Or.inl rfl) (pe_callTy call_list_of (by rfl) L.list PyProof.Rows.boot_list (pa_cons (pv 1) pa_nil)))
      (pss_cons (ps_set (i := 3) scMixed.nd rfl (Or.inl rfl) (pe_lst pa_nil))
      (pss_cons (ps_while PassesOwn.never (pt_cmpR (op_neL (Nat.lt_of_succ_lt hu)) (pv 2) (pe_lst pa_nil) (nomark _))
        (pss_cons (ps_set (i := 0) scMixed.nd rfl (Or.inl rfl) (pe_op op_mod (pe_op op_add (pe_op op_mul (pv 0) pe_int) pe_int) pe_int))
        (pss_one (ps_expr (pe_bm PySem.F.plainAttrs_list PySem.F.slot_list_append PySem.F.type_list_append mt_append (pv 3) (pa_cons
          (pe_bm PySem.F.plainAttrs_list PySem.F.slot_list_pop PySem.F.type_list_pop mt_popAt (pv 2) (pa_cons (pe_op op_mod (pv 0) (pe_callB call_len_seq (by rfl) L.len PySem.boot_len (pa_cons (pv 2) pa_nil))) pa_nil)) pa_nil))))))
      (pss_one (ps_ret (pv 3))))), ?_⟩
    refine ⟨_, rfl, a, _, rfl, .inl hS, fun ll hll => ?_⟩
    refine ⟨(by show 0 ≤ sizeLine; decide), fun lm hlm => ?_⟩
    have nml : lm ≠ ll := fun q => by subst q; rw [upd_same] at hlm; cases hlm
    have hlm0 : H lm = none := by rw [upd_ne nml] at hlm; exact hlm
    have hszl : sizeLine ≥ 1000 := by decide
    refine ⟨fun j σ H' => ∃ (z : Int) (left mixed : List Int), σ = [some (.int z), some (.ref a), some (.ref ll), some (.ref lm)] ∧ Same H H' ∧ H' ll = some (.lst (left.map V.int)) ∧ H' lm = some (.lst (mixed.map V.int)) ∧ (mixed ++ left).Perm ns ∧ j = left.length,
      ⟨ns.length, z, ns, [], rfl, (same_upd hll).trans (same_upd hlm), by rw [upd_ne nml.symm, upd_same], upd_same, List.Perm.refl _, rfl⟩, ?_⟩
    rintro j σ H' ⟨z, left, mixed, rfl, s2, h1, h2, hp, rfl⟩
    refine ⟨_, rfl, (by show 0 ≤ sizeLine; decide), fun le hle => ?_⟩
    have se := same_upd (o := .lst []) hle
    refine ⟨ll, le, _, [], rfl, rfl, SqL.of (se _ _ h1), SqL.of upd_same, ints_plain _, rfl, _, rfl, ?_⟩
    cases left with
    | nil =>
      refine iteF ?_
      rw [List.append_nil] at hp
      exact ⟨_, rfl, k lm mixed _ hlm0 (s2.trans se) hp (se _ _ h2)⟩
    | cons b left =>
      refine iteT ?_
      have hpl := hp.length_eq
      rw [List.length_append] at hpl
      refine ⟨_, fun σ' H'' w' => ⟨left.length, Nat.lt_succ_self _, w'⟩, ?_⟩
      refine ⟨_, rfl, _, _, rfl, rfl, .inr ⟨by decide, by decide⟩, _, _, rfl, rfl, _, _, rfl, rfl, (by show (0 : Int) < 2147483647; decide), ?_⟩
      obtain ⟨z', hz'⟩ : ∃ z', (z * 48271 + 11) % 2147483647 = z' := ⟨_, rfl⟩
      have n0 : (0 : Int) < (((b :: left).map V.int).length : Int) := by rw [List.length_map, List.length_cons]; omega
      have m1 := Int.emod_nonneg z' (show ((((b :: left).map V.int).length : Nat) : Int) ≠ 0 by omega)
      have m2 := Int.emod_lt_of_pos z' n0
      obtain ⟨q, hq⟩ : ∃ q : Nat, (q : Int) = z' % (((b :: left).map V.int).length : Int) := ⟨(z' % (((b :: left).map V.int).length : Int)).toNat, by omega⟩
      have hql : q < (b :: left).length := by rw [List.length_map] at m2 hq; omega
      have hqm : q < ((b :: left).map V.int).length := by rw [List.length_map]; exact hql
      obtain ⟨v, hv⟩ : ∃ v, (b :: left)[q]? = some v := ⟨(b :: left)[q], by rw [List.getElem?_eq_getElem hql]⟩
      have h1e := se _ _ h1
      have h2e := se _ _ h2
      refine ⟨_, rfl, .inl ⟨rfl, _, SqL.of h2e⟩, _, rfl, .inl ⟨rfl, _, SqL.of h1e⟩, _, rfl, _, rfl, ll, _, rfl, .inl (SqL.of h1e), _, _, rfl, rfl, n0, ?_⟩
      refine ⟨ll, _, (q : Int), q, .int v, rfl, ?_, h1e, by omega, (by simp only [List.length_cons] at hql hpl; omega), ?_, ?_, ?_⟩
      · rw [hq, ← hz']
      · rw [seqIndexL (by omega) (by omega)]; simp
      · rw [List.getElem?_map, hv]; rfl
      have ep := erase_perm hv
      refine ⟨lm, _, _, rfl, rfl, (by rw [upd_ne nml]; exact h2e), ?_, ?_⟩
      · rw [List.length_map]; omega
      · have nll : ∀ b o, H b = some o → b ≠ ll := fun b o e => ne_of_none e hll
        have nlm : ∀ b o, H b = some o → b ≠ lm := fun b o e => ne_of_none e hlm0
        refine ⟨z', (b :: left).eraseIdx q, mixed ++ [v], ?_, fun b o e => ?_, ?_, ?_, ?_, ?_⟩
        · rw [← hz']; rfl
        · rw [upd_ne (nlm b o e), upd_ne (nll b o e)]
          exact se b o (s2 b o e)
        · rw [upd_ne nml.symm, upd_same, erase_map]
        · rw [upd_same, List.map_append]; rfl
        · refine List.Perm.trans ?_ hp
          rw [List.append_assoc]
          exact List.Perm.append_left mixed ep
        · have := ep.length_eq
          simp only [List.length_cons] at this
          omega

theorem scAlike : FnScope ["one", "other"] ["one", "other"] (defScope sAlike) := ⟨rfl, rfl, rfl, by decide +kernel, rfl, by decide +kernel, by decide +kernel⟩
theorem ok_alike {f C CB aS : Addr} {fd : FuncData} (F : Fun K "alike" "alike" sAlike f fd) (T : BTxt K mg CB aS) : FnOk P w K mg base CX0 1 f fd ["one", "other"] (spAlike C CB) := by
  refine F.ok scAlike (fun vs H Q E h => ?_) (fun cdv A outer s H vs Q E hr h => ?_)
  · obtain ⟨b, y, ca, d, b2, y2, ca2, d2, r, r2, c, c2, tb, tb2, rfl, _⟩ := h
    rfl
  · obtain ⟨b, y, ca, d, b2, y2, ca2, d2, r, r2, c, c2, tb, tb2, rfl, B, B2, k⟩ := h
    have hu := hu_of hr
    obtain ⟨dx, hb⟩ := B.ob
    obtain ⟨dx2, hb2⟩ := B2.ob
    refine ⟨_, pss_one (ps_ret (pe_cmpR (op_eqD (Nat.lt_of_succ_lt hu)) (pe_fld (pv 0) rfl) (pe_fld (pv 1) rfl) (nomark _))), ?_⟩
    exact ⟨_, rfl, b, CB, dx, _, _, rfl, hb, T.cl, T.nW, bf_worths _ _, _, rfl, b2, CB, dx2, _, _, rfl, hb2, T.cl, T.nW, bf_worths _ _, d, d2, tb, tb2, rfl, rfl, B.dc, B2.dc, k⟩
theorem scChanges : FnScope ["one", "other", "names", "rows"] ["one", "other"] (defScope sChanges) := ⟨rfl, rfl, rfl, by decide +kernel, rfl, by decide +kernel, by decide +kernel⟩
theorem ok_changes {f C CB aS : Addr} {fd : FuncData} (F : Fun K "changes" "changes" sChanges f fd) (T : BTxt K mg CB aS) (Ls : mg "sorted" = none) (Lt : mg "set" = none) (GBW : MtG P w K mg base CB "worth" ["self", "name"] 1 (spBWorth C CB)) : FnOk P w K mg base CX0 2 f fd ["one", "other"] (spChanges C CB) := by
  refine F.ok scChanges (fun vs H Q E h => ?_) (fun cdv A outer s H vs Q E hr h => ?_)
  · obtain ⟨b, y, ca, d, b2, y2, ca2, d2, r, r2, c, c2, tb, tb2, rfl, _⟩ := h
    rfl
  · obtain ⟨b, y, ca, d, b2, y2, ca2, d2, r, r2, c, c2, tb, tb2, rfl, B, B2, ⟨U, hU, hk1, hk2⟩, k⟩ := h
    obtain ⟨dx, hb⟩ := B.ob
    obtain ⟨dx2, hb2⟩ := B2.ob
    have hl1 := SU.sub_len B.nd hk1
    have hl2 := SU.sub_len B2.nd hk2
    have szl : sizeLine ≥ 1000 := by decide
    refine ⟨_, (pss_cons (ps_set (i := 2) scChanges.nd rfl (Or.inl rfl) (pe_callB (call_sortedS (by rfl)) (by rfl) Ls PyProof.Rows.boot_sorted (pa_cons (pe_op op_setOr (pe_callTy call_setD (by rfl) Lt PyProof.Rows.boot_set (pa_cons (pe_fld (pv 0) rfl) pa_nil)) (pe_callTy call_setD (by rfl) Lt PyProof.Rows.boot_set (pa_cons (pe_fld (pv 1) rfl) pa_nil))) pa_nil)))
      (pss_cons (ps_setG (i := 3) (CompOk.taken (cl := [("other", s.heap.objs.size + 2), ("one", s.heap.objs.size + 1)]) (ix := [1, 0]) (by rfl) (by decide +kernel) (by rfl) (by decide +kernel) (by rfl) (by simp; exact ⟨rfl, rfl⟩) (by rfl) (by rfl)
            (fun k j y h1 h2 => match k, h1, h2 with
              | 0, h1, h2 => by cases h1; cases h2; exact ⟨rfl, .inr (.inl rfl), rfl, rfl⟩
              | 1, h1, h2 => by cases h1; cases h2; exact ⟨rfl, .inr (.inl rfl), rfl, rfl⟩
              | k + 2, h1, h2 => by simp at h1) (by show (["name", "other", "one"] : List Str).Nodup; decide +kernel)) (by rfl) scChanges.nd rfl (Or.inl rfl) (pi_list (pv 2)) (fun fp Cc s₀ H₀ => pf_nil)
          (fun fp Cc s₀ H₀ => pe_tup (pa_cons (pv 0) (pa_cons (pe_mt T.cl GBW hr (pv 2) (pa_cons (pv 0) pa_nil)) (pa_cons (pe_mt T.cl GBW hr (pv 1) (pa_cons (pv 0) pa_nil)) pa_nil)))))
      (pss_one (ps_ret (pe_compG (CompOk.closed (by decide +kernel) (by rfl) (by decide +kernel) (by rfl)) (by rfl) (pi_list (pv 3)) (fun fp Cc s₀ H₀ => pf_one (pt_cmpR op_ne (pe_ix ix_tup (pv 0) pe_int (fun _ _ => rfl)) (pe_ix ix_tup (pv 0) pe_int (fun _ _ => rfl)) (nomark _))) (fun fp Cc s₀ H₀ => pv 0)))))), ?_⟩
    -- the names
    refine ⟨_, rfl, b, CB, dx, _, _, rfl, hb, T.cl, T.nW, bf_worths _ _, d, _, ky tb, rfl, B.dc, kvs_keys tb, B.nd, by omega, fun a1 o1 ks1 ha1 S1 p1 => ?_⟩
    have s1 := same_upd (o := .frz o1 (.own 0)) ha1
    refine ⟨_, rfl, b2, CB, dx2, _, _, rfl, s1 _ _ hb2, T.cl, T.nW, bf_worths _ _, d2, _, ky tb2, rfl, s1 _ _ B2.dc, kvs_keys tb2, B2.nd, by omega, fun a2 o2 ks2 ha2 S2 p2 => ?_⟩
    have s2 := s1.trans (same_upd (o := .frz o2 (.own 0)) ha2)
    have n12 : a1 ≠ a2 := fun z => by subst z; rw [upd_same] at ha2; cases ha2
    refine ⟨a1, a2, o1, o2, _, _, ks1, ks2, rfl, rfl, n12, by rw [upd_ne n12, upd_same], upd_same, S1, S2, ⟨U, hU, fun k z => hk1 k (p1.mem_iff.mp z), fun k z => hk2 k (p2.mem_iff.mp z)⟩, fun a3 o3 js ha3 S3 e3 => ?_⟩
    have s3 := s2.trans (same_upd (o := .frz o3 (.own 0)) ha3)
    have hjl := SU.sub_len S3.nd (l := U) fun k z => ((e3 k).mp z).elim (fun z => hk1 k (p1.mem_iff.mp z)) fun z => hk2 k (p2.mem_iff.mp z)
    refine ⟨a3, o3, _, js, rfl, upd_same, S3, by omega, fun ln ns hln pn up => ?_⟩
    have s4 := s3.trans (same_upd (o := .lst (ns.map V.int)) hln)
    have hmem : ∀ k, k ∈ ns ↔ k ∈ ky tb ∨ k ∈ ky tb2 := fun k => by rw [pn.mem_iff, e3 k, p1.mem_iff, p2.mem_iff]
    have hnd : ns.Nodup := pn.nodup_iff.mpr S3.nd
    have hnl : ns.length < 60 := by rw [pn.length_eq]; omega
    generalize hH4 : upd (upd (upd (upd H a1 (.frz o1 (.own 0))) a2 (.frz o2 (.own 0))) a3 (.frz o3 (.own 0))) ln (.lst (ns.map V.int)) = H4 at s4
    have g4 : H4 ln = some (.lst (ns.map V.int)) := by rw [← hH4, upd_same]
    -- the rows
    refine ⟨_, rfl, ln, rfl, ⟨_, SqL.of g4⟩, fun D hD => ?_⟩
    have hD0 : H D = none := s4.free hD
    have nDl : ln ≠ D := ne_of_none g4 hD
    refine ⟨fun i j H2 => i ≤ ns.length ∧ j = ns.length - i ∧ Same H H2 ∧ H2 ln = some (.lst (ns.map V.int)) ∧ ∃ ts : List Addr, H2 D = some (.lst (ts.map V.ref)) ∧ TupsP H2 ts ((ns.take i).map (rowT tb tb2)),
      ⟨ns.length, Nat.zero_le _, rfl, s4.trans (same_upd hD), by rw [upd_ne nDl]; exact g4, [], upd_same, .nil⟩, ?_⟩
    rintro i j H5 ⟨hi, rfl, s5, g5, ts, hD5, tp5⟩
    have htl : ts.length = i := by
      have := Paired.length tp5
      rw [List.length_map, List.length_take] at this
      omega
    by_cases hlt : i < ns.length
    · have hg : (ns.map V.int)[i]? = some (.int ns[i]) := by rw [List.getElem?_map, List.getElem?_eq_getElem hlt]; rfl
      refine .inr ⟨⟨_, _, SqL.of g5, hg⟩, fun H' => Same H H' ∧ H' ln = some (.lst (ns.map V.int)) ∧ ∃ ts : List Addr, H' D = some (.lst (ts.map V.ref)) ∧ TupsP H' ts ((ns.take (i + 1)).map (rowT tb tb2)), fun H' h' => ⟨ns.length - (i + 1), by omega, hlt, rfl, h'.1, h'.2.1, h'.2.2⟩, fun v H6 hv => ?_⟩
      obtain ⟨rfl, hv⟩ := hv
      have ev := hv _ (SqL.of g5)
      rw [hg] at ev
      cases ev
      intro fp Cc s₀ H₀
      have B5 := B.same s5
      have B25 := B2.same s5
      obtain ⟨dx5, hb5⟩ := B5.ob
      obtain ⟨dx25, hb25⟩ := B25.ob
      refine tAll_ok ⟨_, rfl, _, rfl, b, dx5, _, rfl, hb5, bf_no _ _ (by decide +kernel) (by decide +kernel), _, rfl, b, y, ca, d, r, c, tb, ns[i], rfl, B5, _, rfl, b2, dx25, _, rfl, hb25, bf_no _ _ (by decide +kernel) (by decide +kernel), _, rfl, b2, y2, ca2, d2, r2, c2, tb2, ns[i], rfl, B25, (by show 3 ≤ sizeLine; decide), fun t ht => ?_⟩
      have ntD : D ≠ t := ne_of_none hD5 ht
      have ntl : ln ≠ t := ne_of_none g5 ht
      refine ⟨_, by rw [upd_ne ntD]; exact hD5, by rw [List.length_map]; omega, fun a o e => ?_, ?_, ts ++ [t], by rw [upd_same, List.map_append]; rfl, ?_⟩
      · rw [upd_ne (ne_of_none e hD0), upd_ne (ne_of_none (s5 a o e) ht)]; exact s5 a o e
      · rw [upd_ne nDl, upd_ne ntl]; exact g5
      · rw [List.take_add_one, List.getElem?_eq_getElem hlt, List.map_append]
        refine tupsP_snoc (tupsP_same (fun a xs e => ?_) tp5) (by rw [upd_ne ntD.symm, upd_same]; rfl) (row_plain _ _ _)
        rw [upd_ne (ne_of e hD5 (by intro z; cases z)), upd_ne (ne_of_none e ht)]; exact e
    · have e6 : i = ns.length := by omega
      subst e6
      rw [List.take_of_length_le (Nat.le_refl _)] at tp5
      refine .inl ⟨⟨_, SqL.of g5, by rw [List.length_map]; exact Nat.le_refl _⟩, ?_⟩
      -- those whose worths are unlike
      refine ⟨_, rfl, D, rfl, ⟨_, SqL.of hD5⟩, fun D2 hD2 => ?_⟩
      have hD20 : H D2 = none := s5.free hD2
      have nDD : D ≠ D2 := ne_of_none hD5 hD2
      refine ⟨fun i j H2 => i ≤ ns.length ∧ j = ns.length - i ∧ Same H5 H2 ∧ ∃ us : List Addr, H2 D2 = some (.lst (us.map V.ref)) ∧ us.length ≤ i ∧ TupsP H2 us ((chg tb tb2 (ns.take i)).map (rowT tb tb2)),
        ⟨ns.length, Nat.zero_le _, rfl, same_upd hD2, [], upd_same, Nat.le_refl _, .nil⟩, ?_⟩
      rintro i j H6 ⟨hi, rfl, s6, us, hD6, hul, tp6⟩
      by_cases hlt : i < ns.length
      · obtain ⟨t, ht⟩ : ∃ t, ts[i]? = some t := ⟨ts[i]'(by omega), List.getElem?_eq_getElem (by omega)⟩
        have hg : (ts.map V.ref)[i]? = some (.ref t) := by rw [List.getElem?_map, ht]; rfl
        obtain ⟨n, n1, n2, n3⟩ := tp5.get ht
        rw [List.getElem?_map, List.getElem?_eq_getElem hlt] at n1
        cases n1
        have t6 := s6 _ _ n2
        refine .inr ⟨⟨_, _, SqL.of (s6 _ _ hD5), hg⟩, fun H' => Same H5 H' ∧ ∃ us : List Addr, H' D2 = some (.lst (us.map V.ref)) ∧ us.length ≤ i + 1 ∧ TupsP H' us ((chg tb tb2 (ns.take (i + 1))).map (rowT tb tb2)), fun H' h' => ⟨ns.length - (i + 1), by omega, hlt, rfl, h'.1, h'.2⟩, fun v H7 hv => ?_⟩
        obtain ⟨rfl, hv⟩ := hv
        have ev := hv _ (SqL.of (s6 _ _ hD5))
        rw [hg] at ev
        cases ev
        intro fp Cc s₀ H₀
        have et : chg tb tb2 (ns.take (i + 1)) = chg tb tb2 (ns.take i) ++ (if valT tb ns[i] ≠ valT tb2 ns[i] then [ns[i]] else []) := by
          unfold chg
          rw [List.take_add_one, List.getElem?_eq_getElem hlt, List.filter_append]
          congr 1
          show List.filter _ [ns[i]] = _
          rw [List.filter_cons, List.filter_nil]
          by_cases z : valT tb ns[i] ≠ valT tb2 ns[i]
          · rw [if_pos (by simpa using z), if_pos z]
          · rw [if_neg (by simpa using z), if_neg z]
        refine ⟨_, rfl, t, _, _, _, rfl, rfl, SqT.of t6, (show atI (rowT tb tb2 ns[i]) ((1 : Nat) : Int) = some (oW (valT tb ns[i])) from atI_nat rfl), _, rfl, t, _, _, _, rfl, rfl, SqT.of t6, (show atI (rowT tb tb2 ns[i]) ((2 : Nat) : Int) = some (oW (valT tb2 ns[i])) from atI_nat rfl), oW_scal _ _, _, rfl, iteND (fun z => ?_) (fun z => ?_)⟩
        · rw [if_pos (fun e => z (by rw [e]))] at et
          refine ⟨_, rfl, _, hD6, by rw [List.length_map]; omega, fun a o e => ?_, us ++ [t], by rw [upd_same, List.map_append]; rfl, by rw [List.length_append, List.length_singleton]; omega, ?_⟩
          · rw [upd_ne (ne_of_none e hD2)]; exact s6 a o e
          · rw [et, List.map_append]
            refine tupsP_snoc (tupsP_same (fun a xs e => ?_) tp6) ?_ (row_plain _ _ _)
            · rw [upd_ne (ne_of e hD6 (by intro z; cases z))]; exact e
            · rw [upd_ne (ne_of t6 hD6 (by intro z; cases z))]; exact t6
        · rw [if_neg (fun e => e (oW_inj.mp z)), List.append_nil] at et
          exact ⟨s6, us, hD6, by omega, by rw [et]; exact tp6⟩
      · have e7 : i = ns.length := by omega
        subst e7
        rw [List.take_of_length_le (Nat.le_refl _)] at tp6
        exact .inl ⟨⟨_, SqL.of (s6 _ _ hD5), by rw [List.length_map]; omega⟩, k D2 us ns H6 hD20 (s5.trans s6) up hnd hmem hD6 tp6⟩

def spBTaken (C CB : Addr) : Sp := fun vs H Q _ => ∃ (b y ca d : Addr) (rule : Int) (c : Lay) (tb : Tb), vs = [.ref b] ∧ BookAt C CB H b y ca d rule c tb ∧ ∀ (l : Addr) (H' : Hp), H l = none → Same H H' → H' l = some (.lst ((c.map fun v => v.isSome).map V.bl)) → Q (.ref l) H'
theorem scLTaken : FnScope ["book"] ["book"] (defScope sLTaken) := ⟨rfl, rfl, rfl, by decide +kernel, rfl, by decide +kernel, by decide +kernel⟩
theorem ok_btaken {f C CB aS : Addr} {fd : FuncData} (F : Fun K "_law_taken" "_law_taken" sLTaken f fd) (T : BTxt K mg CB aS) (GBL : MtG P w K mg base CB "layout" ["self"] 2 (spBLayout C CB)) : FnOk P w K mg base CX0 3 f fd ["book"] (spBTaken C CB) := by
  refine F.ok scLTaken (fun vs H Q E h => ?_) (fun cdv A outer s H vs Q E hr h => ?_)
  · obtain ⟨b, y, ca, d, rule, c, tb, rfl, _⟩ := h
    rfl
  · obtain ⟨b, y, ca, d, rule, c, tb, rfl, B, k⟩ := h
    obtain ⟨dx, hb⟩ := B.ob
    have szl : sizeLine ≥ 1000 := by decide
    have h128 := szB_le tb.length
    have hcl := B.yd.len
    refine ⟨_, pss_one (ps_ret (pe_compG (CompOk.closed (by decide +kernel) (by rfl) (by decide +kernel) (by rfl)) (by rfl) (pi_list (pe_mt0 T.cl GBL hr (pv 0))) (fun fp Cc s₀ H₀ => pf_nil) (fun fp Cc s₀ H₀ => pe_cmp (pc_notN (pv 0))))), ?_⟩
    refine ⟨_, rfl, b, dx, _, rfl, hb, bf_no _ _ (by decide +kernel) (by decide +kernel), b, y, ca, d, rule, c, tb, rfl, B, fun l xs H1 hl s1 gl lo => ?_⟩
    refine ⟨l, rfl, ⟨_, SqL.of gl⟩, fun D hD => ?_⟩
    have hD0 : H D = none := s1.free hD
    refine ⟨fun i j H2 => i ≤ c.length ∧ j = c.length - i ∧ Same H1 H2 ∧ H2 D = some (.lst (((c.take i).map fun v => v.isSome).map V.bl)), ⟨c.length, Nat.zero_le _, rfl, same_upd hD, upd_same⟩, ?_⟩
    rintro i j H2 ⟨hi, rfl, s2, hD2⟩
    by_cases hlt : i < c.length
    · have hx : ∃ x, xs[i]? = some x := ⟨xs[i]'(by rw [lo.1]; exact hlt), List.getElem?_eq_getElem (by rw [lo.1]; exact hlt)⟩
      obtain ⟨x, hx⟩ := hx
      have et : (((c.take (i + 1)).map fun v => v.isSome).map V.bl) = (((c.take i).map fun v => v.isSome).map V.bl) ++ [V.bl (g c i).isSome] := by
        rw [List.take_add_one, g_get hlt, List.map_append, List.map_append]
        rfl
      refine .inr ⟨⟨_, _, SqL.of (s2 _ _ gl), hx⟩, fun H' => Same H1 H' ∧ H' D = some (.lst (((c.take (i + 1)).map fun v => v.isSome).map V.bl)), fun H' h' => ⟨c.length - (i + 1), by omega, hlt, rfl, h'.1, h'.2⟩, fun v H3 hv => ?_⟩
      obtain ⟨rfl, hv⟩ := hv
      have ev := hv _ (SqL.of (s2 _ _ gl))
      rw [hx] at ev
      cases ev
      intro fp Cc s₀ H₀
      have hlen : (((c.take i).map fun v => v.isSome).map V.bl).length < sizeLine := by rw [List.length_map, List.length_map, List.length_take]; omega
      have fin : ∀ bb : Bool, (g c i).isSome = bb → ∃ ys, H3 D = some (.lst ys) ∧ ys.length < sizeLine ∧ Same H1 (upd H3 D (.lst (ys ++ [V.bl bb]))) ∧ upd H3 D (.lst (ys ++ [V.bl bb])) D = some (.lst (((c.take (i + 1)).map fun v => v.isSome).map V.bl)) := fun bb e => ⟨_, hD2, hlen, fun a o q => by rw [upd_ne (ne_of_none q hD)]; exact s2 a o q, by rw [upd_same, et, e]⟩
      cases e : g c i with
      | none =>
        have := (lo.2 i hlt).1 e
        rw [hx] at this; cases this
        exact tAll_ok ⟨_, rfl, fin false (by rw [e]; rfl)⟩
      | some n =>
        obtain ⟨t, w, q1, q2, q3⟩ := (lo.2 i hlt).2 n e
        rw [hx] at q1; cases q1
        exact tAll_ok ⟨_, rfl, fin true (by rw [e]; rfl)⟩
    · have e6 : i = c.length := by omega
      subst e6
      rw [List.take_of_length_le (Nat.le_refl _)] at hD2
      exact .inl ⟨⟨_, SqL.of (s2 _ _ gl), by rw [lo.1]; exact Nat.le_refl _⟩, k D H2 hD0 (s1.trans s2) hD2⟩

def spWr (C CB : Addr) : Sp := fun vs H Q _ => ∃ (b y ca d : Addr) (rule : Int) (c : Lay) (tb : Tb) (n x : Int), vs = [.ref b, .int n, .int x] ∧ BookAt C CB H b y ca d rule c tb ∧ tb.length < 96 ∧
  ∀ (bb : Bool) (y' ca' : Addr) (c' : Lay) (H' : Hp), (ca' = ca ∨ H ca' = none) → SameB b ca d H H' → BookAt C CB H' b y' ca' d rule c' (putT tb n x) → Q (.bl bb) H'
def spDr (C CB : Addr) : Sp := fun vs H Q _ => ∃ (b y ca d : Addr) (rule : Int) (c : Lay) (tb : Tb) (n : Int), vs = [.ref b, .int n] ∧ BookAt C CB H b y ca d rule c tb ∧ n ∈ ky tb ∧
  ∀ (v : Int) (y' ca' : Addr) (c' : Lay) (H' : Hp), (ca' = ca ∨ H ca' = none) → SameB b ca d H H' → BookAt C CB H' b y' ca' d rule c' (dropT tb n) → Q (.int v) H'
theorem wr_any {C CB CF : Addr} (G : MtX P w K mg base CB "write" ["self", "name", "worth"] 11 (spBWrite C CB CF)) : MtX P w K mg base CB "write" ["self", "name", "worth"] 11 (spWr C CB) := by
  obtain ⟨f, fd, m, b, F⟩ := G
  refine ⟨f, fd, m, b, F.sub fun vs H Q E h => ?_⟩
  obtain ⟨b, y, ca, d, rule, c, tb, n, x, e, B, hl, k⟩ := h
  refine ⟨b, y, ca, d, rule, c, tb, n, x, e, B, ?_⟩
  by_cases hin : n ∈ ky tb
  · refine .inl ⟨hin, fun H' s B' => k _ y ca c H' (.inl rfl) ⟨fun a o e _ _ a3 => s a o e a3, fun a e => ?_⟩ B'⟩
    by_cases z : a = d
    · rw [z, B'.dc] at e; cases e
    · cases q : H a with
      | none => rfl
      | some o => rw [s a o q z] at e; cases e
  · exact .inr (.inl ⟨hin, hl, fun y' ca' H' hy s B' => k _ y' ca' _ H' (hy.elim (fun z => .inl z.2) fun z => .inr z.2) s B'⟩)
theorem dr_any {C CB CN : Addr} (G : MtX P w K mg base CB "drop" ["self", "name"] 10 (spBDrop C CB CN)) : MtX P w K mg base CB "drop" ["self", "name"] 10 (spDr C CB) := by
  obtain ⟨f, fd, m, b, F⟩ := G
  refine ⟨f, fd, m, b, F.sub fun vs H Q E h => ?_⟩
  obtain ⟨b, y, ca, d, rule, c, tb, n, e, B, hin, k⟩ := h
  obtain ⟨x, ex⟩ := valT_some hin
  obtain ⟨p, hp⟩ := mem_nm.mp (B.pm.mem_iff.mpr hin)
  exact ⟨b, y, ca, d, rule, c, tb, n, e, B, .inl ⟨x, p, ex, hp, fun y' ca' H' hy s B' => k x y' ca' _ H' (hy.elim (fun z => .inl z.2) fun z => .inr z.2) s B'⟩⟩
theorem mem_put {tb : Tb} {n x k : Int} : k ∈ ky (putT tb n x) ↔ k = n ∨ k ∈ ky tb := by
  by_cases h : n ∈ ky tb
  · rw [ky_put_in x h]
    exact ⟨.inr, fun z => z.elim (fun e => e ▸ h) id⟩
  · rw [ky_put_new x h, List.mem_append, List.mem_singleton]
    exact ⟨fun z => z.elim .inr .inl, fun z => z.elim .inr .inl⟩
theorem mem_drop {tb : Tb} {n k : Int} : k ∈ ky (dropT tb n) ↔ k ∈ ky tb ∧ k ≠ n := by
  rw [ky_drop, List.mem_filter]
  simp
theorem valT_drop {n k : Int} (h : k ≠ n) : ∀ tb : Tb, valT (dropT tb n) k = valT tb k
  | [] => rfl
  | p :: tb => by
    have ih := valT_drop h tb
    unfold dropT at ih ⊢
    by_cases e : p.1 = n
    · rw [List.filter_cons_of_neg (by simpa using e), ih]
      unfold valT
      rw [List.find?_cons, decide_eq_false (show ¬ p.1 = k from fun z => h (by rw [← z, e]))]
    · rw [List.filter_cons_of_pos (by simpa using e)]
      unfold valT at ih ⊢
      rw [List.find?_cons, List.find?_cons]
      by_cases q : p.1 = k
      · rw [decide_eq_true q]
      · rw [decide_eq_false q]
        exact ih
structure OB (C CB : Addr) (H H' : Hp) (b ca0 d lg : Addr) (rule : Int) (gs js ex ss : List Int) (W tb : Tb) (u : Nat) : Prop where
  bk : ∃ (y ca : Addr) (c : Lay), BookAt C CB H' b y ca d rule c tb ∧ (ca = ca0 ∨ H ca = none) ∧ lg ≠ ca
  fr : ∀ q o, H q = some o → q ≠ b → q ≠ ca0 → q ≠ d → H' q = some o
  gl : H' lg = some (.lst (gs.map V.int))
  ks : ∀ k, k ∈ ky tb ↔ k ∈ gs ∨ k ∈ js ∨ k ∈ ex
  vl : ∀ k ∈ js, valT tb k = valT W k
  nd : gs.Nodup
  su : ∀ n, n ∈ gs → n ∈ ss.take u
  gr : ∀ a, H' a = none → H a = none
theorem OB.same {C CB : Addr} {H H' H2 : Hp} {b ca0 d lg : Addr} {rule : Int} {gs js ex ss : List Int} {W tb : Tb} {u : Nat} (M : OB C CB H H' b ca0 d lg rule gs js ex ss W tb u) (s : Same H' H2) : OB C CB H H2 b ca0 d lg rule gs js ex ss W tb u := by
  obtain ⟨y, ca, c, B, h1, h2⟩ := M.bk
  exact ⟨⟨y, ca, c, B.same s, h1, h2⟩, fun q o e a1 a2 a3 => s _ _ (M.fr q o e a1 a2 a3), s _ _ M.gl, M.ks, M.vl, M.nd, M.su, fun a e => M.gr a (s.free e)⟩
theorem OB.up {C CB : Addr} {H H' : Hp} {b ca0 d lg : Addr} {rule : Int} {gs js ex ss : List Int} {W tb : Tb} {u : Nat} (M : OB C CB H H' b ca0 d lg rule gs js ex ss W tb u) : OB C CB H H' b ca0 d lg rule gs js ex ss W tb (u + 1) :=
  ⟨M.bk, M.fr, M.gl, M.ks, M.vl, M.nd, fun n h => by rw [List.take_add_one]; exact List.mem_append_left _ (M.su n h), M.gr⟩
theorem OB.turn {C CB : Addr} {H H1 H2 : Hp} {b ca0 d lg y ca y' ca' : Addr} {rule : Int} {gs js ex js' ex' ss : List Int} {W tb tb' : Tb} {c c' : Lay} {u : Nat} (M : OB C CB H H1 b ca0 d lg rule gs js ex ss W tb u) (B : BookAt C CB H1 b y ca d rule c tb) (h1 : ca = ca0 ∨ H ca = none) (h2 : lg ≠ ca)
    (hca : ca' = ca ∨ H1 ca' = none) (s : SameB b ca d H1 H2) (B' : BookAt C CB H2 b y' ca' d rule c' tb') (ks : ∀ k, k ∈ ky tb' ↔ k ∈ gs ∨ k ∈ js' ∨ k ∈ ex') (vl : ∀ k ∈ js', valT tb' k = valT W k) : OB C CB H H2 b ca0 d lg rule gs js' ex' ss W tb' u := by
  obtain ⟨dx, hb⟩ := B.ob
  refine ⟨⟨y', ca', c', B', ?_, ?_⟩, fun q o e a1 a2 a3 => s.kp q o (M.fr q o e a1 a2 a3) a1 ?_ a3, s.kp _ _ M.gl (ne_of M.gl hb (by intro z; cases z)) h2 (ne_of M.gl B.dc (by intro z; cases z)), ks, vl, M.nd, M.su, fun a e => M.gr a (s.gr a e)⟩
  · rcases hca with z | z
    · rw [z]; exact h1
    · exact .inr (M.gr _ z)
  · rcases hca with z | z
    · rw [z]; exact h2
    · exact ne_of_none M.gl z
  · rcases h1 with z | z
    · rw [z]; exact a2
    · exact ne_of_none e z
theorem BookAt.turnB {C CB : Addr} {H H' : Hp} {b y ca d : Addr} {rule : Int} {c : Lay} {tb : Tb} (B : BookAt C CB H b y ca d rule c tb) (h : ∀ a o, H a = some o → a = b ∨ a = y ∨ a = ca ∨ a = d → H' a = some o) : BookAt C CB H' b y ca d rule c tb := by
  obtain ⟨dx, hb⟩ := B.ob
  obtain ⟨dy, hy⟩ := B.yd.ob
  exact ⟨⟨dx, h _ _ hb (.inl rfl)⟩, ⟨⟨dy, h _ _ hy (.inr (.inl rfl))⟩, h _ _ B.yd.ls (.inr (.inr (.inl rfl))), B.yd.len, B.yd.few⟩, h _ _ B.dc (.inr (.inr (.inr rfl))), B.rt, B.pm, B.nd, B.le, B.r0, B.r2⟩
theorem OB.list {C CB : Addr} {H H' : Hp} {b ca0 d lg : Addr} {rule : Int} {gs js ex gs' ex' ss : List Int} {W tb : Tb} {u u' : Nat} (M : OB C CB H H' b ca0 d lg rule gs js ex ss W tb u) (hlg : H lg = none) (ks : ∀ k, (k ∈ gs' ∨ k ∈ js ∨ k ∈ ex') ↔ (k ∈ gs ∨ k ∈ js ∨ k ∈ ex)) (nd : gs'.Nodup) (su : ∀ n, n ∈ gs' → n ∈ ss.take u') :
    OB C CB H (upd H' lg (.lst (gs'.map V.int))) b ca0 d lg rule gs' js ex' ss W tb u' := by
  obtain ⟨y, ca, c, B, h1, h2⟩ := M.bk
  obtain ⟨dx, hb⟩ := B.ob
  obtain ⟨dy, hy⟩ := B.yd.ob
  refine ⟨⟨y, ca, c, B.turnB fun a o e h => ?_, h1, h2⟩, fun q o e a1 a2 a3 => by rw [upd_ne (ne_of_none e hlg)]; exact M.fr q o e a1 a2 a3, upd_same, fun k => by rw [M.ks k]; exact (ks k).symm, M.vl, nd, su, fun a e => M.gr a (upd_gr e)⟩
  rw [upd_ne]
  · exact e
  · rcases h with rfl | rfl | rfl | rfl
    · exact ne_of hb M.gl (by intro z; cases z)
    · exact ne_of hy M.gl (by intro z; cases z)
    · exact h2.symm
    · exact ne_of B.dc M.gl (by intro z; cases z)

def spBOther (C CB : Addr) : Sp := fun vs H Q _ => ∃ (b y ca d a wd g : Addr) (rule : Int) (c : Lay) (ns ss : List Int) (W : Tb) (z : Int), vs = [.ref b, .ref a, .ref wd, .ref g, .int z] ∧ BookAt C CB H b y ca d rule c [] ∧ H a = some (.lst (ns.map V.int)) ∧ H wd = some (.dK (kvs W)) ∧ H g = some (.lst (ss.map V.int)) ∧
  ns.Nodup ∧ ss.Nodup ∧ (∀ n ∈ ns, n ∉ ss) ∧ (∀ n ∈ ns, n ∈ ky W) ∧ ns.length ≤ 40 ∧ ss.length ≤ 19 ∧ a ≠ ca ∧ g ≠ ca ∧ wd ≠ d ∧
  ∀ (y' ca' : Addr) (c' : Lay) (tb' : Tb) (H' : Hp), (ca' = ca ∨ H ca' = none) → BookAt C CB H' b y' ca' d rule c' tb' → (∀ k, k ∈ ky tb' ↔ k ∈ ns) → (∀ k ∈ ns, valT tb' k = valT W k) → (∀ q o, H q = some o → q ≠ b → q ≠ ca → q ≠ d → H' q = some o) → Q .non H'
theorem OB.few {C CB : Addr} {H H' : Hp} {b ca0 d lg : Addr} {rule : Int} {gs js ex ss : List Int} {W tb : Tb} {u : Nat} (M : OB C CB H H' b ca0 d lg rule gs js ex ss W tb u) : tb.length ≤ ss.length + js.length + ex.length ∧ gs.length ≤ ss.length := by
  obtain ⟨y, ca, c, B, _⟩ := M.bk
  have h1 := SU.sub_len B.nd (l := gs ++ (js ++ ex)) fun k hk => by
    rcases (M.ks k).mp hk with z | z | z
    · exact List.mem_append_left _ z
    · exact List.mem_append_right _ (List.mem_append_left _ z)
    · exact List.mem_append_right _ (List.mem_append_right _ z)
  have h2 := SU.sub_len M.nd (l := ss) fun n hn => List.mem_of_mem_take (M.su n hn)
  rw [ky_len, List.length_append, List.length_append] at h1
  exact ⟨by omega, h2⟩
theorem scLOther : FnScope ["book", "names", "worths", "strangers", "cell", "guests", "at", "name", "guest"] ["book", "names", "worths", "strangers", "cell"] (defScope sLOther) := ⟨rfl, rfl, rfl, by decide +kernel, rfl, by decide +kernel, by decide +kernel⟩
theorem ok_bother {f C CB aS : Addr} {fd : FuncData} (F : Fun K "_law_other_way" "_law_other_way" sLOther f fd) (T : BTxt K mg CB aS) (L : LTxt K mg) (Le : mg "enumerate" = none) (GW : MtX P w K mg base CB "write" ["self", "name", "worth"] 11 (spWr C CB)) (GD : MtX P w K mg base CB "drop" ["self", "name"] 10 (spDr C CB)) :
    FnOk P w K mg base CX0 12 f fd ["book", "names", "worths", "strangers", "cell"] (spBOther C CB) := by
  refine F.ok scLOther (fun vs H Q E h => ?_) (fun cdv A outer s H vs Q E hr h => ?_)
  · obtain ⟨b, y, ca, d, a, wd, g, rule, c, ns, ss, W, z, rfl, _⟩ := h
    rfl
  · obtain ⟨b, y, ca0, d, a, wd, g, rule, c, ns, ss, W, z, rfl, B0, ha, hw, hg, nd, nds, dis, hW, h40, h19, nac, ngc, nwd, k⟩ := h
    have hu := hu_of hr
    have hr10 : Room 10 _ := hr.mono (by decide)
    have szl : sizeLine ≥ 1000 := by decide
    have nfb : ∀ {x : Str} (y d : Addr), ¬ x = "yard" → ¬ x = "worths" → (bflds y d).lookup x = none := fun y d a b => bf_no y d a b
    refine ⟨_, (pss_cons (ps_set (i := 5) scLOther.nd rfl (Or.inl rfl) (pe_lst pa_nil))
      (pss_cons (ps_for PassesOwn.never rfl (pi_enum rfl Le (pa_cons (pv 1) pa_nil)) (pg_tup rfl (pgs_cons (pg_name (i := 6) scLOther.nd rfl (Or.inl rfl)) (pgs_cons (pg_name (i := 7) scLOther.nd rfl (Or.inl rfl)) pgs_nil))) (pss_cons (ps_set (i := 4) scLOther.nd rfl (Or.inl rfl) (pe_op op_mod (pe_op op_add (pe_op op_mul (pv 4) pe_int) pe_int) pe_int))
      (pss_mid (ps_if (pt_cmpR op_lt (pv 6) (pe_callB call_len_seq (by rfl) L.len PySem.boot_len (pa_cons (pv 3) pa_nil)) (nomark _))
          (pss_cons (ps_expr (pe_mtX T.cl GW hr passF (pv 0) (pa_cons (pe_ix ix_list (pv 3) (pv 6) (fun _ _ => rfl)) (pa_cons (pv 6) pa_nil))))
      (pss_one (ps_expr (pe_bm PySem.F.plainAttrs_list PySem.F.slot_list_append PySem.F.type_list_append mt_append (pv 5) (pa_cons (pe_ix ix_list (pv 3) (pv 6) (fun _ _ => rfl)) pa_nil))))) pss_nil)
      (pss_mid (ps_if (pt_cmpR op_eq (pe_op op_mod (pv 4) pe_int) pe_int (nomark _)) (pss_one (ps_expr (pe_mtX T.cl GW hr passF (pv 0) (pa_cons (pv 7) (pa_cons (pv 4) pa_nil))))) pss_nil)
      (pss_mid (ps_if (PW.pt (pw_and (pt_cmpR (op_neL (Nat.lt_of_succ_lt hu)) (pv 5) (pe_lst pa_nil) (nomark _)) (pw_and1 (pt_cmpR op_eq (pe_op op_mod (pv 4) pe_int) pe_int (nomark _)))))
          (pss_one (ps_expr (pe_mtX T.cl GD hr10 passF (pv 0) (pa_cons (pe_bm PySem.F.plainAttrs_list PySem.F.slot_list_pop PySem.F.type_list_pop mt_popAt (pv 5) (pa_cons (pe_op op_mod (pe_op op_fdiv (pv 4) pe_int) (pe_callB call_len_seq (by rfl) L.len PySem.boot_len (pa_cons (pv 5) pa_nil))) pa_nil)) pa_nil)))) pss_nil)
      (pss_one (ps_expr (pe_mtX T.cl GW hr passF (pv 0) (pa_cons (pv 7) (pa_cons (pe_dget hu (pv 2) (pv 7) (fun _ _ => rfl)) pa_nil))))))))))
      (pss_one (ps_for PassesOwn.never rfl (pi_list (pv 5)) (pg_name (i := 8) scLOther.nd rfl (Or.inl rfl)) (pss_one (ps_expr (pe_mtX T.cl GD hr10 passF (pv 0) (pa_cons (pv 8) pa_nil)))))))), ?_⟩
    obtain ⟨dx0, hb0⟩ := B0.ob
    have kp : ∀ {gs js ex : List Int} {tb : Tb} {u : Nat} {lg : Addr} {H' : Hp}, OB C CB H H' b ca0 d lg rule gs js ex ss W tb u → H' a = some (.lst (ns.map V.int)) ∧ H' wd = some (.dK (kvs W)) ∧ H' g = some (.lst (ss.map V.int)) := fun M =>
      ⟨M.fr _ _ ha (ne_of ha hb0 (by intro z; cases z)) nac (ne_of ha B0.dc (by intro z; cases z)), M.fr _ _ hw (ne_of hw hb0 (by intro z; cases z)) (ne_of hw B0.yd.ls (by intro z; cases z)) nwd, M.fr _ _ hg (ne_of hg hb0 (by intro z; cases z)) ngc (ne_of hg B0.dc (by intro z; cases z))⟩
    refine ⟨(by show 0 ≤ sizeLine; decide), fun lg hlg => ?_⟩
    have sg := same_upd (o := .lst []) hlg
    have M0 : OB C CB H (upd H lg (.lst [])) b ca0 d lg rule [] [] [] ss W [] 0 := ⟨⟨y, ca0, c, B0.same sg, .inl rfl, (ne_of_none B0.yd.ls hlg).symm⟩, fun q o e _ _ _ => sg q o e, upd_same, fun k => by simp [ky], (fun k h => by cases h), List.nodup_nil, (fun n h => by cases h), fun a e => upd_gr e⟩
    refine ⟨_, rfl, a, rfl, ⟨_, SqL.of (kp M0).1⟩, for_enum (K := K) (a := a) (xs := ns.map V.int) (fun i σ H' => ∃ (gs : List Int) (z : Int) (tb : Tb) (v6 v7 : Option V), σ = [some (.ref b), some (.ref a), some (.ref wd), some (.ref g), some (.int z), some (.ref lg), v6, v7, none] ∧ OB C CB H H' b ca0 d lg rule gs (ns.take i) [] ss W tb i)
      ⟨[], z, [], none, none, rfl, M0⟩ (fun i σ H' _ ⟨_, _, _, _, _, _, M⟩ => SqL.of (kp M).1) ?_ ?_⟩
    · rintro i x σ H' t hi ⟨gs, z, tb, v6, v7, rfl, M⟩ ht
      obtain ⟨n, rfl, hz⟩ := get_int hi
      have hil := (List.getElem?_eq_some_iff.mp hz).1
      have M1 := M.same (same_upd (o := .tup [.int (i : Nat), .int n]) ht)
      refine ⟨t, _, rfl, SqT.of upd_same, rfl, _, _, rfl, _, _, rfl, rfl, ?_⟩
      generalize upd H' t (.tup [.int (i : Nat), .int n]) = H1 at M1
      refine ⟨_, rfl, _, _, rfl, rfl, .inr ⟨by decide, by decide⟩, _, _, rfl, rfl, _, _, rfl, rfl, (by show (0 : Int) < 2147483647; decide), ?_⟩
      obtain ⟨z1, hz1⟩ : ∃ z1, (z * 48271 + 11) % 2147483647 = z1 := ⟨_, rfl⟩
      show gName 4 (V.int ((z * 48271 + 11) % 2147483647)) _ _ _
      rw [hz1]
      have hnt : (ns.take i).length ≤ 40 := Nat.le_trans (List.length_take_le' _ _) h40
      have hnn : n ∉ ns.take i := nodup_get nd hz
      have hnW : n ∈ ns := List.mem_of_getElem? hz
      -- a stranger
      refine ⟨fun σ H2 => ∃ (gs : List Int) (tb : Tb), σ = [some (.ref b), some (.ref a), some (.ref wd), some (.ref g), some (.int z1), some (.ref lg), some (.int (i : Int)), some (.int n), none] ∧ OB C CB H H2 b ca0 d lg rule gs (ns.take i) [] ss W tb (i + 1), ?_, ?_⟩
      · obtain ⟨y1, ca1, c1, B1, e1, e2⟩ := M1.bk
        obtain ⟨d1, o1⟩ := B1.ob
        have hfw := M1.few
        rw [List.length_nil] at hfw
        refine ⟨_, rfl, _, rfl, g, _, rfl, .inl (SqL.of (kp M1).2.2), _, _, rfl, rfl, _, rfl, iteD (fun hs1 => ?_) (fun _ => ⟨gs, tb, rfl, M1.up⟩)⟩
        rw [List.length_map] at hs1
        have hsl : i < ss.length := by omega
        obtain ⟨v, hv⟩ : ∃ v, ss[i]? = some v := ⟨ss[i], by rw [List.getElem?_eq_getElem hsl]⟩
        have hat : atI (ss.map V.int) (i : Int) = some (.int v) := atI_nat (by rw [List.getElem?_map, hv]; rfl)
        have hvs : v ∈ ss := List.mem_of_getElem? hv
        have hvg : v ∉ gs := fun q => nodup_get nds hv (M1.su v q)
        have hvn : v ∉ ns := fun q => dis v q hvs
        refine ⟨_, rfl, b, d1, _, rfl, o1, nfb _ _ (by decide +kernel) (by decide +kernel), _, rfl, _, rfl, g, _, _, _, rfl, rfl, SqL.of (kp M1).2.2, hat, _, rfl, b, y1, ca1, d, rule, c1, tb, v, (i : Int), rfl, B1, by omega, fun bb y' ca' c' H2 hca s2 B2 => ?_⟩
        have M2 := M1.turn (js' := ns.take i) (ex' := [v]) B1 e1 e2 hca s2 B2 (fun k => by rw [mem_put, M1.ks k]; simp; constructor <;> (rintro (z | z | z) <;> simp [z])) (fun k hk => by rw [valT_put, if_neg (show ¬ k = v from fun e => hvn (by rw [← e]; exact List.mem_of_mem_take hk))]; exact M1.vl k hk)
        refine ⟨_, rfl, .inl ⟨rfl, _, SqL.of M2.gl⟩, _, rfl, _, rfl, g, _, _, _, rfl, rfl, SqL.of (kp M2).2.2, hat, lg, _, _, rfl, rfl, M2.gl, by rw [List.length_map]; omega, ?_⟩
        have M3 := M2.list (gs' := gs ++ [v]) (ex' := []) (u' := i + 1) hlg (fun k => ⟨fun z => z.elim (fun z => (List.mem_append.mp z).elim .inl fun z => .inr (.inr z)) fun z => z.elim (fun z => .inr (.inl z)) fun z => (by cases z), fun z => z.elim (fun z => .inl (List.mem_append_left _ z)) fun z => z.elim (fun z => .inr (.inl z)) fun z => .inl (List.mem_append_right _ z)⟩) (List.nodup_append.mpr ⟨M2.nd, List.nodup_cons.mpr ⟨by simp, List.nodup_nil⟩, fun p hp q hq => by rw [List.mem_singleton.mp hq]; rintro rfl; exact hvg hp⟩)
          (fun w hw => by
            rw [List.take_add_one, hv]
            rcases List.mem_append.mp hw with q | q
            · exact List.mem_append_left _ (M2.su w q)
            · rw [List.mem_singleton.mp q]; exact List.mem_append_right _ (by simp))
        rw [List.map_append] at M3
        exact ⟨gs ++ [v], _, rfl, M3⟩
      rintro σ H2 ⟨gs2, tb2, rfl, M2⟩
      have hng : ∀ {gs : List Int} {js ex : List Int} {tb : Tb} {H' : Hp}, OB C CB H H' b ca0 d lg rule gs js ex ss W tb (i + 1) → n ∉ gs := fun M q => dis n hnW (List.mem_of_mem_take (M.su n q))
      -- another worth ahead
      refine ⟨fun σ H3 => ∃ (ex : List Int) (tb : Tb), (ex = [] ∨ ex = [n]) ∧ σ = [some (.ref b), some (.ref a), some (.ref wd), some (.ref g), some (.int z1), some (.ref lg), some (.int (i : Int)), some (.int n), none] ∧ OB C CB H H3 b ca0 d lg rule gs2 (ns.take i) ex ss W tb (i + 1), ?_, ?_⟩
      · obtain ⟨y1, ca1, c1, B1, e1, e2⟩ := M2.bk
        obtain ⟨d1, o1⟩ := B1.ob
        have hfw := M2.few
        rw [List.length_nil] at hfw
        refine ⟨_, rfl, _, _, rfl, rfl, (by show (0 : Int) < 4; decide), rfl, _, rfl, iteI (fun _ => ?_) (fun _ => ⟨[], tb2, .inl rfl, rfl, M2⟩)⟩
        refine ⟨_, rfl, b, d1, _, rfl, o1, nfb _ _ (by decide +kernel) (by decide +kernel), _, rfl, _, rfl, b, y1, ca1, d, rule, c1, tb2, n, z1, rfl, B1, by omega, fun bb y' ca' c' H3 hca s3 B3 => ?_⟩
        refine ⟨[n], _, .inr rfl, rfl, M2.turn (js' := ns.take i) (ex' := [n]) B1 e1 e2 hca s3 B3 (fun k => ?_) (fun k hk => by rw [valT_put, if_neg (show ¬ k = n from fun e => hnn (by rw [← e]; exact hk))]; exact M2.vl k hk)⟩
        rw [mem_put, M2.ks k]
        exact ⟨fun z => z.elim (fun z => .inr (.inr (by rw [z]; simp))) fun z => z.elim .inl fun z => z.elim (fun z => .inr (.inl z)) fun z => (by cases z), fun z => z.elim (fun z => .inr (.inl z)) fun z => z.elim (fun z => .inr (.inr (.inl z))) fun z => .inl (List.mem_singleton.mp z)⟩
      rintro σ H3 ⟨ex3, tb3, hex, rfl, M3⟩
      -- one of the guests goes
      refine ⟨fun σ H4 => ∃ (gs : List Int) (tb : Tb), σ = [some (.ref b), some (.ref a), some (.ref wd), some (.ref g), some (.int z1), some (.ref lg), some (.int (i : Int)), some (.int n), none] ∧ OB C CB H H4 b ca0 d lg rule gs (ns.take i) ex3 ss W tb (i + 1), ?_, ?_⟩
      · refine ⟨_, rfl, (by show 0 ≤ sizeLine; decide), fun le hle => ?_⟩
        have Me := M3.same (same_upd (o := .lst []) hle)
        refine ⟨lg, le, _, [], rfl, rfl, SqL.of Me.gl, SqL.of upd_same, ints_plain _, rfl, _, rfl, ?_⟩
        generalize upd H3 le (.lst []) = He at Me
        cases gs2 with
        | nil => exact iteF (iteF ⟨_, _, rfl, Me⟩)
        | cons g0 gr =>
          refine iteT ?_
          refine ⟨_, rfl, _, _, rfl, rfl, (by show (0 : Int) < 3; decide), rfl, _, rfl, iteI (fun _ => ?_) (fun _ => ⟨_, _, rfl, Me⟩)⟩
          obtain ⟨y1, ca1, c1, B1, e1, e2⟩ := Me.bk
          obtain ⟨d1, o1⟩ := B1.ob
          have n0 : (0 : Int) < (((g0 :: gr).map V.int).length : Int) := by rw [List.length_map, List.length_cons]; omega
          have m1 := Int.emod_nonneg (z1 / 3) (show ((((g0 :: gr).map V.int).length : Nat) : Int) ≠ 0 by omega)
          have m2 := Int.emod_lt_of_pos (z1 / 3) n0
          obtain ⟨q, hq⟩ : ∃ q : Nat, (q : Int) = z1 / 3 % (((g0 :: gr).map V.int).length : Int) := ⟨(z1 / 3 % (((g0 :: gr).map V.int).length : Int)).toNat, by omega⟩
          have hql : q < (g0 :: gr).length := by rw [List.length_map] at m2 hq; omega
          obtain ⟨v, hv⟩ : ∃ v, (g0 :: gr)[q]? = some v := ⟨(g0 :: gr)[q], by rw [List.getElem?_eq_getElem hql]⟩
          have ep := erase_perm hv
          have hvm : v ∈ g0 :: gr := List.mem_of_getElem? hv
          have hgl := Me.few
          refine ⟨_, rfl, b, d1, _, rfl, o1, nfb _ _ (by decide +kernel) (by decide +kernel), _, rfl, .inl ⟨rfl, _, SqL.of Me.gl⟩, _, rfl, _, _, rfl, rfl, ⟨by decide, by decide⟩, _, rfl, lg, _, rfl, .inl (SqL.of Me.gl), _, _, rfl, rfl, n0, ?_⟩
          refine ⟨lg, _, (q : Int), q, .int v, rfl, (by rw [hq]), Me.gl, by omega, by omega, ?_, ?_, ?_⟩
          · rw [seqIndexL (by omega) (by rw [List.length_map]; omega)]; simp
          · rw [List.getElem?_map, hv]; rfl
          have hnd2 := List.nodup_cons.mp (ep.nodup_iff.mpr Me.nd)
          have M5 := Me.list (gs' := (g0 :: gr).eraseIdx q) (ex' := v :: ex3) (u' := i + 1) hlg (fun k => by
            have := ep.mem_iff (a := k)
            rw [List.mem_cons] at this
            rw [List.mem_cons, ← this]
            constructor
            · rintro (z | z | z | z)
              · exact .inl (.inr z)
              · exact .inr (.inl z)
              · exact .inl (.inl z)
              · exact .inr (.inr z)
            · rintro ((z | z) | z | z)
              · exact .inr (.inr (.inl z))
              · exact .inl z
              · exact .inr (.inl z)
              · exact .inr (.inr (.inr z))) hnd2.2 (fun w hw => Me.su w (List.mem_of_mem_eraseIdx hw))
          rw [← erase_map] at M5
          obtain ⟨y5, ca5, c5, B5, f1, f2⟩ := M5.bk
          refine ⟨b, y5, ca5, d, rule, c5, tb3, v, rfl, B5, (Me.ks v).mpr (.inl hvm), fun x y' ca' c' H6 hca s6 B6 => ?_⟩
          have hvn : v ∉ ns := fun z => dis v z (List.mem_of_mem_take (Me.su v hvm))
          have hve : v ∉ ex3 := by
            rcases hex with rfl | rfl
            · intro z; cases z
            · intro z; rw [List.mem_singleton.mp z] at hvn; exact hvn hnW
          refine ⟨_, _, rfl, M5.turn (js' := ns.take i) (ex' := ex3) B5 f1 f2 hca s6 B6 (fun k => ?_) (fun k hk => by rw [valT_drop (show k ≠ v from fun e => hvn (by rw [← e]; exact List.mem_of_mem_take hk))]; exact Me.vl k hk)⟩
          rw [mem_drop, M5.ks k, List.mem_cons]
          constructor
          · rintro ⟨z | z | z | z, ne⟩
            · exact .inl z
            · exact .inr (.inl z)
            · exact absurd z ne
            · exact .inr (.inr z)
          · rintro (z | z | z)
            · exact ⟨.inl z, fun e => hnd2.1 (by rw [← e]; exact z)⟩
            · exact ⟨.inr (.inl z), fun e => hvn (by rw [← e]; exact List.mem_of_mem_take z)⟩
            · exact ⟨.inr (.inr (.inr z)), fun e => hve (by rw [← e]; exact z)⟩
      rintro σ H4 ⟨gs4, tb4, rfl, M4⟩
      -- the name itself
      obtain ⟨y1, ca1, c1, B1, e1, e2⟩ := M4.bk
      obtain ⟨d1, o1⟩ := B1.ob
      have hfw := M4.few
      have hel : ex3.length ≤ 1 := by rcases hex with rfl | rfl <;> simp
      obtain ⟨wv, hwv⟩ := valT_some (hW n hnW)
      have dg := DGet.k (k := Sum.inl n) (kp M4).2.1
      rw [valV_kvs, hwv] at dg
      refine ⟨_, rfl, b, d1, _, rfl, o1, nfb _ _ (by decide +kernel) (by decide +kernel), _, rfl, _, rfl, _, rfl, wd, _, rfl, dg, b, y1, ca1, d, rule, c1, tb4, n, wv, rfl, B1, by omega, fun bb y' ca' c' H5 hca s5 B5 => ?_⟩
      refine ⟨gs4, z1, _, _, _, rfl, M4.turn (js' := ns.take (i + 1)) (ex' := []) B1 e1 e2 hca s5 B5 (fun k => ?_) (fun k hk => ?_)⟩
      · have et : ns.take (i + 1) = ns.take i ++ [n] := by rw [List.take_add_one, hz]; rfl
        rw [mem_put, M4.ks k, et]
        constructor
        · rintro (z | z | z | z)
          · exact .inr (.inl (List.mem_append_right _ (by rw [z]; simp)))
          · exact .inl z
          · exact .inr (.inl (List.mem_append_left _ z))
          · rcases hex with rfl | rfl
            · cases z
            · exact .inr (.inl (List.mem_append_right _ z))
        · rintro (z | z | z)
          · exact .inr (.inl z)
          · rcases List.mem_append.mp z with z | z
            · exact .inr (.inr (.inl z))
            · exact .inl (List.mem_singleton.mp z)
          · cases z
      · have et : ns.take (i + 1) = ns.take i ++ [n] := by rw [List.take_add_one, hz]; rfl
        rw [et] at hk
        rw [valT_put]
        by_cases e : k = n
        · rw [if_pos e, e, hwv]
        · rw [if_neg e]
          rcases List.mem_append.mp hk with z | z
          · exact M4.vl k z
          · exact absurd (List.mem_singleton.mp z) e
    rintro σ H4 ⟨gs4, z4, tb4, v6, v7, rfl, M4⟩
    rw [List.length_map, List.take_of_length_le (Nat.le_refl _)] at M4
    -- all guests go
    obtain ⟨y4, ca4, c4, B4, f1, f2⟩ := M4.bk
    refine ⟨_, rfl, lg, rfl, ⟨_, SqL.of M4.gl⟩, for_list (K := K) (a := lg) (xs := gs4.map V.int) (fun i σ H' => ∃ (tb : Tb) (y ca : Addr) (c : Lay) (v8 : Option V), σ = [some (.ref b), some (.ref a), some (.ref wd), some (.ref g), some (.int z4), some (.ref lg), v6, v7, v8] ∧ BookAt C CB H' b y ca d rule c tb ∧ (ca = ca0 ∨ H ca = none) ∧ lg ≠ ca ∧
        (∀ q o, H q = some o → q ≠ b → q ≠ ca0 → q ≠ d → H' q = some o) ∧ H' lg = some (.lst (gs4.map V.int)) ∧ (∀ k, k ∈ ky tb ↔ k ∈ gs4.drop i ∨ k ∈ ns) ∧ (∀ k ∈ ns, valT tb k = valT W k) ∧ ∀ a, H' a = none → H a = none)
      ⟨tb4, y4, ca4, c4, none, rfl, B4, f1, f2, M4.fr, M4.gl, fun k => by rw [M4.ks k, List.drop_zero]; exact ⟨fun z => z.elim .inl fun z => z.elim .inr fun z => (by cases z), fun z => z.elim .inl fun z => .inr (.inl z)⟩, M4.vl, M4.gr⟩ (fun i σ H' _ ⟨_, _, _, _, _, _, _, _, _, _, e, _⟩ => SqL.of e) ?_ ?_⟩
    · rintro i x σ H5 hi ⟨tb, y5, ca5, c5, v8, rfl, B5, h1, h2, fr, gl, ks, vl, gr⟩
      obtain ⟨v, rfl, hz⟩ := get_int hi
      have hil := (List.getElem?_eq_some_iff.mp hz).1
      have ed : gs4.drop i = v :: gs4.drop (i + 1) := by
        rw [List.drop_eq_getElem_cons hil]
        rw [List.getElem?_eq_getElem hil] at hz
        rw [Option.some.inj hz]
      have hvm : v ∈ gs4 := List.mem_of_getElem? hz
      have hvn : v ∉ ns := fun z => dis v z (List.mem_of_mem_take (M4.su v hvm))
      have hvd : v ∉ gs4.drop (i + 1) := by
        have := M4.nd.sublist (List.drop_sublist i gs4)
        rw [ed] at this
        exact (List.nodup_cons.mp this).1
      obtain ⟨d5, o5⟩ := B5.ob
      refine ⟨_, rfl, b, d5, _, rfl, o5, nfb _ _ (by decide +kernel) (by decide +kernel), _, rfl, b, y5, ca5, d, rule, c5, tb, v, rfl, B5, (ks v).mpr (.inl (by rw [ed]; exact List.mem_cons_self)), fun x y' ca' c' H6 hca s6 B6 => ?_⟩
      refine ⟨dropT tb v, y', ca', c', _, rfl, B6, ?_, ?_, fun q o e a1 a2 a3 => s6.kp q o (fr q o e a1 a2 a3) a1 ?_ a3, s6.kp _ _ gl (ne_of gl o5 (by intro z; cases z)) h2 (ne_of gl B5.dc (by intro z; cases z)), fun k => ?_, fun k hk => by rw [valT_drop (show k ≠ v from fun e => hvn (by rw [← e]; exact hk))]; exact vl k hk, fun a e => gr a (s6.gr a e)⟩
      · rcases hca with z | z
        · rw [z]; exact h1
        · exact .inr (gr _ z)
      · rcases hca with z | z
        · rw [z]; exact h2
        · exact ne_of_none gl z
      · rcases h1 with z | z
        · rw [z]; exact a2
        · exact ne_of_none e z
      · rw [mem_drop, ks k, ed, List.mem_cons]
        constructor
        · rintro ⟨(z | z) | z, ne⟩
          · exact absurd z ne
          · exact .inl z
          · exact .inr z
        · rintro (z | z)
          · exact ⟨.inl (.inr z), fun e => hvd (by rw [← e]; exact z)⟩
          · exact ⟨.inr z, fun e => hvn (by rw [← e]; exact z)⟩
    · rintro σ H5 ⟨tb, y5, ca5, c5, v8, rfl, B5, h1, h2, fr, gl, ks, vl, gr⟩
      rw [List.length_map] at ks
      exact k y5 ca5 c5 tb H5 h1 B5 (fun k => by rw [ks k, List.drop_length]; simp) vl fr

theorem paired_ix {α β : Type} {R : α → β → Prop} : ∀ {xs : List α} {ys : List β}, xs.length = ys.length → (∀ (j : Nat) (x : α) (y : β), xs[j]? = some x → ys[j]? = some y → R x y) → Paired R xs ys
  | [], [], _, _ => .nil
  | _ :: _, _ :: _, h, k => .cons (k 0 _ _ rfl rfl) (paired_ix (by simpa using h) fun j x u a b => k (j + 1) x u a b)
def cellsOf (c : Lay) (tb : Tb) : List (Option (List Int)) := c.map fun v => v.map fun n => [n, (valT tb n).getD 0]
theorem laid_cells {H : Hp} {xs : List V} {c : Lay} {tb : Tb} (h : LaidOut H xs c tb) : CellsAt H xs (cellsOf c tb) := by
  refine paired_ix (by unfold cellsOf; rw [List.length_map]; exact h.1) fun j x y hx hy => ?_
  have hj : j < c.length := by rw [← h.1]; exact (List.getElem?_eq_some_iff.mp hx).1
  unfold cellsOf at hy
  rw [List.getElem?_map, g_get hj] at hy
  have ey := Option.some.inj hy
  subst ey
  cases e : g c j with
  | none =>
    have := (h.2 j hj).1 e
    rw [hx] at this
    exact Option.some.inj this
  | some n =>
    obtain ⟨t, w, q1, q2, q3⟩ := (h.2 j hj).2 n e
    rw [hx] at q1
    refine ⟨t, Option.some.inj q1, ?_⟩
    rw [q2]
    show _ = some (HO.tup [V.int n, V.int ((valT tb n).getD 0)])
    rw [q3]
    rfl
def spTruth : Sp := fun vs H Q _ => ∃ a b : Bool, vs = [.bl a, .bl b] ∧ Q (.bl (decide (a = b))) H
theorem scLTruth : FnScope ["found", "due"] ["found", "due"] (defScope sLTruth) := ⟨rfl, rfl, rfl, by decide +kernel, rfl, by decide +kernel, by decide +kernel⟩
theorem kBB (K : PySem.W.Frag) : PySem.W.kitOne K (.type "bool") (.type "bool") = some true := by first | rfl | decide +kernel
theorem ok_ltruth {f : Addr} {fd : FuncData} (F : Fun K "_law_truth" "_law_truth" sLTruth f fd) (L : LTxt K mg) : FnOk P w K mg base CX0 1 f fd ["found", "due"] spTruth := by
  refine F.ok scLTruth (fun vs H Q E h => ?_) (fun cdv A outer s H vs Q E hr h => ?_)
  · obtain ⟨a, b, rfl, _⟩ := h
    rfl
  · obtain ⟨a, b, rfl, k⟩ := h
    refine ⟨_, pss_one (ps_ret (pe_and (pe_callB call_isinst (by rfl) L.isi PyProof.Rows.boot_isinstance (pa_cons (pv 0) (pa_cons (pe_bltn (v := .ty "bool") rfl L.bool PyProof.Rows.boot_bool rfl) pa_nil))) (pe_one (pe_cmpR op_eq (pv 0) (pv 1) (nomark _))))), ?_⟩
    refine ⟨_, rfl, _, _, _, _, rfl, .bl a, kBB K, _, rfl, iteT ?_⟩
    refine ⟨_, rfl, _, rfl, rfl, ?_⟩
    have e : decide (V.bl a = V.bl b) = decide (a = b) := by
      rw [Bool.eq_iff_iff, decide_eq_true_iff, decide_eq_true_iff]
      exact ⟨fun h => V.bl.inj h, fun h => by rw [h]⟩
    rw [e]
    exact k

def S5 : List Int := [4, 8, 16, 32, 64]
theorem szB_at {n : Nat} : ∀ {i : Nat} {q : Int}, S5[i]? = some q → (∀ a ∈ S5.take i, ¬ 4 * (n : Int) ≤ 3 * a) → 4 * (n : Int) ≤ 3 * q → ((szB n : Nat) : Int) = q
  | 0, q, e, h, l => by cases e; unfold szB; rw [if_pos (by omega)]; rfl
  | 1, q, e, h, l => by cases e; have h1 := h 4 (by decide); unfold szB; rw [if_neg (by omega), if_pos (by omega)]; rfl
  | 2, q, e, h, l => by cases e; have h1 := h 8 (by decide); unfold szB; rw [if_neg (by omega), if_neg (by omega), if_pos (by omega)]; rfl
  | 3, q, e, h, l => by cases e; have h1 := h 16 (by decide); unfold szB; rw [if_neg (by omega), if_neg (by omega), if_neg (by omega), if_pos (by omega)]; rfl
  | 4, q, e, h, l => by cases e; have h1 := h 32 (by decide); unfold szB; rw [if_neg (by omega), if_neg (by omega), if_neg (by omega), if_neg (by omega), if_pos (by omega)]; rfl
  | i + 5, q, e, h, l => by cases e
theorem szB_end {n : Nat} (h : ∀ a ∈ S5, ¬ 4 * (n : Int) ≤ 3 * a) : szB n = 128 := by
  have h1 := h 64 (by decide)
  unfold szB
  rw [if_neg (by omega), if_neg (by omega), if_neg (by omega), if_neg (by omega), if_neg (by omega)]
def spLSize : Sp := fun vs H Q _ => ∃ n : Nat, vs = [.int n] ∧ ∀ H', Same H H' → Q (.int (szB n : Nat)) H'
theorem scLSize : FnScope ["count", "size"] ["count"] (defScope sLSize) := ⟨rfl, rfl, rfl, by decide +kernel, rfl, by decide +kernel, by decide +kernel⟩
theorem ok_lsize {f : Addr} {fd : FuncData} (F : Fun K "_law_size" "_law_size" sLSize f fd) : FnOk P w K mg base CX0 1 f fd ["count"] spLSize := by
  refine F.ok scLSize (fun vs H Q E h => ?_) (fun cdv A outer s H vs Q E hr h => ?_)
  · obtain ⟨n, rfl, _⟩ := h
    rfl
  · obtain ⟨n, rfl, k⟩ := h
    refine ⟨_, (pss_cons (ps_for PassesOwn.never rfl (pi_list (pe_lst (pa_cons pe_int (pa_cons pe_int (pa_cons pe_int (pa_cons pe_int (pa_cons pe_int pa_nil))))))) (pg_name (i := 1) scLSize.nd rfl (Or.inl rfl)) (pss_one (ps_if (pt_cmpR op_le (pe_op op_mul pe_int (pv 0)) (pe_op op_mul pe_int (pv 1)) (nomark _)) (pss_one (ps_ret (pv 1))) pss_nil)))
      (pss_one (ps_ret pe_int))), ?_⟩
    refine ⟨(by show 5 ≤ sizeLine; decide), fun l hl => ?_⟩
    have s1 := same_upd (o := .lst (S5.map V.int)) hl
    have u1 : upd H l (.lst (S5.map V.int)) l = some (.lst (S5.map V.int)) := upd_same
    refine ⟨l, rfl, ⟨_, SqL.of u1⟩, for_list (K := K) (a := l) (xs := S5.map V.int) (fun i σ H' => ∃ v : Option V, σ = [some (.int (n : Int)), v] ∧ H' = upd H l (.lst (S5.map V.int)) ∧ ∀ a ∈ S5.take i, ¬ 4 * (n : Int) ≤ 3 * a)
      ⟨none, rfl, rfl, fun a ha => by cases ha⟩ (fun i σ H' _ ⟨_, _, e, _⟩ => by rw [e]; exact SqL.of u1) ?_ ?_⟩
    · rintro i x σ H' hi ⟨v, rfl, rfl, hno⟩
      obtain ⟨q, rfl, hq⟩ := get_int hi
      refine ⟨_, rfl, _, _, rfl, rfl, .inl (by decide), _, rfl, _, _, rfl, rfl, .inl (by decide), _, _, rfl, rfl, _, rfl, iteD (fun z => ?_) (fun z => ?_)⟩
      · refine ⟨_, rfl, ?_⟩
        rw [← szB_at hq hno z]
        exact k _ s1
      · refine ⟨_, rfl, rfl, fun a ha => ?_⟩
        rw [List.take_add_one, hq] at ha
        rcases List.mem_append.mp ha with ha | ha
        · exact hno a ha
        · cases List.mem_singleton.mp ha
          exact z
    · rintro σ H' ⟨v, rfl, rfl, hno⟩
      rw [List.length_map, List.take_of_length_le (Nat.le_refl _)] at hno
      have := k _ s1
      rw [szB_end hno] at this
      exact this

theorem filter_one {n : Int} {p : Int → Bool} (hp : ∀ k, p k = true ↔ k = n) : ∀ {ns : List Int}, ns.Nodup → n ∈ ns → ns.filter p = [n]
  | [], _, h => by cases h
  | a :: l, nd, h => by
    obtain ⟨h1, h2⟩ := List.nodup_cons.mp nd
    by_cases e : a = n
    · rw [List.filter_cons_of_pos ((hp a).mpr e), e, List.filter_eq_nil_iff.mpr fun k hk z => ?_]
      rw [(hp k).mp z, ← e] at hk
      exact h1 hk
    · rw [List.filter_cons_of_neg (fun z => e ((hp a).mp z))]
      rcases List.mem_cons.mp h with z | z
      · exact absurd z.symm e
      · exact filter_one hp h2 z
theorem mem_of_val {a b : Tb} {k : Int} (h : valT a k = valT b k) : k ∈ ky a ↔ k ∈ ky b := by
  rw [← Decidable.not_iff_not, ← valT_none, ← valT_none, h]
theorem perm_of_ky {a b : Tb} (na : (ky a).Nodup) (nb : (ky b).Nodup) (h : ∀ k, k ∈ ky a ↔ k ∈ ky b) : (ky a).Perm (ky b) := (List.perm_ext_iff_of_nodup na nb).mpr h
theorem len_of_ky {a b : Tb} (na : (ky a).Nodup) (nb : (ky b).Nodup) (h : ∀ k, k ∈ ky a ↔ k ∈ ky b) : a.length = b.length := by
  have := (perm_of_ky na nb h).length_eq
  rw [ky_len, ky_len] at this
  exact this
structure Du (t1 t2 : Tb) (D : List (List V)) : Prop where
  al : alikeT t1 t2 = D.isEmpty
  la : alikeT t2 t1 = D.isEmpty
  ch : ∀ ns : List Int, ns.Nodup → (∀ k, k ∈ ns ↔ k ∈ ky t1 ∨ k ∈ ky t2) → (chg t1 t2 ns).map (rowT t1 t2) = D
  ks : t2.length = t1.length → ∀ k, k ∈ ky t1 ↔ k ∈ ky t2
theorem du_none {t1 t2 : Tb} (n1 : (ky t1).Nodup) (n2 : (ky t2).Nodup) (h : ∀ k, valT t1 k = valT t2 k) : Du t1 t2 [] := by
  refine ⟨(alike_iff n1 n2).mpr h, (alike_iff n2 n1).mpr fun k => (h k).symm, fun ns _ _ => ?_, fun _ k => mem_of_val (h k)⟩
  have : chg t1 t2 ns = [] := by
    unfold chg
    rw [List.filter_eq_nil_iff]
    intro k _
    simp [h k]
  rw [this]
  rfl
theorem du_one {t1 t2 : Tb} {n : Int} (n1 : (ky t1).Nodup) (n2 : (ky t2).Nodup) (hn : n ∈ ky t1) (hne : valT t1 n ≠ valT t2 n) (hk : ∀ k, k ≠ n → valT t1 k = valT t2 k) (ks : t2.length = t1.length → ∀ k, k ∈ ky t1 ↔ k ∈ ky t2) : Du t1 t2 [rowT t1 t2 n] := by
  refine ⟨?_, ?_, fun ns nd hm => ?_, ks⟩
  · cases e : alikeT t1 t2 with
    | false => rfl
    | true => exact absurd ((alike_iff n1 n2).mp e n) hne
  · cases e : alikeT t2 t1 with
    | false => rfl
    | true => exact absurd ((alike_iff n2 n1).mp e n).symm hne
  · have : chg t1 t2 ns = [n] := filter_one (fun k => by
      rw [decide_eq_true_iff]
      exact ⟨fun z => Decidable.byContradiction fun q => z (hk k q), fun z => by rw [z]; exact hne⟩) nd ((hm n).mpr (.inl hn))
    rw [this]
    rfl
theorem du_put {t1 t2 : Tb} {n x : Int} (n1 : (ky t1).Nodup) (n2 : (ky (putT t2 n (x + 1))).Nodup) (h : ∀ k, valT t1 k = valT t2 k) (hx : valT t1 n = some x) : Du t1 (putT t2 n (x + 1)) [[.int n, .int x, .int (x + 1)]] := by
  have e : valT (putT t2 n (x + 1)) n = some (x + 1) := by rw [valT_put, if_pos rfl]
  have hn := valT_mem hx
  have hn2 : n ∈ ky t2 := (mem_of_val (h n)).mp hn
  have er : rowT t1 (putT t2 n (x + 1)) n = [.int n, .int x, .int (x + 1)] := by
    unfold rowT
    rw [hx, e]
    rfl
  rw [← er]
  refine du_one n1 n2 hn (by rw [hx, e]; intro z; have := Option.some.inj z; omega) (fun k q => by rw [valT_put, if_neg q]; exact h k) fun _ k => ?_
  rw [ky_put_in _ hn2]
  exact mem_of_val (h k)
theorem du_drop {t1 t2 : Tb} {n x : Int} (n1 : (ky t1).Nodup) (n2 : (ky t2).Nodup) (n3 : (ky (dropT t2 n)).Nodup) (h : ∀ k, valT t1 k = valT t2 k) (hx : valT t1 n = some x) : Du t1 (dropT t2 n) [[.int n, .int x, .non]] ∧ (dropT t2 n).length + 1 = t1.length := by
  have e : valT (dropT t2 n) n = none := valT_none.mpr fun z => (mem_drop.mp z).2 rfl
  have hn := valT_mem hx
  have hl : (dropT t2 n).length + 1 = t1.length := by
    rw [len_drop n2 ((mem_of_val (h n)).mp hn)]
    exact (len_of_ky n1 n2 fun k => mem_of_val (h k)).symm
  have er : rowT t1 (dropT t2 n) n = [.int n, .int x, .non] := by
    unfold rowT
    rw [hx, e]
    rfl
  rw [← er]
  exact ⟨du_one n1 n3 hn (by rw [hx, e]; intro z; cases z) (fun k q => by rw [valT_drop q]; exact h k) fun z => absurd z (by omega), hl⟩
theorem cells_val {c1 c2 : Lay} {t1 t2 : Tb} (p1 : (nm c1).Perm (ky t1)) (p2 : (nm c2).Perm (ky t2)) (h : cellsOf c1 t1 = cellsOf c2 t2) {k : Int} (hk : k ∈ ky t1) : valT t1 k = valT t2 k := by
  obtain ⟨p, hp⟩ := mem_nm.mp (p1.mem_iff.mpr hk)
  have e1 : (cellsOf c1 t1)[p]? = some (some [k, (valT t1 k).getD 0]) := by
    unfold cellsOf
    rw [List.getElem?_map, g_get (g_lt hp), hp]
    rfl
  rw [h] at e1
  unfold cellsOf at e1
  rw [List.getElem?_map] at e1
  cases e2 : c2[p]? with
  | none => rw [e2] at e1; cases e1
  | some v =>
    rw [e2] at e1
    cases v with
    | none => cases e1
    | some k' =>
      have e3 : [k', (valT t2 k').getD 0] = [k, (valT t1 k).getD 0] := Option.some.inj (Option.some.inj e1)
      injection e3 with e4 e5
      injection e5 with e6 _
      subst e4
      have h2 : k' ∈ ky t2 := p2.mem_iff.mp (mem_nm.mpr ⟨p, by unfold g; rw [e2]; rfl⟩)
      obtain ⟨x, hx⟩ := valT_some hk
      obtain ⟨y, hy⟩ := valT_some h2
      rw [hx, hy] at e6 ⊢
      exact congrArg some e6.symm
theorem cells_alike {c1 c2 : Lay} {t1 t2 : Tb} {rule : Int} (hr : rule ≠ 0) (n1 : (ky t1).Nodup) (n2 : (ky t2).Nodup) (p1 : (nm c1).Perm (ky t1)) (p2 : (nm c2).Perm (ky t2)) (R1 : Right (szB t1.length) rule c1) (R2 : Right (szB t2.length) rule c2) : decide (cellsOf c1 t1 = cellsOf c2 t2) = alikeT t1 t2 := by
  rw [Bool.eq_iff_iff, alike_iff n1 n2, decide_eq_true_iff]
  constructor
  · intro h k
    by_cases z : k ∈ ky t1
    · exact cells_val p1 p2 h z
    · by_cases q : k ∈ ky t2
      · exact (cells_val p2 p1 h.symm q).symm
      · rw [valT_none.mpr z, valT_none.mpr q]
  · intro h
    have hk : ∀ k, k ∈ ky t1 ↔ k ∈ ky t2 := fun k => mem_of_val (h k)
    rw [← len_of_ky n1 n2 hk] at R2
    have ec : c1 = c2 := right_unique (by have := szB_ge t1.length; omega) hr R1 R2 fun k => by rw [p1.mem_iff, p2.mem_iff]; exact hk k
    rw [ec]
    unfold cellsOf
    refine List.map_congr_left fun v _ => ?_
    cases v with
    | none => rfl
    | some n =>
      show some [n, (valT t1 n).getD 0] = some [n, (valT t2 n).getD 0]
      rw [h n]
theorem taken_same {m : Nat} {rule rule' : Int} {c c' : Lay} (hm : 0 < m) (R : Right m rule c) (R' : Right m rule' c') (hs : (nm c).Perm (nm c')) : (c.map fun v => v.isSome) = c'.map fun v => v.isSome := by
  have l1 := R.len
  have l2 := R'.len
  refine List.ext_getElem (by rw [List.length_map, List.length_map, l1, l2]) fun i h1 h2 => ?_
  rw [List.length_map] at h1 h2
  rw [List.getElem_map, List.getElem_map]
  have e1 : c[i] = g c i := by have := g_get h1; rw [List.getElem?_eq_getElem h1] at this; exact Option.some.inj this
  have e2 : c'[i] = g c' i := by have := g_get h2; rw [List.getElem?_eq_getElem h2] at this; exact Option.some.inj this
  rw [e1, e2]
  have hi : i < m := by omega
  have d1 : g c i = none → g c' i = none := free_same hm R R' (nm_same_of_perm hs) hi
  have d2 : g c' i = none → g c i = none := free_same hm R' R (nm_same_of_perm hs.symm) hi
  cases x : g c i with
  | none => rw [d1 x]
  | some a =>
    cases y : g c' i with
    | none => rw [d2 y] at x; cases x
    | some b => rfl
theorem taken_alike {c1 c2 : Lay} {t1 t2 : Tb} {rule : Int} (n1 : (ky t1).Nodup) (n2 : (ky t2).Nodup) (p1 : (nm c1).Perm (ky t1)) (p2 : (nm c2).Perm (ky t2)) (R1 : Right (szB t1.length) rule c1) (R2 : Right (szB t2.length) rule c2) (hk : ∀ k, k ∈ ky t1 ↔ k ∈ ky t2) : (c1.map fun v => v.isSome) = c2.map fun v => v.isSome := by
  rw [← len_of_ky n1 n2 hk] at R2
  exact taken_same (by have := szB_ge t1.length; omega) R1 R2 ((p1.trans (perm_of_ky n1 n2 hk)).trans p2.symm)

def spLaw (K : PySem.W.Frag) : Sp := fun vs H Q _ => ∃ (a : Addr) (ns : List Int), vs = [.ref a] ∧ SqL K H a (ns.map V.int) ∧ ns.length ≤ 63 ∧ ∀ H', Q (.bl true) H'

theorem laid_same {H H' : Hp} {xs : List V} {c : Lay} {tb : Tb} (h : LaidOut H xs c tb) (s : Same H H') : LaidOut H' xs c tb := ⟨h.1, fun i hi => ⟨(h.2 i hi).1, fun n hn => by
  obtain ⟨t, x, q1, q2, q3⟩ := (h.2 i hi).2 n hn
  exact ⟨t, x, q1, s _ _ q2, q3⟩⟩⟩
structure O11 (C CB : Addr) (H H' : Hp) (b y ca d : Addr) (rule : Int) (c : Lay) (tb : Tb) : Prop where
  bk : BookAt C CB H' b y ca d rule c tb
  s : Same H H'
  fb : H b = none
  fc : H ca = none
  fd : H d = none
theorem O11.same {C CB : Addr} {H H1 H2 : Hp} {b y ca d : Addr} {rule : Int} {c : Lay} {tb : Tb} (X : O11 C CB H H1 b y ca d rule c tb) (s : Same H1 H2) : O11 C CB H H2 b y ca d rule c tb := ⟨X.bk.same s, X.s.trans s, X.fb, X.fc, X.fd⟩
theorem O11.turn {C CB : Addr} {H H1 H2 : Hp} {b y ca d y' ca' : Addr} {rule : Int} {c c' : Lay} {tb tb' : Tb} (X : O11 C CB H H1 b y ca d rule c tb) (hca : ca' = ca ∨ H1 ca' = none) (kp : ∀ a o, H1 a = some o → a ≠ b → a ≠ ca → a ≠ d → H2 a = some o) (B : BookAt C CB H2 b y' ca' d rule c' tb') : O11 C CB H H2 b y' ca' d rule c' tb' := by
  refine ⟨B, fun a o e => kp a o (X.s a o e) (ne_of_none e X.fb) (ne_of_none e X.fc) (ne_of_none e X.fd), X.fb, ?_, X.fd⟩
  rcases hca with z | z
  · rw [z]; exact X.fc
  · exact X.s.free z
structure A11 (C CB : Addr) (H H' : Hp) (b y ca d wd : Addr) (rule : Int) (c : Lay) (tb : Tb) : Prop where
  o : O11 C CB H H' b y ca d rule c tb
  wo : H' wd = some (.dK (kvs tb))
  n2 : wd ≠ d
  fw : H wd = none
theorem A11.same {C CB : Addr} {H H1 H2 : Hp} {b y ca d wd : Addr} {rule : Int} {c : Lay} {tb : Tb} (X : A11 C CB H H1 b y ca d wd rule c tb) (s : Same H1 H2) : A11 C CB H H2 b y ca d wd rule c tb := ⟨X.o.same s, s _ _ X.wo, X.n2, X.fw⟩
theorem A11.ahead {C CB : Addr} {H H1 : Hp} {b y ca d wd : Addr} {rule : Int} {c : Lay} {tb : Tb} (X : A11 C CB H H1 b y ca d wd rule c tb) (o : HO) : BookAt C CB (upd H1 wd o) b y ca d rule c tb := by
  obtain ⟨dx, hb⟩ := X.o.bk.ob
  obtain ⟨dy, hy⟩ := X.o.bk.yd.ob
  refine X.o.bk.turnB fun a o e h => ?_
  rw [upd_ne]
  · exact e
  · rcases h with rfl | rfl | rfl | rfl
    · exact ne_of hb X.wo (by intro z; cases z)
    · exact ne_of hy X.wo (by intro z; cases z)
    · exact ne_of X.o.bk.yd.ls X.wo (by intro z; cases z)
    · exact X.n2.symm
theorem A11.step {C CB : Addr} {H H1 H2 : Hp} {b y ca d wd y' ca' : Addr} {rule n x : Int} {c c' : Lay} {tb : Tb} (X : A11 C CB H H1 b y ca d wd rule c tb) (hca : ca' = ca ∨ upd H1 wd (.dK (putK (kvs tb) (Sum.inl n) (.int x))) ca' = none) (s : SameB b ca d (upd H1 wd (.dK (putK (kvs tb) (Sum.inl n) (.int x)))) H2)
    (B : BookAt C CB H2 b y' ca' d rule c' (putT tb n x)) : A11 C CB H H2 b y' ca' d wd rule c' (putT tb n x) := by
  obtain ⟨dx, hb⟩ := X.o.bk.ob
  refine ⟨⟨B, fun a o e => s.kp a o (by rw [upd_ne (ne_of_none e X.fw)]; exact X.o.s a o e) (ne_of_none e X.o.fb) (ne_of_none e X.o.fc) (ne_of_none e X.o.fd), X.o.fb, ?_, X.o.fd⟩, s.kp _ _ (by rw [upd_same, kvs_put]) (ne_of X.wo hb (by intro z; cases z)) (ne_of X.wo X.o.bk.yd.ls (by intro z; cases z)) X.n2, X.n2, X.fw⟩
  rcases hca with z | z
  · rw [z]; exact X.o.fc
  · exact X.o.s.free (upd_gr z)
theorem isEmpty_due {t1 t2 : Tb} {D : List (List V)} {H : Hp} {ts : List Addr} (du : Du t1 t2 D) (tp : TupsP H ts D) : (ts.map V.ref).isEmpty = alikeT t1 t2 := by
  rw [du.al, Bool.eq_iff_iff, List.isEmpty_iff, List.isEmpty_iff]
  have e := Paired.length tp
  constructor
  · intro z
    have z2 := congrArg List.length z
    rw [List.length_map, List.length_nil] at z2
    exact List.length_eq_zero_iff.mp (by omega)
  · intro z
    rw [z, List.length_nil] at e
    rw [List.length_eq_zero_iff.mp e]
    rfl
theorem scLaw : FnScope ["script", "rule", "bound", "worths", "one", "at", "cell", "name", "names", "strangers", "other", "order", "due", "count"] ["script"] (defScope sLaw) := ⟨rfl, rfl, rfl, by decide +kernel, rfl, by decide +kernel, by decide +kernel⟩
set_option maxHeartbeats 8000000 in
theorem ok_law {f C CB fB aS : Addr} {fd fdB : FuncData} (F : Fun K "law" "law" sLaw f fd) (T : BTxt K mg CB aS) (L : LTxt K mg) (Le : mg "enumerate" = none) (MB : Mk K CB fB) (bB : Binds K fdB ["self", "rule"] []) (mgB : mg "Book" = some (.ref CB)) (GBI : FnOk P w K mg base CX0 4 fB fdB ["self", "rule"] (spBInit C CB))
    (GCe : FnG P w K mg base "_law_cell" ["script", "k"] 1 (spCell K)) (GMx : FnG P w K mg base "_law_mixed" ["cell", "row"] 1 (spMixed K)) (GOt : FnG P w K mg base "_law_other_way" ["book", "names", "worths", "strangers", "cell"] 12 (spBOther C CB)) (GSz : FnG P w K mg base "_law_size" ["count"] 1 spLSize) (GTk : FnG P w K mg base "_law_taken" ["book"] 3 (spBTaken C CB)) (GTr : FnG P w K mg base "_law_truth" ["found", "due"] 1 spTruth)
    (GWr : MtX P w K mg base CB "write" ["self", "name", "worth"] 11 (spWr C CB)) (GDr : MtX P w K mg base CB "drop" ["self", "name"] 10 (spDr C CB)) (GBL : MtG P w K mg base CB "layout" ["self"] 2 (spBLayout C CB))
    (GCh : FnG P w K mg base "changes" ["one", "other"] 2 (spChanges C CB)) (GAl : FnG P w K mg base "alike" ["one", "other"] 1 (spAlike C CB)) : FnOk P w K mg base CX0 13 f fd ["script"] (spLaw K) := by
  refine F.ok scLaw (fun vs H Q E h => ?_) (fun cdv A outer s H vs Q E hr h => ?_)
  · obtain ⟨a, ns, rfl, _⟩ := h
    rfl
  · obtain ⟨sa, ns, rfl, hS, hlen, k⟩ := h
    have hu := hu_of hr
    have hr1 : Room 1 _ := hr.mono (by decide)
    have hr2 : Room 2 _ := hr.mono (by decide)
    have hr3 : Room 3 _ := hr.mono (by decide)
    have hr5 : Room 5 _ := hr.mono (by decide)
    have hr10 : Room 10 _ := hr.mono (by decide)
    have hr11 : Room 11 _ := hr.mono (by decide)
    have szl : sizeLine ≥ 1000 := by decide
    have nfb : ∀ {x : Str} (y d : Addr), ¬ x = "yard" → ¬ x = "worths" → (bflds y d).lookup x = none := fun y d a b => bf_no y d a b
    refine ⟨_, (pss_cons (ps_set (i := 1) scLaw.nd rfl (Or.inl rfl) (pe_op op_mod (pe_fn GCe hr1 (pa_cons (pv 0) (pa_cons pe_int pa_nil))) pe_int))
      (pss_cons (ps_set (i := 2) scLaw.nd rfl (Or.inl rfl) pe_int)
      (pss_mid (ps_if (pt_cmpR op_eq (pe_op op_mod (pe_op op_fdiv (pe_fn GCe hr1 (pa_cons (pv 0) (pa_cons pe_int pa_nil))) pe_int) pe_int) pe_int (nomark _)) (pss_one (ps_set (i := 2) scLaw.nd rfl (Or.inl rfl) (pe_op op_pow pe_int pe_int))) pss_nil)
      (pss_cons (ps_set (i := 3) scLaw.nd rfl (Or.inl rfl) pe_dnewK)
      (pss_cons (ps_set (i := 4) scLaw.nd rfl (Or.inl rfl) (pe_make MB GBI hr5 rfl mgB bB .nil pass0 (pa_cons (pv 1) pa_nil)))
      (pss_cons (ps_for PassesOwn.never rfl (pi_enum rfl Le (pa_cons (pe_slice sl_list (pv 0) (po_some pe_int) (po_some pe_int)) pa_nil)) (pg_tup rfl (pgs_cons (pg_name (i := 5) scLaw.nd rfl (Or.inl rfl)) (pgs_cons (pg_name (i := 6) scLaw.nd rfl (Or.inl rfl)) pgs_nil))) (pss_cons (ps_set (i := 7) scLaw.nd rfl (Or.inl rfl) (pe_op op_mod (pe_op op_fdiv (pv 6) pe_int) (pv 2)))
      (pss_one (ps_if (pt_cmp (pc_dnotin hu (pv 7) (pv 3))) (pss_cons (ps_dput hu (pv 3) (pv 7) (pe_op op_add (pe_op op_sub (pe_op op_mod (pv 6) (pe_op op_pow pe_int pe_int)) (pe_op op_pow pe_int pe_int)) (pv 5)) rfl)
      (pss_one (ps_expr (pe_mtX T.cl GWr hr11 passF (pv 4) (pa_cons (pv 7) (pa_cons (pe_dget hu (pv 3) (pv 7) (fun _ _ => rfl)) pa_nil)))))) pss_nil))))
      (pss_cons (ps_set (i := 8) scLaw.nd rfl (Or.inl rfl) (pe_callTy (call_listD (by rfl)) (by rfl) L.list PyProof.Rows.boot_list (pa_cons (pv 3) pa_nil)))
      (pss_cons (ps_set (i := 9) scLaw.nd rfl (Or.inl rfl) (pe_lst pa_nil))
      (pss_cons (ps_for PassesOwn.never rfl (pi_list (pe_slice sl_list (pv 0) (po_some pe_int) (po_some pe_int))) (pg_name (i := 6) scLaw.nd rfl (Or.inl rfl)) (pss_one (ps_if (PW.pt (pw_and (pt_cmp (pc_dnotin hu (pe_op op_mod (pv 6) (pv 2)) (pv 3))) (pw_and1 (pt_cmpR op_notIn_seq (pe_op op_mod (pv 6) (pv 2)) (pv 9) (by with_unfolding_all rfl)))))
          (pss_one (ps_expr (pe_bm PySem.F.plainAttrs_list PySem.F.slot_list_append PySem.F.type_list_append mt_append (pv 9) (pa_cons (pe_op op_mod (pv 6) (pv 2)) pa_nil)))) pss_nil)))
      (pss_cons (ps_set (i := 10) scLaw.nd rfl (Or.inl rfl) (pe_make MB GBI hr5 rfl mgB bB .nil pass0 (pa_cons (pv 1) pa_nil)))
      (pss_cons (ps_set (i := 11) scLaw.nd rfl (Or.inl rfl) (pe_fn GMx hr1 (pa_cons (pe_op op_mod (pe_fn GCe hr1 (pa_cons (pv 0) (pa_cons pe_int pa_nil))) (pe_op op_pow pe_int pe_int)) (pa_cons (pv 8) pa_nil))))
      (pss_cons (ps_expr (pe_fn GOt hr (pa_cons (pv 10) (pa_cons (pv 11) (pa_cons (pv 3) (pa_cons (pv 9) (pa_cons (pe_op op_mod (pe_fn GCe hr1 (pa_cons (pv 0) (pa_cons pe_int pa_nil))) (pe_op op_pow pe_int pe_int)) pa_nil)))))))
      (pss_cons (ps_set (i := 12) scLaw.nd rfl (Or.inl rfl) (pe_lst pa_nil))
      (pss_cons (ps_set (i := 13) scLaw.nd rfl (Or.inl rfl) (pe_callB call_len_seq (by rfl) L.len PySem.boot_len (pa_cons (pv 8) pa_nil)))
      (pss_mid (ps_if (PW.pt (pw_and (pt_cmpR op_eq (pe_op op_mod (pe_fn GCe hr1 (pa_cons (pv 0) (pa_cons pe_int pa_nil))) pe_int) pe_int (nomark _)) (pw_and1 (pt_cmpR op_gt (pv 13) pe_int (nomark _)))))
        (pss_cons (ps_set (i := 7) scLaw.nd rfl (Or.inl rfl) (pe_ix ix_list (pv 8) (pe_op op_mod (pe_op op_fdiv (pe_fn GCe hr1 (pa_cons (pv 0) (pa_cons pe_int pa_nil))) pe_int) (pv 13)) (fun _ _ => rfl)))
      (pss_cons (ps_expr (pe_mtX T.cl GWr hr11 passF (pv 10) (pa_cons (pv 7) (pa_cons (pe_op op_add (pe_dget hu (pv 3) (pv 7) (fun _ _ => rfl)) pe_int) pa_nil))))
      (pss_one (ps_set (i := 12) scLaw.nd rfl (Or.inl rfl) (pe_lst (pa_cons (pe_tup (pa_cons (pv 7) (pa_cons (pe_dget hu (pv 3) (pv 7) (fun _ _ => rfl)) (pa_cons (pe_op op_add (pe_dget hu (pv 3) (pv 7) (fun _ _ => rfl)) pe_int) pa_nil)))) pa_nil)))))) pss_nil)
      (pss_mid (ps_if (PW.pt (pw_and (pt_cmpR op_eq (pe_op op_mod (pe_fn GCe hr1 (pa_cons (pv 0) (pa_cons pe_int pa_nil))) pe_int) pe_int (nomark _)) (pw_and1 (pt_cmpR op_gt (pv 13) pe_int (nomark _)))))
        (pss_cons (ps_set (i := 7) scLaw.nd rfl (Or.inl rfl) (pe_ix ix_list (pv 8) (pe_op op_mod (pe_op op_fdiv (pe_fn GCe hr1 (pa_cons (pv 0) (pa_cons pe_int pa_nil))) pe_int) (pv 13)) (fun _ _ => rfl)))
      (pss_cons (ps_expr (pe_mtX T.cl GDr hr10 passF (pv 10) (pa_cons (pv 7) pa_nil)))
      (pss_cons (ps_set (i := 12) scLaw.nd rfl (Or.inl rfl) (pe_lst (pa_cons (pe_tup (pa_cons (pv 7) (pa_cons (pe_dget hu (pv 3) (pv 7) (fun _ _ => rfl)) (pa_cons pe_non pa_nil)))) pa_nil)))
      (pss_one (ps_set (i := 13) scLaw.nd rfl (Or.inl rfl) (pe_op op_sub (pv 13) pe_int)))))) pss_nil)
      (pss_cons (ps_if (PW.pt (pw_or (pt_cmpR op_ne (pe_callB call_len_seq (by rfl) L.len PySem.boot_len (pa_cons (pe_mt0 T.cl GBL hr2 (pv 4)) pa_nil)) (pe_fn GSz hr1 (pa_cons (pe_callB call_len_seq (by rfl) L.len PySem.boot_len (pa_cons (pv 8) pa_nil)) pa_nil)) (nomark _)) (pw_or1 (pt_cmpR op_ne (pe_callB call_len_seq (by rfl) L.len PySem.boot_len (pa_cons (pe_mt0 T.cl GBL hr2 (pv 10)) pa_nil)) (pe_fn GSz hr1 (pa_cons (pv 13) pa_nil)) (nomark _))))) (pss_one (ps_ret pe_bl)) pss_nil)
      (pss_mid (ps_if (PW.pt (pw_and (pt_cmpR op_gt (pv 1) pe_int (nomark _)) (pw_and1 (pt_cmpR op_ne (pe_cmpR (op_eqC hu) (pe_mt0 T.cl GBL hr2 (pv 4)) (pe_mt0 T.cl GBL hr2 (pv 10)) (nomark _)) (pe_cmpR (op_eqNil (Nat.lt_of_succ_lt hu)) (pv 12) (pe_lst pa_nil) (nomark _)) (nomark _))))) (pss_one (ps_ret pe_bl)) pss_nil)
      (pss_cons (ps_if (PW.pt (pw_or (PW.pt (pw_and (pt_cmpR op_eq (pv 13) (pe_callB call_len_seq (by rfl) L.len PySem.boot_len (pa_cons (pv 8) pa_nil)) (nomark _)) (pw_and1 (pt_cmpR (op_neB (Nat.lt_of_succ_lt hu)) (pe_fn GTk hr3 (pa_cons (pv 4) pa_nil)) (pe_fn GTk hr3 (pa_cons (pv 10) pa_nil)) (nomark _))))) (pw_or1 (pt_cmpR (op_neTP hu) (pe_fn GCh hr2 (pa_cons (pv 4) (pa_cons (pv 10) pa_nil))) (pv 12) (nomark _))))) (pss_one (ps_ret pe_bl)) pss_nil)
      (pss_one (ps_ret (pe_and (pe_fn GTr hr1 (pa_cons (pe_fn GAl hr1 (pa_cons (pv 4) (pa_cons (pv 10) pa_nil))) (pa_cons (pe_cmpR (op_eqNil (Nat.lt_of_succ_lt hu)) (pv 12) (pe_lst pa_nil) (nomark _)) pa_nil))) (pe_one (pe_fn GTr hr1 (pa_cons (pe_fn GAl hr1 (pa_cons (pv 10) (pa_cons (pv 4) pa_nil))) (pa_cons (pe_cmpR (op_eqNil (Nat.lt_of_succ_lt hu)) (pv 12) (pe_lst pa_nil) (nomark _)) pa_nil)))))))))))))))))))))))))), ?_⟩
    -- the rule, the bound
    refine ⟨_, rfl, sa, ns, 0, rfl, hS, _, _, rfl, rfl, (by show (0 : Int) < 3; decide), ?_⟩
    obtain ⟨rule, hrule⟩ : ∃ r : Int, ns.getD 0 0 % 3 = r := ⟨_, rfl⟩
    have r0 : 0 ≤ rule := by omega
    have r2 : rule ≤ 2 := by omega
    show gName 1 (V.int (ns.getD 0 0 % 3)) _ _ _
    rw [hrule]
    refine ⟨fun σ H' => ∃ bd : Int, 0 < bd ∧ σ = [some (.ref sa), some (.int rule), some (.int bd), none, none, none, none, none, none, none, none, none, none, none] ∧ H' = H, ?_, ?_⟩
    · refine ⟨_, rfl, sa, ns, 0, rfl, hS, _, _, rfl, rfl, ⟨by decide, by decide⟩, _, _, rfl, rfl, (by show (0 : Int) < 3; decide), rfl, _, rfl, iteI (fun _ => ?_) (fun _ => ⟨60, by decide, rfl, rfl⟩)⟩
      exact ⟨_, _, rfl, rfl, ⟨by decide, by decide, by decide⟩, _, by decide, rfl, rfl⟩
    rintro σ H' ⟨bd, hbd, rfl, eH⟩
    subst H'
    -- the table, the first book
    refine fun wd hw => ?_
    have sw := same_upd (o := .dK []) hw
    have gw : upd H wd (.dK []) wd = some (.dK (kvs [])) := upd_same
    generalize upd H wd (.dK []) = H0 at sw gw
    refine ⟨_, rfl, fun b dx nb ndx nex => ⟨b, dx, rule, rfl, r0, r2, upd_same, fun y ca d H1 ny nca nd B1 kp1 => ⟨rfl, ?_⟩⟩⟩
    have s1 : Same H0 H1 := fun a o e => kp1 a o (by rw [upd_ne (ne_of_none e nb), upd_ne (ne_of_none e ndx)]; exact e) (ne_of_none e nb)
    have X0 : A11 C CB H H1 b y ca d wd rule (List.replicate 4 none) [] := ⟨⟨B1, sw.trans s1, sw.free nb, sw.free (upd_gr (upd_gr nca)), sw.free (upd_gr (upd_gr nd))⟩, s1 _ _ gw, ne_of_none gw (upd_gr (upd_gr nd)), hw⟩
    refine ⟨_, rfl, _, rfl, _, rfl, sa, _, rfl, X0.o.s.seq hS, fun lc hlc => ?_⟩
    obtain ⟨zs, ezs, hzs⟩ := cut_int ns 4 44
    rw [show cutV (ns.map V.int) (some 4) (some 44) = zs.map V.int from ezs]
    refine ⟨lc, rfl, ⟨_, SqL.of upd_same⟩, for_enum (K := K) (a := lc) (xs := zs.map V.int) (fun i σ H' => ∃ (y ca : Addr) (c : Lay) (tb : Tb) (v5 v6 v7 : Option V), σ = [some (.ref sa), some (.int rule), some (.int bd), some (.ref wd), some (.ref b), v5, v6, v7, none, none, none, none, none, none] ∧ A11 C CB H H' b y ca d wd rule c tb ∧ H' lc = some (.lst (zs.map V.int)) ∧ lc ≠ ca ∧ tb.length ≤ i)
      ⟨y, ca, _, _, none, none, none, rfl, X0.same (same_upd (o := .lst (zs.map V.int)) hlc), upd_same, (ne_of_none X0.o.bk.yd.ls hlc).symm, Nat.le_refl _⟩ (fun i σ H' _ ⟨_, _, _, _, _, _, _, _, _, e, _⟩ => SqL.of e) ?_ ?_⟩
    · rintro i x σ H4 t hi ⟨y, ca, c, tb, v5, v6, v7, rfl, X, hl, nl, hti⟩ ht
      obtain ⟨cell, rfl, hz⟩ := get_int hi
      have hil := (List.getElem?_eq_some_iff.mp hz).1
      have st := same_upd (o := .tup [.int (i : Nat), .int cell]) ht
      have X1 := X.same st
      have hl1 := st _ _ hl
      refine ⟨t, _, rfl, SqT.of upd_same, rfl, _, _, rfl, _, _, rfl, rfl, ?_⟩
      generalize upd H4 t (.tup [.int (i : Nat), .int cell]) = H5 at X1 hl1
      refine ⟨_, rfl, _, _, rfl, rfl, ⟨by decide, by decide⟩, _, rfl, _, _, rfl, rfl, hbd, ?_⟩
      obtain ⟨n, hn⟩ : ∃ n : Int, cell / 3 % bd = n := ⟨_, rfl⟩
      show gName 7 (V.int (cell / 3 % bd)) _ _ _
      rw [hn]
      refine ⟨_, rfl, _, rfl, wd, _, rfl, DGet.k (k := Sum.inl n) X1.wo, ?_⟩
      rw [isSome_valT]
      refine ⟨_, rfl, iteND (fun hin => ?_) (fun _ => ⟨y, ca, c, tb, _, _, _, rfl, X1, hl1, nl, by omega⟩)⟩
      obtain ⟨dx1, hb1⟩ := X1.o.bk.ob
      have dgx : ∀ x : Int, DGet (upd H5 wd (.dK (putK (kvs tb) (Sum.inl n) (.int x)))) wd (.int n) (some (.int x)) := fun x => by
        have := DGet.k (k := Sum.inl n) (show upd H5 wd (.dK (putK (kvs tb) (Sum.inl n) (.int x))) wd = some (.dK (kvs (putT tb n x))) by rw [upd_same, kvs_put])
        rw [valV_kvs, valT_put, if_pos rfl] at this
        exact this
      have obx : ∀ o : HO, upd H5 wd o b = some (.ins CB dx1 (bflds y d)) := fun o => by
        rw [upd_ne (ne_of hb1 X1.wo (by intro z; cases z))]; exact hb1
      have hlx : ∀ o : HO, upd H5 wd o lc = some (.lst (zs.map V.int)) := fun o => by
        rw [upd_ne (ne_of hl1 X1.wo (by intro z; cases z))]; exact hl1
      have h96 : tb.length < 96 := by omega
      refine ⟨_, rfl, _, _, rfl, rfl, ⟨by decide, by decide, by decide⟩, _, _, rfl, rfl, (by show (0 : Int) < 10 ^ (20 : Int).toNat; decide), _, _, rfl, rfl, ⟨by decide, by decide, by decide⟩, _, _, rfl, rfl, _, rfl, _, _, rfl, rfl, _, rfl, _, rfl, wd, _, rfl, DPut.k (k := Sum.inl n) X1.wo (by rw [kvs_len]; omega), ?_⟩
      refine ⟨_, rfl, b, dx1, _, rfl, obx _, nfb _ _ (by decide +kernel) (by decide +kernel), _, rfl, _, rfl, _, rfl, wd, _, rfl, dgx _, b, y, ca, d, rule, c, tb, n, _, rfl, X1.ahead _, h96, fun bb y' ca' c' H6 hca s6 B6 => ?_⟩
      refine ⟨y', ca', c', _, _, _, _, rfl, X1.step hca s6 B6, s6.kp _ _ (hlx _) (ne_of hl1 hb1 (by intro z; cases z)) nl (ne_of hl1 X1.o.bk.dc (by intro z; cases z)), ?_, ?_⟩
      · rcases hca with z | z
        · rw [z]; exact nl
        · exact ne_of_none (hlx _) z
      · rw [len_put_new _ hin]; omega
    rintro σ H4 ⟨y, ca, c, tb, v5, v6, v7, rfl, X, _, _, hti⟩
    rw [List.length_map] at hti
    have h40 : tb.length ≤ 40 := by omega
    -- the names
    refine ⟨_, rfl, wd, kvs tb, ky tb, rfl, X.wo, kvs_keys tb, fun ln hln => ?_⟩
    have XN := X.same (same_upd (o := .lst ((ky tb).map V.int)) hln)
    have gN : upd H4 ln (.lst ((ky tb).map V.int)) ln = some (.lst ((ky tb).map V.int)) := upd_same
    generalize upd H4 ln (.lst ((ky tb).map V.int)) = HN at XN gN
    -- the strangers
    refine ⟨(by show 0 ≤ sizeLine; decide), fun ls hls => ?_⟩
    have sL := same_upd (o := .lst []) hls
    refine ⟨_, rfl, _, rfl, _, rfl, sa, _, rfl, (XN.o.s.trans sL).seq hS, fun lq hlq => ?_⟩
    obtain ⟨qs, eqs, hqs⟩ := cut_int ns 44 63
    rw [show cutV (ns.map V.int) (some 44) (some 63) = qs.map V.int from eqs]
    have nlq : ls ≠ lq := fun z => by subst z; rw [upd_same] at hlq; cases hlq
    refine ⟨lq, rfl, ⟨_, SqL.of upd_same⟩, for_list (K := K) (a := lq) (xs := qs.map V.int) (fun i σ H' => ∃ (ss : List Int) (v6 : Option V), σ = [some (.ref sa), some (.int rule), some (.int bd), some (.ref wd), some (.ref b), v5, v6, v7, some (.ref ln), some (.ref ls), none, none, none, none] ∧ Same HN H' ∧ H' ls = some (.lst (ss.map V.int)) ∧ H' lq = some (.lst (qs.map V.int)) ∧ ss.Nodup ∧ (∀ k ∈ ss, k ∉ ky tb) ∧ ss.length ≤ i)
      ⟨[], v6, rfl, sL.trans (same_upd hlq), by rw [upd_ne nlq, upd_same]; rfl, upd_same, List.nodup_nil, (fun k h => by cases h), Nat.le_refl _⟩ (fun i σ H' _ ⟨_, _, _, _, _, e, _⟩ => SqL.of e) ?_ ?_⟩
    · rintro i x σ H5 hi ⟨ss, v6, rfl, s5, gs, gq, nds, dis, hsi⟩
      obtain ⟨cell, rfl, hz⟩ := get_int hi
      have hil := (List.getElem?_eq_some_iff.mp hz).1
      refine ⟨_, rfl, _, rfl, _, _, rfl, rfl, hbd, _, rfl, wd, _, rfl, DGet.k (k := Sum.inl (cell % bd)) (s5 _ _ XN.wo), ?_⟩
      rw [isSome_valT]
      refine ⟨_, rfl, iteND (fun h1 => ?_) (fun _ => iteF ⟨ss, _, rfl, s5, gs, gq, nds, dis, by omega⟩)⟩
      refine ⟨_, rfl, _, rfl, _, _, rfl, rfl, hbd, _, rfl, ls, _, rfl, .inl (SqL.of gs), rfl, ints_flat _, _, rfl, ?_⟩
      rw [show (if true = true then !inV (V.int (cell % bd)) (ss.map V.int) else inV (V.int (cell % bd)) (ss.map V.int)) = !decide (cell % bd ∈ ss) from congrArg not (ints_in ss (cell % bd))]
      refine iteND (fun h2 => ?_) (fun _ => ⟨ss, _, rfl, s5, gs, gq, nds, dis, by omega⟩)
      refine ⟨_, rfl, .inl ⟨rfl, _, SqL.of gs⟩, _, rfl, _, rfl, _, _, rfl, rfl, hbd, ls, _, _, rfl, rfl, gs, by rw [List.length_map]; omega, ?_⟩
      refine ⟨ss ++ [cell % bd], _, rfl, fun a o e => by rw [upd_ne (ne_of_none e hls)]; exact s5 a o e, by rw [upd_same, List.map_append]; rfl, by rw [upd_ne nlq.symm]; exact gq, List.nodup_append.mpr ⟨nds, List.nodup_cons.mpr ⟨by simp, List.nodup_nil⟩, fun p hp q hq => by rw [List.mem_singleton.mp hq]; rintro rfl; exact h2 hp⟩, fun k hk => ?_, by rw [List.length_append, List.length_singleton]; omega⟩
      rcases List.mem_append.mp hk with z | z
      · exact dis k z
      · rw [List.mem_singleton.mp z]; exact h1
    rintro σ H5 ⟨ss, v6, rfl, s5, gs, _, nds, dis, hsi⟩
    rw [List.length_map] at hsi
    have h19 : ss.length ≤ 19 := by omega
    have X5 := XN.same s5
    have gN5 := s5 _ _ gN
    -- the other book
    refine ⟨_, rfl, fun b2 dx2 nb2 ndx2 nex2 => ⟨b2, dx2, rule, rfl, r0, r2, upd_same, fun y2 ca2 d2 H6 ny2 nca2 nd2 B2 kp2 => ⟨rfl, ?_⟩⟩⟩
    have s6 : Same H5 H6 := fun a o e => kp2 a o (by rw [upd_ne (ne_of_none e nb2), upd_ne (ne_of_none e ndx2)]; exact e) (ne_of_none e nb2)
    have O6 : O11 C CB H5 H6 b2 y2 ca2 d2 rule (List.replicate 4 none) [] := ⟨B2, s6, nb2, upd_gr (upd_gr nca2), upd_gr (upd_gr nd2)⟩
    refine ⟨_, rfl, sa, ns, 1, rfl, (X5.o.s.trans s6).seq hS, _, _, rfl, rfl, ⟨by decide, by decide, by decide⟩, _, _, rfl, rfl, (by show (0 : Int) < 10 ^ (9 : Int).toNat; decide), _, rfl, _, ln, ky tb, rfl, SqL.of (s6 _ _ gN5), by rw [ky_len]; omega, fun lo ms H7 hlo s7 pm glo => ?_⟩
    have O7 := O6.same s7
    have hml : ms.length = tb.length := by rw [pm.length_eq, ky_len]
    refine ⟨_, rfl, _, rfl, _, rfl, _, rfl, _, rfl, sa, ns, 2, rfl, (X5.o.s.trans O7.s).seq hS, _, _, rfl, rfl, ⟨by decide, by decide, by decide⟩, _, _, rfl, rfl, (by show (0 : Int) < 10 ^ (9 : Int).toNat; decide), b2, y2, ca2, d2, lo, wd, ls, rule, _, ms, ss, tb, _, rfl, O7.bk, glo, O7.s _ _ X5.wo, O7.s _ _ gs, pm.nodup_iff.mpr X5.o.bk.nd, nds, (fun n h1 h2 => dis n h2 (pm.mem_iff.mp h1)), (fun n h => pm.mem_iff.mp h), by omega, h19, (ne_of_none O6.bk.yd.ls hlo).symm, ne_of_none gs O6.fc, ne_of_none X5.wo O6.fd, fun y3 ca3 c3 t3 H8 hca3 B3 hk3 hv3 fr3 => ?_⟩
    have O8 := O7.turn hca3 fr3 B3
    have hval : ∀ k, valT tb k = valT t3 k := fun k => by
      by_cases z : k ∈ ms
      · exact (hv3 k z).symm
      · rw [valT_none.mpr fun q => z (pm.mem_iff.mpr q), valT_none.mpr fun q => z ((hk3 k).mp q)]
    have nd1 := X5.o.bk.nd
    have hl3 : t3.length = tb.length := (len_of_ky nd1 B3.nd fun k => mem_of_val (hval k)).symm
    -- none is due
    refine ⟨(by show 0 ≤ sizeLine; decide), fun l0 hl0 => ?_⟩
    have O9 := O8.same (same_upd (o := .lst []) hl0)
    have g9 : upd H8 l0 (.lst []) l0 = some (.lst (([] : List Addr).map V.ref)) := upd_same
    generalize upd H8 l0 (.lst []) = H9 at O9 g9
    refine ⟨_, rfl, ln, _, rfl, .inl (SqL.of (O9.s _ _ gN5)), ?_⟩
    show gName 13 (V.int ((((ky tb).map V.int).length : Nat) : Int)) _ _ _
    rw [List.length_map, ky_len]
    have few : ∀ {t : Tb}, (∀ k ∈ ky t, k ∈ ky tb) → Few tb t := fun h => ⟨ky tb, by rw [ky_len]; omega, fun k h => h, h⟩
    have sub3 : ∀ k ∈ ky t3, k ∈ ky tb := fun k h => (mem_of_val (hval k)).mpr h
    have pick : 0 < tb.length → ∃ n x : Int, atI ((ky tb).map V.int) (ns.getD 3 0 / 4 % ((tb.length : Nat) : Int)) = some (.int n) ∧ n ∈ ky tb ∧ valT tb n = some x := fun h0 => by
      have m1 := Int.emod_nonneg (ns.getD 3 0 / 4) (show ((tb.length : Nat) : Int) ≠ 0 by omega)
      have m2 := Int.emod_lt_of_pos (ns.getD 3 0 / 4) (show (0 : Int) < ((tb.length : Nat) : Int) by omega)
      obtain ⟨q, hq⟩ : ∃ q : Nat, (q : Int) = ns.getD 3 0 / 4 % ((tb.length : Nat) : Int) := ⟨(ns.getD 3 0 / 4 % ((tb.length : Nat) : Int)).toNat, by omega⟩
      have hql : q < (ky tb).length := by rw [ky_len]; omega
      obtain ⟨x, hx⟩ := valT_some (List.getElem_mem hql)
      exact ⟨(ky tb)[q], x, by rw [← hq]; exact atI_nat (by rw [List.getElem?_map, List.getElem?_eq_getElem hql]; rfl), List.getElem_mem hql, hx⟩
    -- one worth is turned
    refine ⟨fun σ H' => ∃ (y2 ca2 l : Addr) (c2 : Lay) (t2 : Tb) (ts : List Addr) (D : List (List V)) (v7 : Option V), σ = [some (.ref sa), some (.int rule), some (.int bd), some (.ref wd), some (.ref b), v5, v6, v7, some (.ref ln), some (.ref ls), some (.ref b2), some (.ref lo), some (.ref l), some (.int (tb.length : Nat))] ∧ O11 C CB H5 H' b2 y2 ca2 d2 rule c2 t2 ∧ t2.length = tb.length ∧ (∀ k ∈ ky t2, k ∈ ky tb) ∧ H' l = some (.lst (ts.map V.ref)) ∧ TupsP H' ts D ∧ Du tb t2 D ∧ (ns.getD 3 0 % 4 = 2 → ∀ k, valT tb k = valT t2 k), ?_, ?_⟩
    · have same0 : ∃ (y2 ca2 l : Addr) (c2 : Lay) (t2 : Tb) (ts : List Addr) (D : List (List V)) (v7' : Option V), ([some (.ref sa), some (.int rule), some (.int bd), some (.ref wd), some (.ref b), v5, v6, v7, some (.ref ln), some (.ref ls), some (.ref b2), some (.ref lo), some (.ref l0), some (.int (tb.length : Nat))] : St) = [some (.ref sa), some (.int rule), some (.int bd), some (.ref wd), some (.ref b), v5, v6, v7', some (.ref ln), some (.ref ls), some (.ref b2), some (.ref lo), some (.ref l), some (.int (tb.length : Nat))] ∧ O11 C CB H5 H9 b2 y2 ca2 d2 rule c2 t2 ∧ t2.length = tb.length ∧ (∀ k ∈ ky t2, k ∈ ky tb) ∧ H9 l = some (.lst (ts.map V.ref)) ∧ TupsP H9 ts D ∧ Du tb t2 D ∧ (ns.getD 3 0 % 4 = 2 → ∀ k, valT tb k = valT t2 k) := ⟨y3, ca3, l0, c3, t3, [], [], v7, rfl, O9, hl3, sub3, g9, .nil, du_none nd1 B3.nd hval, fun _ => hval⟩
      refine ⟨_, rfl, sa, ns, 3, rfl, (X5.o.s.trans O9.s).seq hS, _, _, rfl, rfl, (by show (0 : Int) < 4; decide), rfl, _, rfl, iteI (fun h1 => ?_) (fun _ => iteF same0)⟩
      refine ⟨_, rfl, _, _, rfl, rfl, _, rfl, iteD (fun h2 => ?_) (fun _ => same0)⟩
      obtain ⟨n, x, hat, hn, hx⟩ := pick (by omega)
      refine ⟨_, rfl, _, rfl, sa, ns, 3, rfl, (X5.o.s.trans O9.s).seq hS, _, _, rfl, rfl, ⟨by decide, by decide⟩, _, rfl, _, _, rfl, rfl, (by omega), ln, _, _, _, rfl, rfl, SqL.of (O9.s _ _ gN5), hat, ?_⟩
      have dg : ∀ {H' : Hp}, Same H5 H' → DGet H' wd (.int n) (some (.int x)) := fun s => by
        have := DGet.k (k := Sum.inl n) (s _ _ X5.wo)
        rw [valV_kvs, hx] at this
        exact this
      obtain ⟨dx9, hb9⟩ := O9.bk.ob
      refine ⟨_, rfl, b2, dx9, _, rfl, hb9, nfb _ _ (by decide +kernel) (by decide +kernel), _, rfl, _, rfl, _, rfl, wd, _, rfl, dg O9.s, _, _, rfl, rfl, b2, y3, ca3, d2, rule, c3, t3, n, x + 1, rfl, O9.bk, by omega, fun bb y' ca' c' HA hca sA BA => ?_⟩
      have OA := O9.turn hca sA.kp BA
      refine ⟨_, rfl, _, rfl, _, rfl, wd, _, rfl, dg OA.s, _, rfl, _, rfl, wd, _, rfl, dg OA.s, _, _, rfl, rfl, (by show 3 ≤ sizeLine; decide), fun t ht => ⟨(by show 1 ≤ sizeLine; decide), fun l hl => ?_⟩⟩
      have sB := (same_upd (o := .tup [V.int n, V.int x, V.int (x + 1)]) ht).trans (same_upd (o := .lst [V.ref t]) hl)
      have ntl : t ≠ l := fun z => by subst z; rw [upd_same] at hl; cases hl
      refine ⟨y', ca', l, c', _, [t], [[V.int n, V.int x, V.int (x + 1)]], _, rfl, OA.same sB, ?_, fun k hk => ?_, upd_same, .cons ⟨by rw [upd_ne ntl, upd_same], rfl⟩ .nil, du_put nd1 BA.nd hval hx, fun z => ?_⟩
      · rw [len_put_in _ ((mem_of_val (hval n)).mp hn)]; exact hl3
      · rcases mem_put.mp hk with z | z
        · rw [z]; exact hn
        · exact sub3 k z
      · exfalso
        have h1' : ns.getD 3 0 % 4 = 1 := h1
        omega
    rintro σ HB ⟨y4, ca4, l4, c4, t4, ts4, D4, v7', rfl, O, hl4, sub4, g4, tp4, du4, hv4⟩
    -- one is dropped
    refine ⟨fun σ H' => ∃ (y2 ca2 l : Addr) (c2 : Lay) (t2 : Tb) (ts : List Addr) (D : List (List V)) (v7 : Option V), σ = [some (.ref sa), some (.int rule), some (.int bd), some (.ref wd), some (.ref b), v5, v6, v7, some (.ref ln), some (.ref ls), some (.ref b2), some (.ref lo), some (.ref l), some (.int (t2.length : Nat))] ∧ O11 C CB H5 H' b2 y2 ca2 d2 rule c2 t2 ∧ (∀ k ∈ ky t2, k ∈ ky tb) ∧ H' l = some (.lst (ts.map V.ref)) ∧ TupsP H' ts D ∧ Du tb t2 D, ?_, ?_⟩
    · have same0 : ∃ (y2 ca2 l : Addr) (c2 : Lay) (t2 : Tb) (ts : List Addr) (D : List (List V)) (v7 : Option V), ([some (.ref sa), some (.int rule), some (.int bd), some (.ref wd), some (.ref b), v5, v6, v7', some (.ref ln), some (.ref ls), some (.ref b2), some (.ref lo), some (.ref l4), some (.int (tb.length : Nat))] : St) = [some (.ref sa), some (.int rule), some (.int bd), some (.ref wd), some (.ref b), v5, v6, v7, some (.ref ln), some (.ref ls), some (.ref b2), some (.ref lo), some (.ref l), some (.int (t2.length : Nat))] ∧ O11 C CB H5 HB b2 y2 ca2 d2 rule c2 t2 ∧ (∀ k ∈ ky t2, k ∈ ky tb) ∧ HB l = some (.lst (ts.map V.ref)) ∧ TupsP HB ts D ∧ Du tb t2 D := ⟨y4, ca4, l4, c4, t4, ts4, D4, v7', by rw [hl4], O, sub4, g4, tp4, du4⟩
      refine ⟨_, rfl, sa, ns, 3, rfl, (X5.o.s.trans O.s).seq hS, _, _, rfl, rfl, (by show (0 : Int) < 4; decide), rfl, _, rfl, iteI (fun h1 => ?_) (fun _ => iteF same0)⟩
      refine ⟨_, rfl, _, _, rfl, rfl, _, rfl, iteD (fun h2 => ?_) (fun _ => same0)⟩
      obtain ⟨n, x, hat, hn, hx⟩ := pick (by omega)
      have hval4 := hv4 h1
      refine ⟨_, rfl, _, rfl, sa, ns, 3, rfl, (X5.o.s.trans O.s).seq hS, _, _, rfl, rfl, ⟨by decide, by decide⟩, _, rfl, _, _, rfl, rfl, (by omega), ln, _, _, _, rfl, rfl, SqL.of (O.s _ _ gN5), hat, ?_⟩
      obtain ⟨dx9, hb9⟩ := O.bk.ob
      refine ⟨_, rfl, b2, dx9, _, rfl, hb9, nfb _ _ (by decide +kernel) (by decide +kernel), _, rfl, b2, y4, ca4, d2, rule, c4, t4, n, rfl, O.bk, (mem_of_val (hval4 n)).mp hn, fun v y' ca' c' HA hca sA BA => ?_⟩
      have OA := O.turn hca sA.kp BA
      have dg : DGet HA wd (.int n) (some (.int x)) := by
        have := DGet.k (k := Sum.inl n) (OA.s _ _ X5.wo)
        rw [valV_kvs, hx] at this
        exact this
      refine ⟨_, rfl, _, rfl, _, rfl, wd, _, rfl, dg, (by show 3 ≤ sizeLine; decide), fun t ht => ⟨(by show 1 ≤ sizeLine; decide), fun l hl => ?_⟩⟩
      have sB := (same_upd (o := .tup [V.int n, V.int x, V.non]) ht).trans (same_upd (o := .lst [V.ref t]) hl)
      have ntl : t ≠ l := fun z => by subst z; rw [upd_same] at hl; cases hl
      obtain ⟨du, hdl⟩ := du_drop nd1 O.bk.nd BA.nd hval4 hx
      refine ⟨_, rfl, _, _, rfl, rfl, ?_⟩
      show gName 13 (V.int (((tb.length : Nat) : Int) - 1)) _ _ _
      rw [show ((tb.length : Nat) : Int) - 1 = (((dropT t4 n).length : Nat) : Int) from by omega]
      exact ⟨y', ca', l, c', dropT t4 n, [t], [[V.int n, V.int x, V.non]], _, rfl, OA.same sB, (fun k hk => sub4 k (mem_drop.mp hk).1), upd_same, .cons ⟨by rw [upd_ne ntl, upd_same], rfl⟩ .nil, du⟩
    rintro σ HC ⟨y6, ca6, l6, c6, t6, ts6, D6, v8, rfl, O, sub6, g6, tp6, du⟩
    -- the sizes
    have nd2 := O.bk.nd
    have bk1 : ∀ {H' : Hp}, Same HC H' → BookAt C CB H' b y ca d rule c tb := fun s => X5.o.bk.same (O.s.trans s)
    have bk2 : ∀ {H' : Hp}, Same HC H' → BookAt C CB H' b2 y6 ca6 d2 rule c6 t6 := fun s => O.bk.same s
    obtain ⟨dxo, hbo⟩ := (bk1 fun _ _ e => e).ob
    obtain ⟨dxt, hbt⟩ := O.bk.ob
    have gNC := O.s _ _ gN5
    have pm1 := X5.o.bk.pm
    have pm2 := O.bk.pm
    have rt1 := X5.o.bk.rt
    have rt2 := O.bk.rt
    have len1 := X5.o.bk.yd.len
    have len2 := O.bk.yd.len
    refine ⟨_, rfl, b, dxo, _, rfl, hbo, nfb _ _ (by decide +kernel) (by decide +kernel), b, y, ca, d, rule, c, tb, rfl, bk1 fun _ _ e => e, fun la xa Ha hla sa1 gla loa => ?_⟩
    refine ⟨la, _, rfl, .inl (SqL.of gla), _, rfl, ln, _, rfl, .inl (SqL.of (sa1 _ _ gNC)), _, rfl, fun Hb sb => ⟨rfl, _, rfl, iteNI (fun z => absurd ?_ z) (fun _ => ?_)⟩⟩
    · rw [loa.1, len1, List.length_map, ky_len]
    have sb2 := sa1.trans sb
    refine ⟨_, rfl, b2, dxt, _, rfl, sb2 _ _ hbt, nfb _ _ (by decide +kernel) (by decide +kernel), b2, y6, ca6, d2, rule, c6, t6, rfl, bk2 sb2, fun lb xb Hc hlb sc glb lob => ?_⟩
    refine ⟨lb, _, rfl, .inl (SqL.of glb), _, rfl, _, rfl, fun Hd sd => ⟨rfl, _, rfl, iteNI (fun z => absurd ?_ z) (fun _ => ?_)⟩⟩
    · rw [lob.1, len2]
    have sd2 := (sb2.trans sc).trans sd
    -- the layouts
    refine ⟨fun σ H' => σ = [some (.ref sa), some (.int rule), some (.int bd), some (.ref wd), some (.ref b), v5, v6, v8, some (.ref ln), some (.ref ls), some (.ref b2), some (.ref lo), some (.ref l6), some (.int (t6.length : Nat))] ∧ Same HC H', ?_, ?_⟩
    · refine ⟨_, rfl, _, _, rfl, rfl, _, rfl, iteD (fun hr0 => ?_) (fun _ => iteF ⟨rfl, sd2⟩)⟩
      refine ⟨_, rfl, b, dxo, _, rfl, sd2 _ _ hbo, nfb _ _ (by decide +kernel) (by decide +kernel), b, y, ca, d, rule, c, tb, rfl, bk1 sd2, fun la xa Ha hla sa1 gla loa => ?_⟩
      have s8 := sd2.trans sa1
      refine ⟨_, rfl, b2, dxt, _, rfl, s8 _ _ hbt, nfb _ _ (by decide +kernel) (by decide +kernel), b2, y6, ca6, d2, rule, c6, t6, rfl, bk2 s8, fun lb xb Hb hlb sb glb lob => ?_⟩
      have s9 := s8.trans sb
      refine ⟨la, lb, xa, xb, _, _, rfl, rfl, SqL.of (sb _ _ gla), SqL.of glb, laid_cells (laid_same loa sb), laid_cells lob, ?_⟩
      rw [cells_alike (by omega) nd1 nd2 pm1 pm2 rt1 rt2]
      refine ⟨_, rfl, (by show 0 ≤ sizeLine; decide), fun le hle => ⟨l6, le, ts6.map V.ref, rfl, rfl, SqL.of (by rw [upd_ne (ne_of_none (s9 _ _ g6) hle)]; exact s9 _ _ g6), SqL.of upd_same, ?_⟩⟩
      rw [isEmpty_due du tp6]
      exact ⟨rfl, _, rfl, iteND (fun z => absurd rfl z) (fun _ => ⟨rfl, s9.trans (same_upd (o := .lst []) hle)⟩)⟩
    rintro σ HE ⟨rfl, sE⟩
    -- the stalls that are taken, the changes
    refine ⟨_, rfl, _, rfl, ln, _, rfl, .inl (SqL.of (sE _ _ gNC)), rfl, _, rfl, iteI (fun e => ?a) (fun _ => iteF ?b)⟩
    case' a =>
      rw [List.length_map, ky_len] at e
      have te := taken_alike nd1 nd2 pm1 pm2 rt1 rt2 (du.ks (by omega))
      refine ⟨_, rfl, b, y, ca, d, rule, c, tb, rfl, bk1 sE, fun la Ha hla sa1 gla => ?_⟩
      refine ⟨_, rfl, b2, y6, ca6, d2, rule, c6, t6, rfl, bk2 (sE.trans sa1), fun lb Hb hlb sb glb => ?_⟩
      have sx := (sE.trans sa1).trans sb
      refine ⟨la, lb, _, _, rfl, rfl, SqL.of (sb _ _ gla), SqL.of glb, _, rfl, iteND (fun z => absurd te z) (fun _ => ?_)⟩
    case' b => have sx := sE
    all_goals
      refine ⟨_, rfl, _, rfl, b, y, ca, d, b2, y6, ca6, d2, _, _, c, c6, tb, t6, rfl, bk1 sx, bk2 sx, few sub6, fun lf tf nsf Hf hlf sf upf ndf memf gf tpf => ?_⟩
      rw [du.ch nsf ndf memf] at tpf
      have sg := sx.trans sf
      refine ⟨_, rfl, lf, l6, tf, ts6, D6, rfl, rfl, SqL.of gf, SqL.of (sg _ _ g6), tpf, tupsP_same (fun _ _ e => sg _ _ e) tp6, _, rfl, iteF ?_⟩
      refine ⟨_, rfl, _, rfl, b, y, ca, d, b2, y6, ca6, d2, _, _, c, c6, tb, t6, rfl, bk1 sg, bk2 sg, ?_⟩
      refine ⟨_, rfl, (by show 0 ≤ sizeLine; decide), fun le hle => ⟨l6, le, ts6.map V.ref, rfl, rfl, SqL.of (by rw [upd_ne (ne_of_none (sg _ _ g6) hle)]; exact sg _ _ g6), SqL.of upd_same, _, _, rfl, ?_⟩⟩
      have sh := sg.trans (same_upd (o := .lst []) hle)
      rw [show decide (alikeT tb t6 = (ts6.map V.ref).isEmpty) = true from decide_eq_true (isEmpty_due du tp6).symm]
      refine ⟨_, rfl, iteT ?_⟩
      refine ⟨_, rfl, _, rfl, b2, y6, ca6, d2, b, y, ca, d, _, _, c6, c, t6, tb, rfl, bk2 sh, bk1 sh, ?_⟩
      refine ⟨_, rfl, (by show 0 ≤ sizeLine; decide), fun le2 hle2 => ⟨l6, le2, ts6.map V.ref, rfl, rfl, SqL.of (by rw [upd_ne (ne_of_none (sh _ _ g6) hle2)]; exact sh _ _ g6), SqL.of upd_same, _, _, rfl, ?_⟩⟩
      rw [show decide (alikeT t6 tb = (ts6.map V.ref).isEmpty) = true from decide_eq_true (by rw [isEmpty_due du tp6, du.al, du.la])]
      exact k _

end

set_option maxHeartbeats 2000000 in
theorem all_mk {l : PySem.W.OpenLaw} {w : World} {K : PySem.W.Frag} {h : Heap} {mg : Str → Option Value} {fa C : Addr} (X : K.In h) (G : h.Ns mainGlobals mg) (hfa : mg "law" = some (.ref fa))
    {CB : Addr}
    {f_i : Addr} {od_i an_i : Option Addr} {sl_i : Array (Option Value)} {oc_i kV_i dc_i pm_i cd_i ct_i : Value}
    {f_Bi : Addr} {od_Bi an_Bi : Option Addr} {sl_Bi : Array (Option Value)} {oc_Bi kV_Bi dc_Bi pm_Bi cd_Bi ct_Bi : Value}
    {f_is_size : Addr} {od_is_size an_is_size : Option Addr} {sl_is_size : Array (Option Value)} {oc_is_size kV_is_size dc_is_size pm_is_size cd_is_size ct_is_size : Value}
    {f_way : Addr} {od_way an_way : Option Addr} {sl_way : Array (Option Value)} {oc_way kV_way dc_way pm_way cd_way ct_way : Value}
    {f_keeps : Addr} {od_keeps an_keeps : Option Addr} {sl_keeps : Array (Option Value)} {oc_keeps kV_keeps dc_keeps pm_keeps cd_keeps ct_keeps : Value}
    {f_passes : Addr} {od_passes an_passes : Option Addr} {sl_passes : Array (Option Value)} {oc_passes kV_passes dc_passes pm_passes cd_passes ct_passes : Value}
    {f_wish : Addr} {od_wish an_wish : Option Addr} {sl_wish : Array (Option Value)} {oc_wish kV_wish dc_wish pm_wish cd_wish ct_wish : Value}
    {f_behind : Addr} {od_behind an_behind : Option Addr} {sl_behind : Array (Option Value)} {oc_behind kV_behind dc_behind pm_behind cd_behind ct_behind : Value}
    {f_stand : Addr} {od_stand an_stand : Option Addr} {sl_stand : Array (Option Value)} {oc_stand kV_stand dc_stand pm_stand cd_stand ct_stand : Value}
    {f_leads_on : Addr} {od_leads_on an_leads_on : Option Addr} {sl_leads_on : Array (Option Value)} {oc_leads_on kV_leads_on dc_leads_on pm_leads_on cd_leads_on ct_leads_on : Value}
    {f_looked : Addr} {od_looked an_looked : Option Addr} {sl_looked : Array (Option Value)} {oc_looked kV_looked dc_looked pm_looked cd_looked ct_looked : Value}
    {f_where : Addr} {od_where an_where : Option Addr} {sl_where : Array (Option Value)} {oc_where kV_where dc_where pm_where cd_where ct_where : Value}
    {f_stalls : Addr} {od_stalls an_stalls : Option Addr} {sl_stalls : Array (Option Value)} {oc_stalls kV_stalls dc_stalls pm_stalls cd_stalls ct_stalls : Value}
    {f_names : Addr} {od_names an_names : Option Addr} {sl_names : Array (Option Value)} {oc_names kV_names dc_names pm_names cd_names ct_names : Value}
    {f_how_many : Addr} {od_how_many an_how_many : Option Addr} {sl_how_many : Array (Option Value)} {oc_how_many kV_how_many dc_how_many pm_how_many cd_how_many ct_how_many : Value}
    {f_put : Addr} {od_put an_put : Option Addr} {sl_put : Array (Option Value)} {oc_put kV_put dc_put pm_put cd_put ct_put : Value}
    {f_nearest_passing : Addr} {od_nearest_passing an_nearest_passing : Option Addr} {sl_nearest_passing : Array (Option Value)} {oc_nearest_passing kV_nearest_passing dc_nearest_passing pm_nearest_passing cd_nearest_passing ct_nearest_passing : Value}
    {f_take : Addr} {od_take an_take : Option Addr} {sl_take : Array (Option Value)} {oc_take kV_take dc_take pm_take cd_take ct_take : Value}
    {f_put_missing : Addr} {od_put_missing an_put_missing : Option Addr} {sl_put_missing : Array (Option Value)} {oc_put_missing kV_put_missing dc_put_missing pm_put_missing cd_put_missing ct_put_missing : Value}
    {f_moved : Addr} {od_moved an_moved : Option Addr} {sl_moved : Array (Option Value)} {oc_moved kV_moved dc_moved pm_moved cd_moved ct_moved : Value}
    {f_stalls_wanted : Addr} {od_stalls_wanted an_stalls_wanted : Option Addr} {sl_stalls_wanted : Array (Option Value)} {oc_stalls_wanted kV_stalls_wanted dc_stalls_wanted pm_stalls_wanted cd_stalls_wanted ct_stalls_wanted : Value}
    {f_Bhow_many : Addr} {od_Bhow_many an_Bhow_many : Option Addr} {sl_Bhow_many : Array (Option Value)} {oc_Bhow_many kV_Bhow_many dc_Bhow_many pm_Bhow_many cd_Bhow_many ct_Bhow_many : Value}
    {f_Bworth : Addr} {od_Bworth an_Bworth : Option Addr} {sl_Bworth : Array (Option Value)} {oc_Bworth kV_Bworth dc_Bworth pm_Bworth cd_Bworth ct_Bworth : Value}
    {f_Bfit : Addr} {od_Bfit an_Bfit : Option Addr} {sl_Bfit : Array (Option Value)} {oc_Bfit kV_Bfit dc_Bfit pm_Bfit cd_Bfit ct_Bfit : Value}
    {f_Bbring : Addr} {od_Bbring an_Bbring : Option Addr} {sl_Bbring : Array (Option Value)} {oc_Bbring kV_Bbring dc_Bbring pm_Bbring cd_Bbring ct_Bbring : Value}
    {f_Bwrite : Addr} {od_Bwrite an_Bwrite : Option Addr} {sl_Bwrite : Array (Option Value)} {oc_Bwrite kV_Bwrite dc_Bwrite pm_Bwrite cd_Bwrite ct_Bwrite : Value}
    {f_Bdrop : Addr} {od_Bdrop an_Bdrop : Option Addr} {sl_Bdrop : Array (Option Value)} {oc_Bdrop kV_Bdrop dc_Bdrop pm_Bdrop cd_Bdrop ct_Bdrop : Value}
    {f_Blayout : Addr} {od_Blayout an_Blayout : Option Addr} {sl_Blayout : Array (Option Value)} {oc_Blayout kV_Blayout dc_Blayout pm_Blayout cd_Blayout ct_Blayout : Value}
    {f_alike : Addr} {od_alike an_alike : Option Addr} {sl_alike : Array (Option Value)} {oc_alike kV_alike dc_alike pm_alike cd_alike ct_alike : Value}
    {f_changes : Addr} {od_changes an_changes : Option Addr} {sl_changes : Array (Option Value)} {oc_changes kV_changes dc_changes pm_changes cd_changes ct_changes : Value}
    {f__law_cell : Addr} {od__law_cell an__law_cell : Option Addr} {sl__law_cell : Array (Option Value)} {oc__law_cell kV__law_cell dc__law_cell pm__law_cell cd__law_cell ct__law_cell : Value}
    {f__law_mixed : Addr} {od__law_mixed an__law_mixed : Option Addr} {sl__law_mixed : Array (Option Value)} {oc__law_mixed kV__law_mixed dc__law_mixed pm__law_mixed cd__law_mixed ct__law_mixed : Value}
    {f__law_size : Addr} {od__law_size an__law_size : Option Addr} {sl__law_size : Array (Option Value)} {oc__law_size kV__law_size dc__law_size pm__law_size cd__law_size ct__law_size : Value}
    {f__law_other_way : Addr} {od__law_other_way an__law_other_way : Option Addr} {sl__law_other_way : Array (Option Value)} {oc__law_other_way kV__law_other_way dc__law_other_way pm__law_other_way cd__law_other_way ct__law_other_way : Value}
    {f__law_taken : Addr} {od__law_taken an__law_taken : Option Addr} {sl__law_taken : Array (Option Value)} {oc__law_taken kV__law_taken dc__law_taken pm__law_taken cd__law_taken ct__law_taken : Value}
    {f__law_truth : Addr} {od__law_truth an__law_truth : Option Addr} {sl__law_truth : Array (Option Value)} {oc__law_truth kV__law_truth dc__law_truth pm__law_truth cd__law_truth ct__law_truth : Value}
    {f_law : Addr} {od_law an_law : Option Addr} {sl_law : Array (Option Value)} {oc_law kV_law dc_law pm_law cd_law ct_law : Value}
    {C_YardError : Addr}
    {C_NoSize : Addr}
    {C_Here : Addr}
    {C_Full : Addr}
    {C_NoCart : Addr}
    {t_FIRST : Tok}
    {t_FAR : Tok}
    {t_LEAST_STALLS : Tok}
    {t_MOST_STALLS : Tok}
    {t_MOST_NAMES : Tok}
    {aS : Addr} {od_S : Option Addr} {t1_S t2_S t3_S t4_S t5_S t6_S : Tok} {n_S : Nat} {sl_S : Array (Option Value)}
    (aC : PySem.W.nsIn K mainGlobals "Yard" = some (some (.ref C)))
    (aCB : PySem.W.nsIn K mainGlobals "Book" = some (some (.ref CB)))
    (a_i : PySem.W.findIn K (.ref C) "__init__" = some (some (.ref f_i))) (i_i : PySem.W.isFn K (.ref f_i) = true)
    (l_i : K.lookup f_i = some ⟨oc_i, od_i, .func (PySem.W.fnOf "__init__" "Yard.__init__" (defArgs sInit) (defBody sInit) (defScope sInit) .none kV_i dc_i pm_i an_i cd_i ct_i), sl_i⟩) (c_i : PySem.W.codeIn K cd_i "Yard.__init__" = true) (k_i : PySem.W.keepIn K (.ref f_i) = true)
    (a_Bi : PySem.W.findIn K (.ref CB) "__init__" = some (some (.ref f_Bi))) (i_Bi : PySem.W.isFn K (.ref f_Bi) = true)
    (l_Bi : K.lookup f_Bi = some ⟨oc_Bi, od_Bi, .func (PySem.W.fnOf "__init__" "Book.__init__" (defArgs sBInit) (defBody sBInit) (defScope sBInit) .none kV_Bi dc_Bi pm_Bi an_Bi cd_Bi ct_Bi), sl_Bi⟩) (c_Bi : PySem.W.codeIn K cd_Bi "Book.__init__" = true) (k_Bi : PySem.W.keepIn K (.ref f_Bi) = true)
    (a_is_size : PySem.W.nsIn K mainGlobals "is_size" = some (some (.ref f_is_size)))
    (l_is_size : K.lookup f_is_size = some ⟨oc_is_size, od_is_size, .func (PySem.W.fnOf "is_size" "is_size" (defArgs sSize) (defBody sSize) (defScope sSize) .none kV_is_size dc_is_size pm_is_size an_is_size cd_is_size ct_is_size), sl_is_size⟩) (c_is_size : PySem.W.codeIn K cd_is_size "is_size" = true) (k_is_size : PySem.W.keepIn K (.ref f_is_size) = true)
    (a_way : PySem.W.nsIn K mainGlobals "way" = some (some (.ref f_way)))
    (l_way : K.lookup f_way = some ⟨oc_way, od_way, .func (PySem.W.fnOf "way" "way" (defArgs sWay) (defBody sWay) (defScope sWay) .none kV_way dc_way pm_way an_way cd_way ct_way), sl_way⟩) (c_way : PySem.W.codeIn K cd_way "way" = true) (k_way : PySem.W.keepIn K (.ref f_way) = true)
    (a_keeps : PySem.W.nsIn K mainGlobals "keeps" = some (some (.ref f_keeps)))
    (l_keeps : K.lookup f_keeps = some ⟨oc_keeps, od_keeps, .func (PySem.W.fnOf "keeps" "keeps" (defArgs sKeeps) (defBody sKeeps) (defScope sKeeps) .none kV_keeps dc_keeps pm_keeps an_keeps cd_keeps ct_keeps), sl_keeps⟩) (c_keeps : PySem.W.codeIn K cd_keeps "keeps" = true) (k_keeps : PySem.W.keepIn K (.ref f_keeps) = true)
    (a_passes : PySem.W.nsIn K mainGlobals "passes" = some (some (.ref f_passes)))
    (l_passes : K.lookup f_passes = some ⟨oc_passes, od_passes, .func (PySem.W.fnOf "passes" "passes" (defArgs sPasses) (defBody sPasses) (defScope sPasses) .none kV_passes dc_passes pm_passes an_passes cd_passes ct_passes), sl_passes⟩) (c_passes : PySem.W.codeIn K cd_passes "passes" = true) (k_passes : PySem.W.keepIn K (.ref f_passes) = true)
    (a_wish : PySem.W.findIn K (.ref C) "wish" = some (some (.ref f_wish))) (i_wish : PySem.W.isFn K (.ref f_wish) = true)
    (l_wish : K.lookup f_wish = some ⟨oc_wish, od_wish, .func (PySem.W.fnOf "wish" "Yard.wish" (defArgs sWish) (defBody sWish) (defScope sWish) .none kV_wish dc_wish pm_wish an_wish cd_wish ct_wish), sl_wish⟩) (c_wish : PySem.W.codeIn K cd_wish "Yard.wish" = true) (k_wish : PySem.W.keepIn K (.ref f_wish) = true)
    (a_behind : PySem.W.findIn K (.ref C) "behind" = some (some (.ref f_behind))) (i_behind : PySem.W.isFn K (.ref f_behind) = true)
    (l_behind : K.lookup f_behind = some ⟨oc_behind, od_behind, .func (PySem.W.fnOf "behind" "Yard.behind" (defArgs sBehind) (defBody sBehind) (defScope sBehind) .none kV_behind dc_behind pm_behind an_behind cd_behind ct_behind), sl_behind⟩) (c_behind : PySem.W.codeIn K cd_behind "Yard.behind" = true) (k_behind : PySem.W.keepIn K (.ref f_behind) = true)
    (a_stand : PySem.W.findIn K (.ref C) "stand" = some (some (.ref f_stand))) (i_stand : PySem.W.isFn K (.ref f_stand) = true)
    (l_stand : K.lookup f_stand = some ⟨oc_stand, od_stand, .func (PySem.W.fnOf "stand" "Yard.stand" (defArgs sStand) (defBody sStand) (defScope sStand) .none kV_stand dc_stand pm_stand an_stand cd_stand ct_stand), sl_stand⟩) (c_stand : PySem.W.codeIn K cd_stand "Yard.stand" = true) (k_stand : PySem.W.keepIn K (.ref f_stand) = true)
    (a_leads_on : PySem.W.findIn K (.ref C) "leads_on" = some (some (.ref f_leads_on))) (i_leads_on : PySem.W.isFn K (.ref f_leads_on) = true)
    (l_leads_on : K.lookup f_leads_on = some ⟨oc_leads_on, od_leads_on, .func (PySem.W.fnOf "leads_on" "Yard.leads_on" (defArgs sLeads) (defBody sLeads) (defScope sLeads) .none kV_leads_on dc_leads_on pm_leads_on an_leads_on cd_leads_on ct_leads_on), sl_leads_on⟩) (c_leads_on : PySem.W.codeIn K cd_leads_on "Yard.leads_on" = true) (k_leads_on : PySem.W.keepIn K (.ref f_leads_on) = true)
    (a_looked : PySem.W.findIn K (.ref C) "looked" = some (some (.ref f_looked))) (i_looked : PySem.W.isFn K (.ref f_looked) = true)
    (l_looked : K.lookup f_looked = some ⟨oc_looked, od_looked, .func (PySem.W.fnOf "looked" "Yard.looked" (defArgs sLooked) (defBody sLooked) (defScope sLooked) .none kV_looked dc_looked pm_looked an_looked cd_looked ct_looked), sl_looked⟩) (c_looked : PySem.W.codeIn K cd_looked "Yard.looked" = true) (k_looked : PySem.W.keepIn K (.ref f_looked) = true)
    (a_where : PySem.W.findIn K (.ref C) "where" = some (some (.ref f_where))) (i_where : PySem.W.isFn K (.ref f_where) = true)
    (l_where : K.lookup f_where = some ⟨oc_where, od_where, .func (PySem.W.fnOf "where" "Yard.where" (defArgs sWhere) (defBody sWhere) (defScope sWhere) .none kV_where dc_where pm_where an_where cd_where ct_where), sl_where⟩) (c_where : PySem.W.codeIn K cd_where "Yard.where" = true) (k_where : PySem.W.keepIn K (.ref f_where) = true)
    (a_stalls : PySem.W.findIn K (.ref C) "stalls" = some (some (.ref f_stalls))) (i_stalls : PySem.W.isFn K (.ref f_stalls) = true)
    (l_stalls : K.lookup f_stalls = some ⟨oc_stalls, od_stalls, .func (PySem.W.fnOf "stalls" "Yard.stalls" (defArgs sStalls) (defBody sStalls) (defScope sStalls) .none kV_stalls dc_stalls pm_stalls an_stalls cd_stalls ct_stalls), sl_stalls⟩) (c_stalls : PySem.W.codeIn K cd_stalls "Yard.stalls" = true) (k_stalls : PySem.W.keepIn K (.ref f_stalls) = true)
    (a_names : PySem.W.findIn K (.ref C) "names" = some (some (.ref f_names))) (i_names : PySem.W.isFn K (.ref f_names) = true)
    (l_names : K.lookup f_names = some ⟨oc_names, od_names, .func (PySem.W.fnOf "names" "Yard.names" (defArgs sNames) (defBody sNames) (defScope sNames) .none kV_names dc_names pm_names an_names cd_names ct_names), sl_names⟩) (c_names : PySem.W.codeIn K cd_names "Yard.names" = true) (k_names : PySem.W.keepIn K (.ref f_names) = true)
    (a_how_many : PySem.W.findIn K (.ref C) "how_many" = some (some (.ref f_how_many))) (i_how_many : PySem.W.isFn K (.ref f_how_many) = true)
    (l_how_many : K.lookup f_how_many = some ⟨oc_how_many, od_how_many, .func (PySem.W.fnOf "how_many" "Yard.how_many" (defArgs sHow) (defBody sHow) (defScope sHow) .none kV_how_many dc_how_many pm_how_many an_how_many cd_how_many ct_how_many), sl_how_many⟩) (c_how_many : PySem.W.codeIn K cd_how_many "Yard.how_many" = true) (k_how_many : PySem.W.keepIn K (.ref f_how_many) = true)
    (a_put : PySem.W.findIn K (.ref C) "put" = some (some (.ref f_put))) (i_put : PySem.W.isFn K (.ref f_put) = true)
    (l_put : K.lookup f_put = some ⟨oc_put, od_put, .func (PySem.W.fnOf "put" "Yard.put" (defArgs sPut) (defBody sPut) (defScope sPut) .none kV_put dc_put pm_put an_put cd_put ct_put), sl_put⟩) (c_put : PySem.W.codeIn K cd_put "Yard.put" = true) (k_put : PySem.W.keepIn K (.ref f_put) = true)
    (a_nearest_passing : PySem.W.findIn K (.ref C) "nearest_passing" = some (some (.ref f_nearest_passing))) (i_nearest_passing : PySem.W.isFn K (.ref f_nearest_passing) = true)
    (l_nearest_passing : K.lookup f_nearest_passing = some ⟨oc_nearest_passing, od_nearest_passing, .func (PySem.W.fnOf "nearest_passing" "Yard.nearest_passing" (defArgs sNear) (defBody sNear) (defScope sNear) .none kV_nearest_passing dc_nearest_passing pm_nearest_passing an_nearest_passing cd_nearest_passing ct_nearest_passing), sl_nearest_passing⟩) (c_nearest_passing : PySem.W.codeIn K cd_nearest_passing "Yard.nearest_passing" = true) (k_nearest_passing : PySem.W.keepIn K (.ref f_nearest_passing) = true)
    (a_take : PySem.W.findIn K (.ref C) "take" = some (some (.ref f_take))) (i_take : PySem.W.isFn K (.ref f_take) = true)
    (l_take : K.lookup f_take = some ⟨oc_take, od_take, .func (PySem.W.fnOf "take" "Yard.take" (defArgs sTake) (defBody sTake) (defScope sTake) .none kV_take dc_take pm_take an_take cd_take ct_take), sl_take⟩) (c_take : PySem.W.codeIn K cd_take "Yard.take" = true) (k_take : PySem.W.keepIn K (.ref f_take) = true)
    (a_put_missing : PySem.W.nsIn K mainGlobals "put_missing" = some (some (.ref f_put_missing)))
    (l_put_missing : K.lookup f_put_missing = some ⟨oc_put_missing, od_put_missing, .func (PySem.W.fnOf "put_missing" "put_missing" (defArgs sMissing) (defBody sMissing) (defScope sMissing) .none kV_put_missing dc_put_missing pm_put_missing an_put_missing cd_put_missing ct_put_missing), sl_put_missing⟩) (c_put_missing : PySem.W.codeIn K cd_put_missing "put_missing" = true) (k_put_missing : PySem.W.keepIn K (.ref f_put_missing) = true)
    (a_moved : PySem.W.nsIn K mainGlobals "moved" = some (some (.ref f_moved)))
    (l_moved : K.lookup f_moved = some ⟨oc_moved, od_moved, .func (PySem.W.fnOf "moved" "moved" (defArgs sMoved) (defBody sMoved) (defScope sMoved) .none kV_moved dc_moved pm_moved an_moved cd_moved ct_moved), sl_moved⟩) (c_moved : PySem.W.codeIn K cd_moved "moved" = true) (k_moved : PySem.W.keepIn K (.ref f_moved) = true)
    (a_stalls_wanted : PySem.W.nsIn K mainGlobals "stalls_wanted" = some (some (.ref f_stalls_wanted)))
    (l_stalls_wanted : K.lookup f_stalls_wanted = some ⟨oc_stalls_wanted, od_stalls_wanted, .func (PySem.W.fnOf "stalls_wanted" "stalls_wanted" (defArgs sWanted) (defBody sWanted) (defScope sWanted) .none kV_stalls_wanted dc_stalls_wanted pm_stalls_wanted an_stalls_wanted cd_stalls_wanted ct_stalls_wanted), sl_stalls_wanted⟩) (c_stalls_wanted : PySem.W.codeIn K cd_stalls_wanted "stalls_wanted" = true) (k_stalls_wanted : PySem.W.keepIn K (.ref f_stalls_wanted) = true)
    (a_Bhow_many : PySem.W.findIn K (.ref CB) "how_many" = some (some (.ref f_Bhow_many))) (i_Bhow_many : PySem.W.isFn K (.ref f_Bhow_many) = true)
    (l_Bhow_many : K.lookup f_Bhow_many = some ⟨oc_Bhow_many, od_Bhow_many, .func (PySem.W.fnOf "how_many" "Book.how_many" (defArgs sBHow) (defBody sBHow) (defScope sBHow) .none kV_Bhow_many dc_Bhow_many pm_Bhow_many an_Bhow_many cd_Bhow_many ct_Bhow_many), sl_Bhow_many⟩) (c_Bhow_many : PySem.W.codeIn K cd_Bhow_many "Book.how_many" = true) (k_Bhow_many : PySem.W.keepIn K (.ref f_Bhow_many) = true)
    (a_Bworth : PySem.W.findIn K (.ref CB) "worth" = some (some (.ref f_Bworth))) (i_Bworth : PySem.W.isFn K (.ref f_Bworth) = true)
    (l_Bworth : K.lookup f_Bworth = some ⟨oc_Bworth, od_Bworth, .func (PySem.W.fnOf "worth" "Book.worth" (defArgs sBWorth) (defBody sBWorth) (defScope sBWorth) .none kV_Bworth dc_Bworth pm_Bworth an_Bworth cd_Bworth ct_Bworth), sl_Bworth⟩) (c_Bworth : PySem.W.codeIn K cd_Bworth "Book.worth" = true) (k_Bworth : PySem.W.keepIn K (.ref f_Bworth) = true)
    (a_Bfit : PySem.W.findIn K (.ref CB) "fit" = some (some (.ref f_Bfit))) (i_Bfit : PySem.W.isFn K (.ref f_Bfit) = true)
    (l_Bfit : K.lookup f_Bfit = some ⟨oc_Bfit, od_Bfit, .func (PySem.W.fnOf "fit" "Book.fit" (defArgs sBFit) (defBody sBFit) (defScope sBFit) .none kV_Bfit dc_Bfit pm_Bfit an_Bfit cd_Bfit ct_Bfit), sl_Bfit⟩) (c_Bfit : PySem.W.codeIn K cd_Bfit "Book.fit" = true) (k_Bfit : PySem.W.keepIn K (.ref f_Bfit) = true)
    (a_Bbring : PySem.W.findIn K (.ref CB) "bring" = some (some (.ref f_Bbring))) (i_Bbring : PySem.W.isFn K (.ref f_Bbring) = true)
    (l_Bbring : K.lookup f_Bbring = some ⟨oc_Bbring, od_Bbring, .func (PySem.W.fnOf "bring" "Book.bring" (defArgs sBBring) (defBody sBBring) (defScope sBBring) .none kV_Bbring dc_Bbring pm_Bbring an_Bbring cd_Bbring ct_Bbring), sl_Bbring⟩) (c_Bbring : PySem.W.codeIn K cd_Bbring "Book.bring" = true) (k_Bbring : PySem.W.keepIn K (.ref f_Bbring) = true)
    (a_Bwrite : PySem.W.findIn K (.ref CB) "write" = some (some (.ref f_Bwrite))) (i_Bwrite : PySem.W.isFn K (.ref f_Bwrite) = true)
    (l_Bwrite : K.lookup f_Bwrite = some ⟨oc_Bwrite, od_Bwrite, .func (PySem.W.fnOf "write" "Book.write" (defArgs sBWrite) (defBody sBWrite) (defScope sBWrite) .none kV_Bwrite dc_Bwrite pm_Bwrite an_Bwrite cd_Bwrite ct_Bwrite), sl_Bwrite⟩) (c_Bwrite : PySem.W.codeIn K cd_Bwrite "Book.write" = true) (k_Bwrite : PySem.W.keepIn K (.ref f_Bwrite) = true)
    (a_Bdrop : PySem.W.findIn K (.ref CB) "drop" = some (some (.ref f_Bdrop))) (i_Bdrop : PySem.W.isFn K (.ref f_Bdrop) = true)
    (l_Bdrop : K.lookup f_Bdrop = some ⟨oc_Bdrop, od_Bdrop, .func (PySem.W.fnOf "drop" "Book.drop" (defArgs sBDrop) (defBody sBDrop) (defScope sBDrop) .none kV_Bdrop dc_Bdrop pm_Bdrop an_Bdrop cd_Bdrop ct_Bdrop), sl_Bdrop⟩) (c_Bdrop : PySem.W.codeIn K cd_Bdrop "Book.drop" = true) (k_Bdrop : PySem.W.keepIn K (.ref f_Bdrop) = true)
    (a_Blayout : PySem.W.findIn K (.ref CB) "layout" = some (some (.ref f_Blayout))) (i_Blayout : PySem.W.isFn K (.ref f_Blayout) = true)
    (l_Blayout : K.lookup f_Blayout = some ⟨oc_Blayout, od_Blayout, .func (PySem.W.fnOf "layout" "Book.layout" (defArgs sBLayout) (defBody sBLayout) (defScope sBLayout) .none kV_Blayout dc_Blayout pm_Blayout an_Blayout cd_Blayout ct_Blayout), sl_Blayout⟩) (c_Blayout : PySem.W.codeIn K cd_Blayout "Book.layout" = true) (k_Blayout : PySem.W.keepIn K (.ref f_Blayout) = true)
    (a_alike : PySem.W.nsIn K mainGlobals "alike" = some (some (.ref f_alike)))
    (l_alike : K.lookup f_alike = some ⟨oc_alike, od_alike, .func (PySem.W.fnOf "alike" "alike" (defArgs sAlike) (defBody sAlike) (defScope sAlike) .none kV_alike dc_alike pm_alike an_alike cd_alike ct_alike), sl_alike⟩) (c_alike : PySem.W.codeIn K cd_alike "alike" = true) (k_alike : PySem.W.keepIn K (.ref f_alike) = true)
    (a_changes : PySem.W.nsIn K mainGlobals "changes" = some (some (.ref f_changes)))
    (l_changes : K.lookup f_changes = some ⟨oc_changes, od_changes, .func (PySem.W.fnOf "changes" "changes" (defArgs sChanges) (defBody sChanges) (defScope sChanges) .none kV_changes dc_changes pm_changes an_changes cd_changes ct_changes), sl_changes⟩) (c_changes : PySem.W.codeIn K cd_changes "changes" = true) (k_changes : PySem.W.keepIn K (.ref f_changes) = true)
    (a__law_cell : PySem.W.nsIn K mainGlobals "_law_cell" = some (some (.ref f__law_cell)))
    (l__law_cell : K.lookup f__law_cell = some ⟨oc__law_cell, od__law_cell, .func (PySem.W.fnOf "_law_cell" "_law_cell" (defArgs sCell) (defBody sCell) (defScope sCell) .none kV__law_cell dc__law_cell pm__law_cell an__law_cell cd__law_cell ct__law_cell), sl__law_cell⟩) (c__law_cell : PySem.W.codeIn K cd__law_cell "_law_cell" = true) (k__law_cell : PySem.W.keepIn K (.ref f__law_cell) = true)
    (a__law_mixed : PySem.W.nsIn K mainGlobals "_law_mixed" = some (some (.ref f__law_mixed)))
    (l__law_mixed : K.lookup f__law_mixed = some ⟨oc__law_mixed, od__law_mixed, .func (PySem.W.fnOf "_law_mixed" "_law_mixed" (defArgs sMixed) (defBody sMixed) (defScope sMixed) .none kV__law_mixed dc__law_mixed pm__law_mixed an__law_mixed cd__law_mixed ct__law_mixed), sl__law_mixed⟩) (c__law_mixed : PySem.W.codeIn K cd__law_mixed "_law_mixed" = true) (k__law_mixed : PySem.W.keepIn K (.ref f__law_mixed) = true)
    (a__law_size : PySem.W.nsIn K mainGlobals "_law_size" = some (some (.ref f__law_size)))
    (l__law_size : K.lookup f__law_size = some ⟨oc__law_size, od__law_size, .func (PySem.W.fnOf "_law_size" "_law_size" (defArgs sLSize) (defBody sLSize) (defScope sLSize) .none kV__law_size dc__law_size pm__law_size an__law_size cd__law_size ct__law_size), sl__law_size⟩) (c__law_size : PySem.W.codeIn K cd__law_size "_law_size" = true) (k__law_size : PySem.W.keepIn K (.ref f__law_size) = true)
    (a__law_other_way : PySem.W.nsIn K mainGlobals "_law_other_way" = some (some (.ref f__law_other_way)))
    (l__law_other_way : K.lookup f__law_other_way = some ⟨oc__law_other_way, od__law_other_way, .func (PySem.W.fnOf "_law_other_way" "_law_other_way" (defArgs sLOther) (defBody sLOther) (defScope sLOther) .none kV__law_other_way dc__law_other_way pm__law_other_way an__law_other_way cd__law_other_way ct__law_other_way), sl__law_other_way⟩) (c__law_other_way : PySem.W.codeIn K cd__law_other_way "_law_other_way" = true) (k__law_other_way : PySem.W.keepIn K (.ref f__law_other_way) = true)
    (a__law_taken : PySem.W.nsIn K mainGlobals "_law_taken" = some (some (.ref f__law_taken)))
    (l__law_taken : K.lookup f__law_taken = some ⟨oc__law_taken, od__law_taken, .func (PySem.W.fnOf "_law_taken" "_law_taken" (defArgs sLTaken) (defBody sLTaken) (defScope sLTaken) .none kV__law_taken dc__law_taken pm__law_taken an__law_taken cd__law_taken ct__law_taken), sl__law_taken⟩) (c__law_taken : PySem.W.codeIn K cd__law_taken "_law_taken" = true) (k__law_taken : PySem.W.keepIn K (.ref f__law_taken) = true)
    (a__law_truth : PySem.W.nsIn K mainGlobals "_law_truth" = some (some (.ref f__law_truth)))
    (l__law_truth : K.lookup f__law_truth = some ⟨oc__law_truth, od__law_truth, .func (PySem.W.fnOf "_law_truth" "_law_truth" (defArgs sLTruth) (defBody sLTruth) (defScope sLTruth) .none kV__law_truth dc__law_truth pm__law_truth an__law_truth cd__law_truth ct__law_truth), sl__law_truth⟩) (c__law_truth : PySem.W.codeIn K cd__law_truth "_law_truth" = true) (k__law_truth : PySem.W.keepIn K (.ref f__law_truth) = true)
    (a_law : PySem.W.nsIn K mainGlobals "law" = some (some (.ref f_law)))
    (l_law : K.lookup f_law = some ⟨oc_law, od_law, .func (PySem.W.fnOf "law" "law" (defArgs sLaw) (defBody sLaw) (defScope sLaw) .none kV_law dc_law pm_law an_law cd_law ct_law), sl_law⟩) (c_law : PySem.W.codeIn K cd_law "law" = true) (k_law : PySem.W.keepIn K (.ref f_law) = true)
    (pg : PySem.W.plainGet K C Str.empty = true) (hd : PySem.W.hasDictIn K C = true) (po : PySem.W.plainOver K C = true) (sa : PySem.W.findIn K (.ref C) "__setattr__" = some (some (.builtin "object.__setattr__"))) (mk : PySem.W.makesIn K C = true) (kc : PySem.W.keepIn K (.ref C) = true)
    (nM : PySem.W.findIn K (.ref C) "many" = some none) (nR : PySem.W.findIn K (.ref C) "rule" = some none) (nC : PySem.W.findIn K (.ref C) "cells" = some none)
    (pgB : PySem.W.plainGet K CB Str.empty = true) (hdB : PySem.W.hasDictIn K CB = true) (poB : PySem.W.plainOver K CB = true) (saB : PySem.W.findIn K (.ref CB) "__setattr__" = some (some (.builtin "object.__setattr__"))) (mkB : PySem.W.makesIn K CB = true) (kcB : PySem.W.keepIn K (.ref CB) = true)
    (nYB : PySem.W.findIn K (.ref CB) "yard" = some none) (nWB : PySem.W.findIn K (.ref CB) "worths" = some none)
    (a_YardError : PySem.W.nsIn K mainGlobals "YardError" = some (some (.ref C_YardError)))
    (a_NoSize : PySem.W.nsIn K mainGlobals "NoSize" = some (some (.ref C_NoSize)))
    (e_NoSize : PySem.W.excIn K C_NoSize L2.excBm "ValueError.__new__" = true) (m_NoSize : PySem.W.exmOne K (.ref C_NoSize) (.ref C_YardError) = some true) (v_NoSize : PySem.W.kitOne K (.ref C_NoSize) (.type "ValueError") = some true)
    (cl_NoSize : PySem.W.hasDictIn K C_NoSize = true)
    (ga_NoSize : PySem.W.findIn K (.ref C_NoSize) "__getattribute__" = some (some (.builtin "BaseException.__getattribute__")))
    (gt_NoSize : PySem.W.findIn K (.ref C_NoSize) "__getattr__" = some none)
    (kl_NoSize : PySem.W.findIn K (.ref C_NoSize) "__class__" = some (some (.builtin "object.__class__")))
    (gg_NoSize : PySem.W.specialIn K (.builtin "object.__class__") "__get__" = some (some (.builtin "getset_descriptor.__get__")))
    (tk_NoSize : PySem.W.takesIn K (.builtin "object.__class__") = some true)
    (ob_NoSize : PySem.W.mroIn K C_NoSize (.type "object") = some true)
    (ex_NoSize : PySem.W.subIn K (.ref C_NoSize) (.type "BaseException") = some true)
    (a_Here : PySem.W.nsIn K mainGlobals "Here" = some (some (.ref C_Here)))
    (e_Here : PySem.W.excIn K C_Here L2.excBm "ValueError.__new__" = true) (m_Here : PySem.W.exmOne K (.ref C_Here) (.ref C_YardError) = some true) (v_Here : PySem.W.kitOne K (.ref C_Here) (.type "ValueError") = some true)
    (cl_Here : PySem.W.hasDictIn K C_Here = true)
    (ga_Here : PySem.W.findIn K (.ref C_Here) "__getattribute__" = some (some (.builtin "BaseException.__getattribute__")))
    (gt_Here : PySem.W.findIn K (.ref C_Here) "__getattr__" = some none)
    (kl_Here : PySem.W.findIn K (.ref C_Here) "__class__" = some (some (.builtin "object.__class__")))
    (gg_Here : PySem.W.specialIn K (.builtin "object.__class__") "__get__" = some (some (.builtin "getset_descriptor.__get__")))
    (tk_Here : PySem.W.takesIn K (.builtin "object.__class__") = some true)
    (ob_Here : PySem.W.mroIn K C_Here (.type "object") = some true)
    (ex_Here : PySem.W.subIn K (.ref C_Here) (.type "BaseException") = some true)
    (a_Full : PySem.W.nsIn K mainGlobals "Full" = some (some (.ref C_Full)))
    (e_Full : PySem.W.excIn K C_Full L2.excBm "ValueError.__new__" = true) (m_Full : PySem.W.exmOne K (.ref C_Full) (.ref C_YardError) = some true) (v_Full : PySem.W.kitOne K (.ref C_Full) (.type "ValueError") = some true)
    (cl_Full : PySem.W.hasDictIn K C_Full = true)
    (ga_Full : PySem.W.findIn K (.ref C_Full) "__getattribute__" = some (some (.builtin "BaseException.__getattribute__")))
    (gt_Full : PySem.W.findIn K (.ref C_Full) "__getattr__" = some none)
    (kl_Full : PySem.W.findIn K (.ref C_Full) "__class__" = some (some (.builtin "object.__class__")))
    (gg_Full : PySem.W.specialIn K (.builtin "object.__class__") "__get__" = some (some (.builtin "getset_descriptor.__get__")))
    (tk_Full : PySem.W.takesIn K (.builtin "object.__class__") = some true)
    (ob_Full : PySem.W.mroIn K C_Full (.type "object") = some true)
    (ex_Full : PySem.W.subIn K (.ref C_Full) (.type "BaseException") = some true)
    (a_NoCart : PySem.W.nsIn K mainGlobals "NoCart" = some (some (.ref C_NoCart)))
    (e_NoCart : PySem.W.excIn K C_NoCart L2.excBm "ValueError.__new__" = true) (m_NoCart : PySem.W.exmOne K (.ref C_NoCart) (.ref C_YardError) = some true) (v_NoCart : PySem.W.kitOne K (.ref C_NoCart) (.type "ValueError") = some true)
    (cl_NoCart : PySem.W.hasDictIn K C_NoCart = true)
    (ga_NoCart : PySem.W.findIn K (.ref C_NoCart) "__getattribute__" = some (some (.builtin "BaseException.__getattribute__")))
    (gt_NoCart : PySem.W.findIn K (.ref C_NoCart) "__getattr__" = some none)
    (kl_NoCart : PySem.W.findIn K (.ref C_NoCart) "__class__" = some (some (.builtin "object.__class__")))
    (gg_NoCart : PySem.W.specialIn K (.builtin "object.__class__") "__get__" = some (some (.builtin "getset_descriptor.__get__")))
    (tk_NoCart : PySem.W.takesIn K (.builtin "object.__class__") = some true)
    (ob_NoCart : PySem.W.mroIn K C_NoCart (.type "object") = some true)
    (ex_NoCart : PySem.W.subIn K (.ref C_NoCart) (.type "BaseException") = some true)
    (q_FIRST : PySem.W.nsIn K mainGlobals "FIRST" = some (some (.int 0 t_FIRST)))
    (q_FAR : PySem.W.nsIn K mainGlobals "FAR" = some (some (.int 2 t_FAR)))
    (q_LEAST_STALLS : PySem.W.nsIn K mainGlobals "LEAST_STALLS" = some (some (.int 2 t_LEAST_STALLS)))
    (q_MOST_STALLS : PySem.W.nsIn K mainGlobals "MOST_STALLS" = some (some (.int 200 t_MOST_STALLS)))
    (q_MOST_NAMES : PySem.W.nsIn K mainGlobals "MOST_NAMES" = some (some (.int 96 t_MOST_NAMES)))
    (q_SIZES : PySem.W.nsIn K mainGlobals "SIZES" = some (some (.ref aS)))
    (l_SIZES : K.lookup aS = some ⟨.type "tuple", od_S, .seq #[.int 4 t1_S, .int 8 t2_S, .int 16 t3_S, .int 32 t4_S, .int 64 t5_S, .int 128 t6_S] n_S, sl_S⟩)
    (z_len : PySem.W.nsIn K mainGlobals "len" = some none)
    (z_sorted : PySem.W.nsIn K mainGlobals "sorted" = some none)
    (z_list : PySem.W.nsIn K mainGlobals "list" = some none)
    (z_isinstance : PySem.W.nsIn K mainGlobals "isinstance" = some none)
    (z_int : PySem.W.nsIn K mainGlobals "int" = some none)
    (z_bool : PySem.W.nsIn K mainGlobals "bool" = some none)
    (z_tuple : PySem.W.nsIn K mainGlobals "tuple" = some none)
    (z_enumerate : PySem.W.nsIn K mainGlobals "enumerate" = some none)
    (z_min : PySem.W.nsIn K mainGlobals "min" = some none)
    (z_set : PySem.W.nsIn K mainGlobals "set" = some none) :
    ∃ fd : FuncData, (∀ (s : Shared) (v : Value), BindsTo s fd ⟨[v], []⟩ [("script", v)]) ∧ ∀ base : Heap, K.In base → base.Ns mainGlobals mg → FnOk l.prog w K mg base CX0 13 fa fd ["script"] (spLaw K) := by
  have e := hfa.symm.trans (PySem.W.mg_of X G a_law)
  cases e
  have T : Txt K mg C := ⟨⟨pg, hd, po, sa⟩, nM, nR, nC, ⟨_, PySem.W.mg_of X G q_FIRST⟩, ⟨_, PySem.W.mg_of X G q_FAR⟩, ⟨_, PySem.W.mg_of X G q_LEAST_STALLS⟩, ⟨_, PySem.W.mg_of X G q_MOST_STALLS⟩, PySem.W.mg_none_of X G z_len, PySem.W.mg_none_of X G z_sorted, PySem.W.mg_none_of X G z_list⟩
  have L : LTxt K mg := ⟨PySem.W.mg_none_of X G z_len, PySem.W.mg_none_of X G z_isinstance, PySem.W.mg_none_of X G z_int, PySem.W.mg_none_of X G z_bool, PySem.W.mg_none_of X G z_list, PySem.W.mg_none_of X G z_tuple, kII K, kIB K, kLL K, kTT K⟩
  have F_i := fun_mk (st := sInit) l_i c_i k_i
  have b_i := F_i.binds (ps := ["self", "many", "rule"]) fun _ _ _ _ _ _ us hl => match us, hl with | [_, _, _], _ => rfl
  have F_Bi := fun_mk (st := sBInit) l_Bi c_Bi k_Bi
  have b_Bi := F_Bi.binds (ps := ["self", "rule"]) fun _ _ _ _ _ _ us hl => match us, hl with | [_, _], _ => rfl
  have F_is_size := fun_mk (st := sSize) l_is_size c_is_size k_is_size
  have b_is_size := F_is_size.binds (ps := ["many"]) fun _ _ _ _ _ _ us hl => match us, hl with | [_], _ => rfl
  have F_way := fun_mk (st := sWay) l_way c_way k_way
  have b_way := F_way.binds (ps := ["name", "at", "many"]) fun _ _ _ _ _ _ us hl => match us, hl with | [_, _, _], _ => rfl
  have F_keeps := fun_mk (st := sKeeps) l_keeps c_keeps k_keeps
  have b_keeps := F_keeps.binds (ps := ["rule", "one", "other", "at", "many"]) fun _ _ _ _ _ _ us hl => match us, hl with | [_, _, _, _, _], _ => rfl
  have F_passes := fun_mk (st := sPasses) l_passes c_passes k_passes
  have b_passes := F_passes.binds (ps := ["name", "passed", "at", "many"]) fun _ _ _ _ _ _ us hl => match us, hl with | [_, _, _, _], _ => rfl
  have F_wish := fun_mk (st := sWish) l_wish c_wish k_wish
  have b_wish := F_wish.binds (ps := ["self", "name"]) fun _ _ _ _ _ _ us hl => match us, hl with | [_, _], _ => rfl
  have F_behind := fun_mk (st := sBehind) l_behind c_behind k_behind
  have b_behind := F_behind.binds (ps := ["self", "at"]) fun _ _ _ _ _ _ us hl => match us, hl with | [_, _], _ => rfl
  have F_stand := fun_mk (st := sStand) l_stand c_stand k_stand
  have b_stand := F_stand.binds (ps := ["self", "name", "at"]) fun _ _ _ _ _ _ us hl => match us, hl with | [_, _, _], _ => rfl
  have F_leads_on := fun_mk (st := sLeads) l_leads_on c_leads_on k_leads_on
  have b_leads_on := F_leads_on.binds (ps := ["self", "name", "at"]) fun _ _ _ _ _ _ us hl => match us, hl with | [_, _, _], _ => rfl
  have F_looked := fun_mk (st := sLooked) l_looked c_looked k_looked
  have b_looked := F_looked.binds (ps := ["self", "name"]) fun _ _ _ _ _ _ us hl => match us, hl with | [_, _], _ => rfl
  have F_where := fun_mk (st := sWhere) l_where c_where k_where
  have b_where := F_where.binds (ps := ["self", "name"]) fun _ _ _ _ _ _ us hl => match us, hl with | [_, _], _ => rfl
  have F_stalls := fun_mk (st := sStalls) l_stalls c_stalls k_stalls
  have b_stalls := F_stalls.binds (ps := ["self"]) fun _ _ _ _ _ _ us hl => match us, hl with | [_], _ => rfl
  have F_names := fun_mk (st := sNames) l_names c_names k_names
  have b_names := F_names.binds (ps := ["self"]) fun _ _ _ _ _ _ us hl => match us, hl with | [_], _ => rfl
  have F_how_many := fun_mk (st := sHow) l_how_many c_how_many k_how_many
  have b_how_many := F_how_many.binds (ps := ["self"]) fun _ _ _ _ _ _ us hl => match us, hl with | [_], _ => rfl
  have F_put := fun_mk (st := sPut) l_put c_put k_put
  have b_put := F_put.binds (ps := ["self", "name"]) fun _ _ _ _ _ _ us hl => match us, hl with | [_, _], _ => rfl
  have F_nearest_passing := fun_mk (st := sNear) l_nearest_passing c_nearest_passing k_nearest_passing
  have b_nearest_passing := F_nearest_passing.binds (ps := ["self", "gap"]) fun _ _ _ _ _ _ us hl => match us, hl with | [_, _], _ => rfl
  have F_take := fun_mk (st := sTake) l_take c_take k_take
  have b_take := F_take.binds (ps := ["self", "name"]) fun _ _ _ _ _ _ us hl => match us, hl with | [_, _], _ => rfl
  have F_put_missing := fun_mk (st := sMissing) l_put_missing c_put_missing k_put_missing
  have b_put_missing := F_put_missing.binds (ps := ["yard", "layout"]) fun _ _ _ _ _ _ us hl => match us, hl with | [_, _], _ => rfl
  have F_moved := fun_mk (st := sMoved) l_moved c_moved k_moved
  have b_moved := F_moved.binds (ps := ["yard", "many"]) fun _ _ _ _ _ _ us hl => match us, hl with | [_, _], _ => rfl
  have F_stalls_wanted := fun_mk (st := sWanted) l_stalls_wanted c_stalls_wanted k_stalls_wanted
  have b_stalls_wanted := F_stalls_wanted.binds (ps := ["count"]) fun _ _ _ _ _ _ us hl => match us, hl with | [_], _ => rfl
  have F_Bhow_many := fun_mk (st := sBHow) l_Bhow_many c_Bhow_many k_Bhow_many
  have b_Bhow_many := F_Bhow_many.binds (ps := ["self"]) fun _ _ _ _ _ _ us hl => match us, hl with | [_], _ => rfl
  have F_Bworth := fun_mk (st := sBWorth) l_Bworth c_Bworth k_Bworth
  have b_Bworth := F_Bworth.binds (ps := ["self", "name"]) fun _ _ _ _ _ _ us hl => match us, hl with | [_, _], _ => rfl
  have F_Bfit := fun_mk (st := sBFit) l_Bfit c_Bfit k_Bfit
  have b_Bfit := F_Bfit.binds (ps := ["self", "count"]) fun _ _ _ _ _ _ us hl => match us, hl with | [_, _], _ => rfl
  have F_Bbring := fun_mk (st := sBBring) l_Bbring c_Bbring k_Bbring
  have b_Bbring := F_Bbring.binds (ps := ["self", "name"]) fun _ _ _ _ _ _ us hl => match us, hl with | [_, _], _ => rfl
  have F_Bwrite := fun_mk (st := sBWrite) l_Bwrite c_Bwrite k_Bwrite
  have b_Bwrite := F_Bwrite.binds (ps := ["self", "name", "worth"]) fun _ _ _ _ _ _ us hl => match us, hl with | [_, _, _], _ => rfl
  have F_Bdrop := fun_mk (st := sBDrop) l_Bdrop c_Bdrop k_Bdrop
  have b_Bdrop := F_Bdrop.binds (ps := ["self", "name"]) fun _ _ _ _ _ _ us hl => match us, hl with | [_, _], _ => rfl
  have F_Blayout := fun_mk (st := sBLayout) l_Blayout c_Blayout k_Blayout
  have b_Blayout := F_Blayout.binds (ps := ["self"]) fun _ _ _ _ _ _ us hl => match us, hl with | [_], _ => rfl
  have F_alike := fun_mk (st := sAlike) l_alike c_alike k_alike
  have b_alike := F_alike.binds (ps := ["one", "other"]) fun _ _ _ _ _ _ us hl => match us, hl with | [_, _], _ => rfl
  have F_changes := fun_mk (st := sChanges) l_changes c_changes k_changes
  have b_changes := F_changes.binds (ps := ["one", "other"]) fun _ _ _ _ _ _ us hl => match us, hl with | [_, _], _ => rfl
  have F__law_cell := fun_mk (st := sCell) l__law_cell c__law_cell k__law_cell
  have b__law_cell := F__law_cell.binds (ps := ["script", "k"]) fun _ _ _ _ _ _ us hl => match us, hl with | [_, _], _ => rfl
  have F__law_mixed := fun_mk (st := sMixed) l__law_mixed c__law_mixed k__law_mixed
  have b__law_mixed := F__law_mixed.binds (ps := ["cell", "row"]) fun _ _ _ _ _ _ us hl => match us, hl with | [_, _], _ => rfl
  have F__law_size := fun_mk (st := sLSize) l__law_size c__law_size k__law_size
  have b__law_size := F__law_size.binds (ps := ["count"]) fun _ _ _ _ _ _ us hl => match us, hl with | [_], _ => rfl
  have F__law_other_way := fun_mk (st := sLOther) l__law_other_way c__law_other_way k__law_other_way
  have b__law_other_way := F__law_other_way.binds (ps := ["book", "names", "worths", "strangers", "cell"]) fun _ _ _ _ _ _ us hl => match us, hl with | [_, _, _, _, _], _ => rfl
  have F__law_taken := fun_mk (st := sLTaken) l__law_taken c__law_taken k__law_taken
  have b__law_taken := F__law_taken.binds (ps := ["book"]) fun _ _ _ _ _ _ us hl => match us, hl with | [_], _ => rfl
  have F__law_truth := fun_mk (st := sLTruth) l__law_truth c__law_truth k__law_truth
  have b__law_truth := F__law_truth.binds (ps := ["found", "due"]) fun _ _ _ _ _ _ us hl => match us, hl with | [_, _], _ => rfl
  have F_law := fun_mk (st := sLaw) l_law c_law k_law
  refine ⟨PySem.W.fnOf "law" "law" (defArgs sLaw) (defBody sLaw) (defScope sLaw) .none kV_law dc_law pm_law an_law cd_law ct_law, fun s v => .of_eq rfl, fun base KB _ => ?_⟩
  have E_NoSize : ExcT K mg base "NoSize" C_NoSize C_YardError := ⟨own_at KB (PySem.W.mg_of X G a_NoSize) e_NoSize, ⟨cl_NoSize, ga_NoSize, gt_NoSize, kl_NoSize, gg_NoSize, tk_NoSize, ob_NoSize, ex_NoSize⟩, m_NoSize, v_NoSize⟩
  have E_Here : ExcT K mg base "Here" C_Here C_YardError := ⟨own_at KB (PySem.W.mg_of X G a_Here) e_Here, ⟨cl_Here, ga_Here, gt_Here, kl_Here, gg_Here, tk_Here, ob_Here, ex_Here⟩, m_Here, v_Here⟩
  have E_Full : ExcT K mg base "Full" C_Full C_YardError := ⟨own_at KB (PySem.W.mg_of X G a_Full) e_Full, ⟨cl_Full, ga_Full, gt_Full, kl_Full, gg_Full, tk_Full, ob_Full, ex_Full⟩, m_Full, v_Full⟩
  have E_NoCart : ExcT K mg base "NoCart" C_NoCart C_YardError := ⟨own_at KB (PySem.W.mg_of X G a_NoCart) e_NoCart, ⟨cl_NoCart, ga_NoCart, gt_NoCart, kl_NoCart, gg_NoCart, tk_NoCart, ob_NoCart, ex_NoCart⟩, m_NoCart, v_NoCart⟩
  have M : Mk K C f_i := ⟨mk, a_i, i_i, kc⟩
  have mgY := PySem.W.mg_of X G aC
  have MB : Mk K CB f_Bi := ⟨mkB, a_Bi, i_Bi, kcB⟩
  have mgB := PySem.W.mg_of X G aCB
  have G_is_size : FnG l.prog w K mg base "is_size" ["many"] 1 spSize := ⟨_, _, PySem.W.mg_of X G a_is_size, k_is_size, b_is_size, ok_size F_is_size T⟩
  have G_way : FnG l.prog w K mg base "way" ["name", "at", "many"] 1 spWay := ⟨_, _, PySem.W.mg_of X G a_way, k_way, b_way, ok_way F_way⟩
  have G_keeps : FnG l.prog w K mg base "keeps" ["rule", "one", "other", "at", "many"] 2 spKeeps := ⟨_, _, PySem.W.mg_of X G a_keeps, k_keeps, b_keeps, ok_keeps F_keeps T.first T.far G_way⟩
  have G_passes : FnG l.prog w K mg base "passes" ["name", "passed", "at", "many"] 2 spPasses := ⟨_, _, PySem.W.mg_of X G a_passes, k_passes, b_passes, ok_passes F_passes G_way⟩
  have G_wish : MtG l.prog w K mg base C "wish" ["self", "name"] 1 (spWish C) := ⟨_, _, ⟨a_wish, i_wish, k_wish⟩, b_wish, ok_wish F_wish T⟩
  have G_behind : MtG l.prog w K mg base C "behind" ["self", "at"] 1 (spBehind C) := ⟨_, _, ⟨a_behind, i_behind, k_behind⟩, b_behind, ok_behind F_behind T⟩
  have G_stand : MtG l.prog w K mg base C "stand" ["self", "name", "at"] 1 (spStand C) := ⟨_, _, ⟨a_stand, i_stand, k_stand⟩, b_stand, ok_stand F_stand T⟩
  have G_leads_on : MtG l.prog w K mg base C "leads_on" ["self", "name", "at"] 3 (spLeads C) := ⟨_, _, ⟨a_leads_on, i_leads_on, k_leads_on⟩, b_leads_on, ok_leads F_leads_on T G_keeps⟩
  have G_looked : MtG l.prog w K mg base C "looked" ["self", "name"] 4 (spLooked C) := ⟨_, _, ⟨a_looked, i_looked, k_looked⟩, b_looked, ok_looked F_looked T G_wish G_behind G_leads_on⟩
  have G_where : MtG l.prog w K mg base C "where" ["self", "name"] 5 (spWhere C) := ⟨_, _, ⟨a_where, i_where, k_where⟩, b_where, ok_where F_where T G_looked⟩
  have G_stalls : MtG l.prog w K mg base C "stalls" ["self"] 1 (spStalls C) := ⟨_, _, ⟨a_stalls, i_stalls, k_stalls⟩, b_stalls, ok_stalls F_stalls T⟩
  have G_names : MtG l.prog w K mg base C "names" ["self"] 1 (spNamesW C) := ⟨_, _, ⟨a_names, i_names, k_names⟩, b_names, ok_namesW F_names T⟩
  have G_how_many : MtG l.prog w K mg base C "how_many" ["self"] 2 (spHowW C) := ⟨_, _, ⟨a_how_many, i_how_many, k_how_many⟩, b_how_many, ok_howW F_how_many T G_names⟩
  have G_put : MtG l.prog w K mg base C "put" ["self", "name"] 6 (spPutW C) := ⟨_, _, ⟨a_put, i_put, k_put⟩, b_put, ok_putW F_put T G_where G_how_many G_wish G_behind G_stand G_keeps⟩
  have G_nearest_passing : MtG l.prog w K mg base C "nearest_passing" ["self", "gap"] 3 (spNear C) := ⟨_, _, ⟨a_nearest_passing, i_nearest_passing, k_nearest_passing⟩, b_nearest_passing, ok_near F_nearest_passing T G_behind G_passes⟩
  have G_take : MtG l.prog w K mg base C "take" ["self", "name"] 6 (spTake C) := ⟨_, _, ⟨a_take, i_take, k_take⟩, b_take, ok_take F_take T G_where G_nearest_passing G_stand⟩
  have GI : FnOk l.prog w K mg base CX0 2 f_i _ ["self", "many", "rule"] (spInit C) := ok_init F_i T G_is_size
  have GIX : FnOk l.prog w K mg base (CX1 l.prog w) 2 f_i _ ["self", "many", "rule"] (fun vs H Q E => spInit C vs H Q E ∨ spInitX C_NoSize vs H Q E) := FnOk.or GI.up (ok_initX F_i T G_is_size E_NoSize)
  have GPO : MtX l.prog w K mg base C "put" ["self", "name"] 6 (spPutOr 200 C C_Full) := ⟨_, _, ⟨a_put, i_put, k_put⟩, b_put, put_orW (ok_putW F_put T G_where G_how_many G_wish G_behind G_stand G_keeps) (ok_putXW F_put T E_Here E_Full G_where G_how_many) 200⟩
  have G_put_missing : FnX l.prog w K mg base "put_missing" ["yard", "layout"] 7 (spMissing 200 C C_Full) := ⟨_, _, PySem.W.mg_of X G a_put_missing, k_put_missing, b_put_missing, ok_missing F_put_missing T G_where GPO⟩
  have G_moved : FnX l.prog w K mg base "moved" ["yard", "many"] 8 (spMovedB 200 C C_NoSize C_Full) := ⟨_, _, PySem.W.mg_of X G a_moved, k_moved, b_moved, ok_moved F_moved T M b_i mgY GIX G_stalls G_put_missing⟩
  have BT : BTxt K mg CB aS := ⟨⟨pgB, hdB, poB, saB⟩, nYB, nWB, ⟨_, PySem.W.mg_of X G q_MOST_NAMES⟩, PySem.W.mg_of X G q_SIZES, fun H => .inr ⟨_, _, _, l_SIZES, rfl, rfl, (by show 6 ≤ sizeLine; decide), .cons ⟨_, rfl⟩ (.cons ⟨_, rfl⟩ (.cons ⟨_, rfl⟩ (.cons ⟨_, rfl⟩ (.cons ⟨_, rfl⟩ (.cons ⟨_, rfl⟩ .nil)))))⟩, (PySem.W.mg_none_of X G z_len), (PySem.W.mg_none_of X G z_min)⟩
  have G_stalls_wanted : FnG l.prog w K mg base "stalls_wanted" ["count"] 1 spWanted := ⟨_, _, PySem.W.mg_of X G a_stalls_wanted, k_stalls_wanted, b_stalls_wanted, ok_wanted F_stalls_wanted BT⟩
  have G_Bhow_many : MtG l.prog w K mg base CB "how_many" ["self"] 1 (spBHow C CB) := ⟨_, _, ⟨a_Bhow_many, i_Bhow_many, k_Bhow_many⟩, b_Bhow_many, ok_bhow F_Bhow_many BT⟩
  have G_Bworth : MtG l.prog w K mg base CB "worth" ["self", "name"] 1 (spBWorth C CB) := ⟨_, _, ⟨a_Bworth, i_Bworth, k_Bworth⟩, b_Bworth, ok_bworth F_Bworth BT⟩
  have GX_Bfit : MtX l.prog w K mg base CB "fit" ["self", "count"] 9 (spBFit C CB) := ⟨_, _, ⟨a_Bfit, i_Bfit, k_Bfit⟩, b_Bfit, ok_bfit F_Bfit T BT G_stalls_wanted G_moved⟩
  have GX_Bbring : MtX l.prog w K mg base CB "bring" ["self", "name"] 10 (spBBring C CB C_Full) := ⟨_, _, ⟨a_Bbring, i_Bbring, k_Bbring⟩, b_Bbring, ok_bbring F_Bbring T BT E_Full G_Bhow_many GX_Bfit G_put⟩
  have GX_Bwrite : MtX l.prog w K mg base CB "write" ["self", "name", "worth"] 11 (spBWrite C CB C_Full) := ⟨_, _, ⟨a_Bwrite, i_Bwrite, k_Bwrite⟩, b_Bwrite, ok_bwrite F_Bwrite BT GX_Bbring⟩
  have GX_Bdrop : MtX l.prog w K mg base CB "drop" ["self", "name"] 10 (spBDrop C CB C_NoCart) := ⟨_, _, ⟨a_Bdrop, i_Bdrop, k_Bdrop⟩, b_Bdrop, ok_bdrop F_Bdrop T BT E_NoCart G_Bhow_many GX_Bfit G_take⟩
  have G_Blayout : MtG l.prog w K mg base CB "layout" ["self"] 2 (spBLayout C CB) := ⟨_, _, ⟨a_Blayout, i_Blayout, k_Blayout⟩, b_Blayout, ok_blayout F_Blayout T BT G_stalls⟩
  have GBI : FnOk l.prog w K mg base CX0 4 f_Bi _ ["self", "rule"] (spBInit C CB) := ok_binit F_Bi BT M b_i mgY GI G_stalls_wanted
  have GWr := wr_any GX_Bwrite
  have GDr := dr_any GX_Bdrop
  have G_alike : FnG l.prog w K mg base "alike" ["one", "other"] 1 (spAlike C CB) := ⟨_, _, PySem.W.mg_of X G a_alike, k_alike, b_alike, ok_alike F_alike BT⟩
  have G_changes : FnG l.prog w K mg base "changes" ["one", "other"] 2 (spChanges C CB) := ⟨_, _, PySem.W.mg_of X G a_changes, k_changes, b_changes, ok_changes F_changes BT (PySem.W.mg_none_of X G z_sorted) (PySem.W.mg_none_of X G z_set) G_Bworth⟩
  have G__law_cell : FnG l.prog w K mg base "_law_cell" ["script", "k"] 1 (spCell K) := ⟨_, _, PySem.W.mg_of X G a__law_cell, k__law_cell, b__law_cell, ok_cell F__law_cell L⟩
  have G__law_mixed : FnG l.prog w K mg base "_law_mixed" ["cell", "row"] 1 (spMixed K) := ⟨_, _, PySem.W.mg_of X G a__law_mixed, k__law_mixed, b__law_mixed, ok_mixed F__law_mixed L⟩
  have G__law_size : FnG l.prog w K mg base "_law_size" ["count"] 1 spLSize := ⟨_, _, PySem.W.mg_of X G a__law_size, k__law_size, b__law_size, ok_lsize F__law_size⟩
  have G__law_other_way : FnG l.prog w K mg base "_law_other_way" ["book", "names", "worths", "strangers", "cell"] 12 (spBOther C CB) := ⟨_, _, PySem.W.mg_of X G a__law_other_way, k__law_other_way, b__law_other_way, ok_bother F__law_other_way BT L (PySem.W.mg_none_of X G z_enumerate) GWr GDr⟩
  have G__law_taken : FnG l.prog w K mg base "_law_taken" ["book"] 3 (spBTaken C CB) := ⟨_, _, PySem.W.mg_of X G a__law_taken, k__law_taken, b__law_taken, ok_btaken F__law_taken BT G_Blayout⟩
  have G__law_truth : FnG l.prog w K mg base "_law_truth" ["found", "due"] 1 spTruth := ⟨_, _, PySem.W.mg_of X G a__law_truth, k__law_truth, b__law_truth, ok_ltruth F__law_truth L⟩
  exact ok_law F_law BT L (PySem.W.mg_none_of X G z_enumerate) MB b_Bi mgB GBI G__law_cell G__law_mixed G__law_other_way G__law_size G__law_taken G__law_truth GWr GDr G_Blayout G_changes G_alike
theorem walk {l : PySem.W.OpenLaw} {q : Program} {loose : List Str} {XP : (Str → Option Value) → Heap → Prop} {YP : World → Heap → Prop} {d : DefRec} {K : Params → PySem.W.Frag} (hn : l.most = some 63) (hdf : d.params.defaults = [])
    (hY : ∀ (w : World) (h : Heap), YP w h → (K w.params).In h)
    (F : ∀ (w : World) (mg : Str → Option Value) (fa : Addr) (h : Heap), (K w.params).In h → h.Ns mainGlobals mg → mg d.name = some (.ref fa) →
      ∃ fd : FuncData, (∀ (s : Shared) (u : Value), BindsTo s fd ⟨[u], []⟩ [("script", u)]) ∧ ∀ base : Heap, (K w.params).In base → base.Ns mainGlobals mg → FnOk l.prog w (K w.params) mg base CX0 13 fa fd ["script"] (spLaw (K w.params))) :
    PySem.W.WalkO q loose XP YP l.row.toRowW d [] (fun f vs => PySem.call f vs) :=
  L2.walk_of (n := 63) (k := 13) (x := "script") (CX := fun _ => CX0) (sp := fun w => spLaw (K w.params)) hn (by decide) hdf ⟨rfl, by decide, by decide⟩ hY F (fun _ _ a ns hl _ hS => ⟨a, ns, rfl, hS, hl, fun _ => rfl⟩) fun _ _ _ _ _ z => z
end Y
def PySem.W.Fast.tw6010793623874233496 : Unit := ()
def PySem.W.Fast.tw13183175099919401426 : Unit := ()
def PySem.W.Fast.tw16575302966975057804 : Unit := ()
def PySem.W.Fast.tw14048213329735468255 : Unit := ()
def PySem.W.Fast.tw8467991556160362071 : Unit := ()
def PySem.W.Fast.tw7818792077063695522 : Unit := ()
def PySem.W.Fast.tw18039077445603592299 : Unit := ()
def PySem.W.Fast.tw17187371557168525079 : Unit := ()
def PySem.W.Fast.tw1965266295752805328 : Unit := ()
def PySem.W.Fast.tw12234914813187530599 : Unit := ()
def PySem.W.Fast.tw17045615822046690654 : Unit := ()
def PySem.W.Fast.tw7027050720560689169 : Unit := ()
def PySem.W.Fast.tw9016567743118483590 : Unit := ()
def PySem.W.Fast.tw5196366513976598549 : Unit := ()
def PySem.W.Fast.tw11592116332142794692 : Unit := ()
def PySem.W.Fast.tw6699270614917076003 : Unit := ()
def PySem.W.Fast.tw14147441612735559480 : Unit := ()
def PySem.W.Fast.tw3537545082962119385 : Unit := ()
def PySem.W.Fast.tw14041568157922134676 : Unit := ()
def PySem.W.Fast.tw15578021271954888027 : Unit := ()
def PySem.W.Fast.tw8710577271664891558 : Unit := ()
def PySem.W.Fast.tw10454363376527823294 : Unit := ()
def PySem.W.Fast.tw7007169210437740734 : Unit := ()
def PySem.W.Fast.tw16993659241137860638 : Unit := ()
def PySem.W.Fast.tw4342696429721024624 : Unit := ()
def PySem.W.Fast.tw1275364297484528495 : Unit := ()
def PySem.W.Fast.tw6721142723484909051 : Unit := ()
def PySem.W.Fast.tw12144217398150310228 : Unit := ()
def PySem.W.Fast.tw11792692742827245125 : Unit := ()
def PySem.W.Fast.tw12008285259484690899 : Unit := ()
open PySem PySem.W PyProof.Rows
set_option maxRecDepth 100000 in
set_option maxHeartbeats 0 in
theorem PySem.Challenge.cw_stallyard_k11_whole_books_stand_alike_holds : PySem.Challenge.rw_stallyard_k11_whole_books_stand_alike.Holds := by
  w_on; o_law; k_head; (case hw => w_witness2)
  k_fill
  refine Y.walk (l := PySem.Challenge.rw_stallyard_k11_whole_books_stand_alike) rfl rfl (fun w h Y => PySem.W.kIn_of Y) ?F
  case F =>
    intro w mg fa h KX G hmg
    refine' Y.all_mk KX G hmg ?aC ?aCB ?a_i ?i_i ?l_i ?c_i ?k_i ?a_Bi ?i_Bi ?l_Bi ?c_Bi ?k_Bi ?a_is_size ?l_is_size ?c_is_size ?k_is_size ?a_way ?l_way ?c_way ?k_way ?a_keeps ?l_keeps ?c_keeps ?k_keeps ?a_passes ?l_passes ?c_passes ?k_passes ?a_wish ?i_wish ?l_wish ?c_wish ?k_wish ?a_behind ?i_behind ?l_behind ?c_behind ?k_behind ?a_stand ?i_stand ?l_stand ?c_stand ?k_stand ?a_leads_on ?i_leads_on ?l_leads_on ?c_leads_on ?k_leads_on ?a_looked ?i_looked ?l_looked ?c_looked ?k_looked ?a_where ?i_where ?l_where ?c_where ?k_where ?a_stalls ?i_stalls ?l_stalls ?c_stalls ?k_stalls ?a_names ?i_names ?l_names ?c_names ?k_names ?a_how_many ?i_how_many ?l_how_many ?c_how_many ?k_how_many ?a_put ?i_put ?l_put ?c_put ?k_put ?a_nearest_passing ?i_nearest_passing ?l_nearest_passing ?c_nearest_passing ?k_nearest_passing ?a_take ?i_take ?l_take ?c_take ?k_take ?a_put_missing ?l_put_missing ?c_put_missing ?k_put_missing ?a_moved ?l_moved ?c_moved ?k_moved ?a_stalls_wanted ?l_stalls_wanted ?c_stalls_wanted ?k_stalls_wanted ?a_Bhow_many ?i_Bhow_many ?l_Bhow_many ?c_Bhow_many ?k_Bhow_many ?a_Bworth ?i_Bworth ?l_Bworth ?c_Bworth ?k_Bworth ?a_Bfit ?i_Bfit ?l_Bfit ?c_Bfit ?k_Bfit ?a_Bbring ?i_Bbring ?l_Bbring ?c_Bbring ?k_Bbring ?a_Bwrite ?i_Bwrite ?l_Bwrite ?c_Bwrite ?k_Bwrite ?a_Bdrop ?i_Bdrop ?l_Bdrop ?c_Bdrop ?k_Bdrop ?a_Blayout ?i_Blayout ?l_Blayout ?c_Blayout ?k_Blayout ?a_alike ?l_alike ?c_alike ?k_alike ?a_changes ?l_changes ?c_changes ?k_changes ?a__law_cell ?l__law_cell ?c__law_cell ?k__law_cell ?a__law_mixed ?l__law_mixed ?c__law_mixed ?k__law_mixed ?a__law_size ?l__law_size ?c__law_size ?k__law_size ?a__law_other_way ?l__law_other_way ?c__law_other_way ?k__law_other_way ?a__law_taken ?l__law_taken ?c__law_taken ?k__law_taken ?a__law_truth ?l__law_truth ?c__law_truth ?k__law_truth ?a_law ?l_law ?c_law ?k_law ?pg ?hd ?po ?sa ?mk ?kc ?nM ?nR ?nC ?pgB ?hdB ?poB ?saB ?mkB ?kcB ?nYB ?nWB ?a_YardError ?a_NoSize ?e_NoSize ?m_NoSize ?v_NoSize ?cl_NoSize ?ga_NoSize ?gt_NoSize ?kl_NoSize ?gg_NoSize ?tk_NoSize ?ob_NoSize ?ex_NoSize ?a_Here ?e_Here ?m_Here ?v_Here ?cl_Here ?ga_Here ?gt_Here ?kl_Here ?gg_Here ?tk_Here ?ob_Here ?ex_Here ?a_Full ?e_Full ?m_Full ?v_Full ?cl_Full ?ga_Full ?gt_Full ?kl_Full ?gg_Full ?tk_Full ?ob_Full ?ex_Full ?a_NoCart ?e_NoCart ?m_NoCart ?v_NoCart ?cl_NoCart ?ga_NoCart ?gt_NoCart ?kl_NoCart ?gg_NoCart ?tk_NoCart ?ob_NoCart ?ex_NoCart ?q_FIRST ?q_FAR ?q_LEAST_STALLS ?q_MOST_STALLS ?q_MOST_NAMES ?q_SIZES ?l_SIZES ?z_len ?z_sorted ?z_list ?z_isinstance ?z_int ?z_bool ?z_tuple ?z_enumerate ?z_min ?z_set
    (case aC => k_is)
    (case aCB => k_is)
    (case a_i => k_is)
    (case i_i => k_is)
    (case l_i => k_is)
    (case c_i => k_is)
    (case k_i => k_is)
    (case a_Bi => k_is)
    (case i_Bi => k_is)
    (case l_Bi => k_is)
    (case c_Bi => k_is)
    (case k_Bi => k_is)
    (case a_is_size => k_is)
    (case l_is_size => k_is)
    (case c_is_size => k_is)
    (case k_is_size => k_is)
    (case a_way => k_is)
    (case l_way => k_is)
    (case c_way => k_is)
    (case k_way => k_is)
    (case a_keeps => k_is)
    (case l_keeps => k_is)
    (case c_keeps => k_is)
    (case k_keeps => k_is)
    (case a_passes => k_is)
    (case l_passes => k_is)
    (case c_passes => k_is)
    (case k_passes => k_is)
    (case a_wish => k_is)
    (case i_wish => k_is)
    (case l_wish => k_is)
    (case c_wish => k_is)
    (case k_wish => k_is)
    (case a_behind => k_is)
    (case i_behind => k_is)
    (case l_behind => k_is)
    (case c_behind => k_is)
    (case k_behind => k_is)
    (case a_stand => k_is)
    (case i_stand => k_is)
    (case l_stand => k_is)
    (case c_stand => k_is)
    (case k_stand => k_is)
    (case a_leads_on => k_is)
    (case i_leads_on => k_is)
    (case l_leads_on => k_is)
    (case c_leads_on => k_is)
    (case k_leads_on => k_is)
    (case a_looked => k_is)
    (case i_looked => k_is)
    (case l_looked => k_is)
    (case c_looked => k_is)
    (case k_looked => k_is)
    (case a_where => k_is)
    (case i_where => k_is)
    (case l_where => k_is)
    (case c_where => k_is)
    (case k_where => k_is)
    (case a_stalls => k_is)
    (case i_stalls => k_is)
    (case l_stalls => k_is)
    (case c_stalls => k_is)
    (case k_stalls => k_is)
    (case a_names => k_is)
    (case i_names => k_is)
    (case l_names => k_is)
    (case c_names => k_is)
    (case k_names => k_is)
    (case a_how_many => k_is)
    (case i_how_many => k_is)
    (case l_how_many => k_is)
    (case c_how_many => k_is)
    (case k_how_many => k_is)
    (case a_put => k_is)
    (case i_put => k_is)
    (case l_put => k_is)
    (case c_put => k_is)
    (case k_put => k_is)
    (case a_nearest_passing => k_is)
    (case i_nearest_passing => k_is)
    (case l_nearest_passing => k_is)
    (case c_nearest_passing => k_is)
    (case k_nearest_passing => k_is)
    (case a_take => k_is)
    (case i_take => k_is)
    (case l_take => k_is)
    (case c_take => k_is)
    (case k_take => k_is)
    (case a_put_missing => k_is)
    (case l_put_missing => k_is)
    (case c_put_missing => k_is)
    (case k_put_missing => k_is)
    (case a_moved => k_is)
    (case l_moved => k_is)
    (case c_moved => k_is)
    (case k_moved => k_is)
    (case a_stalls_wanted => k_is)
    (case l_stalls_wanted => k_is)
    (case c_stalls_wanted => k_is)
    (case k_stalls_wanted => k_is)
    (case a_Bhow_many => k_is)
    (case i_Bhow_many => k_is)
    (case l_Bhow_many => k_is)
    (case c_Bhow_many => k_is)
    (case k_Bhow_many => k_is)
    (case a_Bworth => k_is)
    (case i_Bworth => k_is)
    (case l_Bworth => k_is)
    (case c_Bworth => k_is)
    (case k_Bworth => k_is)
    (case a_Bfit => k_is)
    (case i_Bfit => k_is)
    (case l_Bfit => k_is)
    (case c_Bfit => k_is)
    (case k_Bfit => k_is)
    (case a_Bbring => k_is)
    (case i_Bbring => k_is)
    (case l_Bbring => k_is)
    (case c_Bbring => k_is)
    (case k_Bbring => k_is)
    (case a_Bwrite => k_is)
    (case i_Bwrite => k_is)
    (case l_Bwrite => k_is)
    (case c_Bwrite => k_is)
    (case k_Bwrite => k_is)
    (case a_Bdrop => k_is)
    (case i_Bdrop => k_is)
    (case l_Bdrop => k_is)
    (case c_Bdrop => k_is)
    (case k_Bdrop => k_is)
    (case a_Blayout => k_is)
    (case i_Blayout => k_is)
    (case l_Blayout => k_is)
    (case c_Blayout => k_is)
    (case k_Blayout => k_is)
    (case a_alike => k_is)
    (case l_alike => k_is)
    (case c_alike => k_is)
    (case k_alike => k_is)
    (case a_changes => k_is)
    (case l_changes => k_is)
    (case c_changes => k_is)
    (case k_changes => k_is)
    (case a__law_cell => k_is)
    (case l__law_cell => k_is)
    (case c__law_cell => k_is)
    (case k__law_cell => k_is)
    (case a__law_mixed => k_is)
    (case l__law_mixed => k_is)
    (case c__law_mixed => k_is)
    (case k__law_mixed => k_is)
    (case a__law_size => k_is)
    (case l__law_size => k_is)
    (case c__law_size => k_is)
    (case k__law_size => k_is)
    (case a__law_other_way => k_is)
    (case l__law_other_way => k_is)
    (case c__law_other_way => k_is)
    (case k__law_other_way => k_is)
    (case a__law_taken => k_is)
    (case l__law_taken => k_is)
    (case c__law_taken => k_is)
    (case k__law_taken => k_is)
    (case a__law_truth => k_is)
    (case l__law_truth => k_is)
    (case c__law_truth => k_is)
    (case k__law_truth => k_is)
    (case a_law => k_is)
    (case l_law => k_is)
    (case c_law => k_is)
    (case k_law => k_is)
    (case pg => k_is)
    (case hd => k_is)
    (case po => k_is)
    (case sa => k_is)
    (case mk => k_is)
    (case kc => k_is)
    (case nM => k_is)
    (case nR => k_is)
    (case nC => k_is)
    (case pgB => k_is)
    (case hdB => k_is)
    (case poB => k_is)
    (case saB => k_is)
    (case mkB => k_is)
    (case kcB => k_is)
    (case nYB => k_is)
    (case nWB => k_is)
    (case a_YardError => k_is)
    (case a_NoSize => k_is)
    (case e_NoSize => k_exc)
    (case m_NoSize => kts_exm)
    (case v_NoSize => kit_is)
    (case cl_NoSize => k_is)
    (case ga_NoSize => k_is)
    (case gt_NoSize => k_is)
    (case kl_NoSize => k_is)
    (case gg_NoSize => k_is)
    (case tk_NoSize => k_is)
    (case ob_NoSize => k_is)
    (case ex_NoSize => k_is)
    (case a_Here => k_is)
    (case e_Here => k_exc)
    (case m_Here => kts_exm)
    (case v_Here => kit_is)
    (case cl_Here => k_is)
    (case ga_Here => k_is)
    (case gt_Here => k_is)
    (case kl_Here => k_is)
    (case gg_Here => k_is)
    (case tk_Here => k_is)
    (case ob_Here => k_is)
    (case ex_Here => k_is)
    (case a_Full => k_is)
    (case e_Full => k_exc)
    (case m_Full => kts_exm)
    (case v_Full => kit_is)
    (case cl_Full => k_is)
    (case ga_Full => k_is)
    (case gt_Full => k_is)
    (case kl_Full => k_is)
    (case gg_Full => k_is)
    (case tk_Full => k_is)
    (case ob_Full => k_is)
    (case ex_Full => k_is)
    (case a_NoCart => k_is)
    (case e_NoCart => k_exc)
    (case m_NoCart => kts_exm)
    (case v_NoCart => kit_is)
    (case cl_NoCart => k_is)
    (case ga_NoCart => k_is)
    (case gt_NoCart => k_is)
    (case kl_NoCart => k_is)
    (case gg_NoCart => k_is)
    (case tk_NoCart => k_is)
    (case ob_NoCart => k_is)
    (case ex_NoCart => k_is)
    (case q_FIRST => k_is)
    (case q_FAR => k_is)
    (case q_LEAST_STALLS => k_is)
    (case q_MOST_STALLS => k_is)
    (case q_MOST_NAMES => k_is)
    (case q_SIZES => k_is)
    (case l_SIZES => k_is)
    (case z_len => k_is)
    (case z_sorted => k_is)
    (case z_list => k_is)
    (case z_isinstance => k_is)
    (case z_int => k_is)
    (case z_bool => k_is)
    (case z_tuple => k_is)
    (case z_enumerate => k_is)
    (case z_min => k_is)
    (case z_set => k_is)


